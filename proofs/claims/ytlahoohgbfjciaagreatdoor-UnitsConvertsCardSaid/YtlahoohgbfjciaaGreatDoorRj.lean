/- The specification's sum of two numbers with signs. -/
import Derived.Test.YtlahoohgbfjciaaGreatDoorRi
namespace Go.Proofs.YtlahoohgbfjciaaGreatDoor
open Go.RowKit Go.Shelf

structure SgnC (w : World) (b : Nat) (s : Bool) (h l : Int) : Prop where
  c0 : w.cell? ⟨b, 0, none⟩ = some (.bool s)
  c1 : w.cell? ⟨b, 1, none⟩ = some (.int .u64 h)
  c2 : w.cell? ⟨b, 2, none⟩ = some (.int .u64 l)
  fz : ∀ o, w.frozen? ⟨b, o, none⟩ = false
section
variable {w w' : World} {b : Nat} {s : Bool} {h l : Int}
theorem SgnC.lt (t : SgnC w b s h l) : b < w.heap.size := World.block_lt_of_cell? _ _ t.c0
theorem SgnC.keep (t : SgnC w b s h l) (hb : Below w.heap.size w w') : SgnC w' b s h l :=
  ⟨(hb.cell (p := ⟨b, 0, none⟩) t.lt).trans t.c0, (hb.cell (p := ⟨b, 1, none⟩) t.lt).trans t.c1, (hb.cell (p := ⟨b, 2, none⟩) t.lt).trans t.c2, fun o => (hb.frozen (p := ⟨b, o, none⟩) t.lt).trans (t.fz o)⟩
theorem SgnC.drew (t : SgnC w b s h l) : SgnC w.drew b s h l := ⟨t.c0, t.c1, t.c2, t.fz⟩
theorem SgnC.other {g k : Nat} {x : Value} (t : SgnC w b s h l) (hne : g ≠ b) : SgnC (w.setCell ⟨g, k, none⟩ x) b s h l := by
  have hc : ∀ j, (w.setCell ⟨g, k, none⟩ x).cell? ⟨b, j, none⟩ = w.cell? ⟨b, j, none⟩ := fun j => World.cell?_setCell_other _ _ _ _ (fun e => hne (congrArg Addr.block e))
  exact ⟨(hc 0).trans t.c0, (hc 1).trans t.c1, (hc 2).trans t.c2, fun o => by rw [World.frozen?_setCell]; exact t.fz o⟩
theorem SgnC.set3 (t : SgnC w b s h l) (s' : Bool) (h' l' : Int) : SgnC (((w.setCell ⟨b, 0, none⟩ (.bool s')).setCell ⟨b, 1, none⟩ (.int .u64 h')).setCell ⟨b, 2, none⟩ (.int .u64 l')) b s' h' l' := by
  refine ⟨?_, ?_, ?_, fun o => by rw [World.frozen?_setCell, World.frozen?_setCell, World.frozen?_setCell]; exact t.fz o⟩
  · rw [World.cell?_setCell_other _ _ _ _ (by simp), World.cell?_setCell_other _ _ _ _ (by simp)]; exact World.cell?_setCell_same _ _ _ t.c0
  · rw [World.cell?_setCell_other _ _ _ _ (by simp)]; exact World.cell?_setCell_same _ _ _ (by rw [World.cell?_setCell_other _ _ _ _ (by simp)]; exact t.c1)
  · exact World.cell?_setCell_same _ _ _ (by rw [World.cell?_setCell_other _ _ _ _ (by simp), World.cell?_setCell_other _ _ _ _ (by simp)]; exact t.c2)
end
theorem sgn_fresh (w : World) (t : TypeId) (s : Bool) (h l : Int) : SgnC (w.alloc (Obj.cells #[.bool s, .int .u64 h, .int .u64 l] t)) w.heap.size s h l := ⟨World.cell?_alloc_new _ _ _ _, World.cell?_alloc_new _ _ _ _, World.cell?_alloc_new _ _ _ _, fun o => by simp⟩
theorem three_signed (w : World) (T : TypeId) (s : Bool) (mh ml : Int) (t : Bool) (nh nl : Int) : ∃ (W : World) (a b R : Nat), W = ((w.alloc (Obj.cells #[.bool s, .int .u64 mh, .int .u64 ml] T)).alloc (Obj.cells #[.bool t, .int .u64 nh, .int .u64 nl] T)).alloc (Obj.cells #[.bool false, .int .u64 0, .int .u64 0] T) ∧ a = w.heap.size ∧ b = w.heap.size + 1 ∧ R = w.heap.size + 2 ∧ SgnC W a s mh ml ∧ SgnC W b t nh nl ∧ SgnC W R false 0 0 ∧ Below w.heap.size w W := by
  have a := sgn_fresh w T s mh ml
  have s1 := World.size_alloc w (Obj.cells #[.bool s, .int .u64 mh, .int .u64 ml] T)
  have k1 := (Below.refl w.heap.size w).alloc (Nat.le_refl _) (Obj.cells #[.bool s, .int .u64 mh, .int .u64 ml] T)
  obtain ⟨W1, hW1⟩ : ∃ x, x = w.alloc (Obj.cells #[.bool s, .int .u64 mh, .int .u64 ml] T) := ⟨_, rfl⟩
  rw [← hW1] at a s1 k1
  have b := sgn_fresh W1 T t nh nl
  have s2 := World.size_alloc W1 (Obj.cells #[.bool t, .int .u64 nh, .int .u64 nl] T)
  have k2 := (Below.refl W1.heap.size W1).alloc (Nat.le_refl _) (Obj.cells #[.bool t, .int .u64 nh, .int .u64 nl] T)
  obtain ⟨W2, hW2⟩ : ∃ x, x = W1.alloc (Obj.cells #[.bool t, .int .u64 nh, .int .u64 nl] T) := ⟨_, rfl⟩
  rw [← hW2] at b s2 k2
  have c := sgn_fresh W2 T false 0 0
  have k3 := (Below.refl W2.heap.size W2).alloc (Nat.le_refl _) (Obj.cells #[.bool false, .int .u64 0, .int .u64 0] T)
  rw [s1] at b
  rw [s2, s1] at c
  exact ⟨_, w.heap.size, w.heap.size + 1, w.heap.size + 2, by rw [← hW1, ← hW2], rfl, rfl, rfl, (a.keep k2).keep k3, b.keep k3, c, (k1.trans (k2.mono (by omega))).trans (k3.mono (by omega))⟩
structure SumF (w : World) (a b : Nat) (s : Bool) (mh ml : Int) (t : Bool) (nh nl : Int) (w' : World) : Prop where
  A : SgnC w' a s mh ml
  B : SgnC w' b t nh nl
  bel : Below w.heap.size w w'
abbrev S5 (w : World) (a b : Nat) (s : Bool) (mh ml : Int) (t : Bool) (nh nl : Int) (w' : World) : Prop := w'.cell? ⟨a, 0, none⟩ = some (.bool s) ∧ w'.cell? ⟨a, 1, none⟩ = some (.int .u64 mh) ∧ w'.cell? ⟨a, 2, none⟩ = some (.int .u64 ml) ∧ w'.cell? ⟨b, 0, none⟩ = some (.bool t) ∧ w'.cell? ⟨b, 1, none⟩ = some (.int .u64 nh) ∧ w'.cell? ⟨b, 2, none⟩ = some (.int .u64 nl) ∧ SumF w a b s mh ml t nh nl w'
section
variable {w w' w2 : World} {a b R : Nat} {s t : Bool} {mh ml nh nl : Int}
theorem SumF.keep (f : SumF w a b s mh ml t nh nl w') (hb : Below w'.heap.size w' w2) : SumF w a b s mh ml t nh nl w2 := ⟨f.A.keep hb, f.B.keep hb, f.bel.trans (hb.mono f.bel.size)⟩
theorem SumF.drew (f : SumF w a b s mh ml t nh nl w') : SumF w a b s mh ml t nh nl w'.drew := ⟨f.A.drew, f.B.drew, f.bel.drew⟩
theorem SumF.store (f : SumF w a b s mh ml t nh nl w') (hN : w.heap.size ≤ R ∧ R ≠ a ∧ R ≠ b) (k : Nat) (x : Value) : SumF w a b s mh ml t nh nl (w'.setCell ⟨R, k, none⟩ x) := ⟨f.A.other hN.2.1, f.B.other hN.2.2, f.bel.setCell hN.1 _⟩
theorem s5_of (f : SumF w a b s mh ml t nh nl w') : S5 w a b s mh ml t nh nl w' := ⟨f.A.c0, f.A.c1, f.A.c2, f.B.c0, f.B.c1, f.B.c2, f⟩
theorem s5_keep (hb : Below w'.heap.size w' w2) (c : S5 w a b s mh ml t nh nl w') : S5 w a b s mh ml t nh nl w2 := s5_of (c.2.2.2.2.2.2.keep hb)
theorem s5_drew (c : S5 w a b s mh ml t nh nl w') : S5 w a b s mh ml t nh nl w'.drew := s5_of c.2.2.2.2.2.2.drew
theorem s5_store3 (c : S5 w a b s mh ml t nh nl w') (hN : w.heap.size ≤ R ∧ R ≠ a ∧ R ≠ b) (x y z : Value) : S5 w a b s mh ml t nh nl (((w'.setCell ⟨R, 0, none⟩ x).setCell ⟨R, 1, none⟩ y).setCell ⟨R, 2, none⟩ z) := s5_of (((c.2.2.2.2.2.2.store hN 0 x).store hN 1 y).store hN 2 z)
theorem s5_store3d (c : S5 w a b s mh ml t nh nl w') (hN : w.heap.size ≤ R ∧ R ≠ a ∧ R ≠ b) (x y z : Value) : S5 w a b s mh ml t nh nl (((w'.setCell ⟨R, 0, none⟩ x).setCell ⟨R, 1, none⟩ y).setCell ⟨R, 2, none⟩ z).drew := s5_drew (s5_store3 c hN x y z)
end
/-- the sum of two numbers with signs, as a sign and a size -/
def sumP (s : Bool) (M : Int) (t : Bool) (N : Int) : Bool × Int := if s = t then (s, M + N) else if M < N then (t, N - M) else (s, M - N)
def sumV (s : Bool) (M : Int) (t : Bool) (N : Int) : Value := if s = t then sgnV s (M + N) else if M < N then sgnV t (N - M) else sgnV s (M - N)
theorem sumV_eq (s : Bool) (M : Int) (t : Bool) (N : Int) : sumV s M t N = sgnV (sumP s M t N).1 (sumP s M t N).2 := by
  unfold sumV sumP
  split
  · rfl
  · split <;> rfl
set_option maxRecDepth 100000 in
set_option maxHeartbeats 4000000 in
theorem rsum_any (s : Bool) (M : Int) (t : Bool) (N : Int) (w : World) (hM : 0 ≤ M ∧ M < 340282366920938463463374607431768211456) (hN : 0 ≤ N ∧ N < 340282366920938463463374607431768211456) :
    Calls Tryz.prog 15 #[sgnV s M, sgnV t N] w fun e w' => e = .returned (sumV s M t N) ∧ Below w.heap.size w w' := by
  obtain ⟨mh, hmh⟩ : ∃ x, x = hiW M := ⟨_, rfl⟩
  obtain ⟨ml, hml⟩ : ∃ x, x = loW M := ⟨_, rfl⟩
  obtain ⟨nh, hnh⟩ : ∃ x, x = hiW N := ⟨_, rfl⟩
  obtain ⟨nl, hnl⟩ : ∃ x, x = loW N := ⟨_, rfl⟩
  unfold sgnV
  rw [← hmh, ← hml, ← hnh, ← hnl]
  by_cases hst : s = t
  · subst hst
    have hres : sumV s M s N = .agg #[.bool s, .int .u64 (hiW (M + N)), .int .u64 (loW (M + N))] := by unfold sumV; rw [if_pos rfl]; rfl
    have hc := fun w => rplus_any M N w
    simp only [pairV, wordsV] at hc
    rw [← hmh, ← hml, ← hnh, ← hnl] at hc
    obtain ⟨xh, hxh⟩ : ∃ x, x = hiW (M + N) := ⟨_, rfl⟩
    obtain ⟨xl, hxl⟩ : ∃ x, x = loW (M + N) := ⟨_, rfl⟩
    rw [← hxh, ← hxl] at hc hres
    have HC := Lib.hid hc
    have HRes := Lib.hid hres
    clear hc hres hxh hxl hmh hml hnh hnl hM hN
    go_enter Tryz.func15, Tryz.ntmps15
    go_upto_region 1 with fail
    obtain ⟨W, a, b, R, hW, ha, hb, hR, A1, B1, R1, bel⟩ := three_signed w 46 s mh ml s nh nl
    rw [← hW]
    try rw [← hR]
    try rw [← hb]
    try rw [← ha]
    have HS := Lib.hid (show SumF w a b s mh ml s nh nl W from ⟨A1, B1, bel⟩)
    have HR := Lib.hid R1
    have HN := Lib.hid (show w.heap.size ≤ R ∧ R ≠ a ∧ R ≠ b by omega)
    clear hW ha hb hR A1 B1 R1 bel
    obtain ⟨a0, a1, a2, az⟩ := HS.out.A
    obtain ⟨b0, b1, b2, bz⟩ := HS.out.B
    have HA := Lib.hid (s5_of HS.out)
    have HAA := Lib.hid (s5_of HS.out.drew)
    unfold S5 at HA HAA
    go_wp2_with fail
    go_region_held3 (fun w' => w'.cell? ⟨a, 0, none⟩ = some (.bool s) ∧ w'.cell? ⟨a, 1, none⟩ = some (.int .u64 mh) ∧ w'.cell? ⟨a, 2, none⟩ = some (.int .u64 ml) ∧ w'.cell? ⟨b, 0, none⟩ = some (.bool s) ∧ w'.cell? ⟨b, 1, none⟩ = some (.int .u64 nh) ∧ w'.cell? ⟨b, 2, none⟩ = some (.int .u64 nl) ∧ SumF w a b s mh ml s nh nl w')
      (first | (with_reducible exact HA.out) | (with_reducible exact HAA.out) | (with_reducible exact s5_keep hb2 (by assumption)) | (with_reducible exact s5_drew (by assumption)) | (exact s5_store3 (by assumption) HN.out _ _ _) | (exact s5_store3d (by assumption) HN.out _ _ _) | go_keep)
      (first | (go_at_call 31; refine (HC.out _).mono ?_; rintro e x1 ⟨rfl, hb2⟩; have HS1 : Hid (S5 w a b s mh ml s nh nl x1) := s5_keep hb2 ‹_›; (first | (have HR1 := Lib.hid (HR.out.keep hb2)) | (have HR1 := Lib.hid (HR.out.drew.keep hb2))); obtain ⟨r0, r1, r2, rz⟩ := HR1.out))
    all_goals
      rename_i hHeld
      clear hHeld HA HAA
      have HB1 := Lib.hid HS1.out.2.2.2.2.2.2.bel
      clear HS1
      have k0 : (((x1.setCell ⟨R, 0, none⟩ (.bool s)).setCell ⟨R, 1, none⟩ (.int .u64 xh)).setCell ⟨R, 2, none⟩ (.int .u64 xl)).cell? ⟨R, 0, none⟩ = some (.bool s) := (HR1.out.set3 s xh xl).c0
      have k1 : (((x1.setCell ⟨R, 0, none⟩ (.bool s)).setCell ⟨R, 1, none⟩ (.int .u64 xh)).setCell ⟨R, 2, none⟩ (.int .u64 xl)).cell? ⟨R, 1, none⟩ = some (.int .u64 xh) := (HR1.out.set3 s xh xl).c1
      have k2 : (((x1.setCell ⟨R, 0, none⟩ (.bool s)).setCell ⟨R, 1, none⟩ (.int .u64 xh)).setCell ⟨R, 2, none⟩ (.int .u64 xl)).cell? ⟨R, 2, none⟩ = some (.int .u64 xl) := (HR1.out.set3 s xh xl).c2
      go_wp2_with fail
      (try simp only [Exit.inBlock, Exit.then])
      refine bodyPost_ret (v := .agg #[.bool s, .int .u64 xh, .int .u64 xl]) (by simp [results, Tryz.results15, go_sem, k0, k1, k2]; try rfl) rfl ?_
      first | exact ⟨by rw [HRes.out], ((HB1.out.setCell HN.out.1 _).setCell HN.out.1 _).setCell HN.out.1 _⟩ | exact ⟨by rw [HRes.out], (((HB1.out.setCell HN.out.1 _).setCell HN.out.1 _).setCell HN.out.1 _).drew⟩
  · have hne : (s == t) = false := by cases s <;> cases t <;> simp_all
    have HST := Lib.hid hst
    clear hst
    have hless := fun w => rless_any M N w hM.1 hM.2 hN.1 hN.2
    simp only [pairV, wordsV] at hless
    rw [← hmh, ← hml, ← hnh, ← hnl] at hless
    by_cases hlt : M < N
    · have hres : sumV s M t N = .agg #[.bool t, .int .u64 (hiW (N - M)), .int .u64 (loW (N - M))] := by unfold sumV; rw [if_neg HST.out, if_pos hlt]; rfl
      have hc := fun w => rminus_any N M w
      simp only [pairV, wordsV] at hc
      rw [← hmh, ← hml, ← hnh, ← hnl] at hc
      obtain ⟨xh, hxh⟩ : ∃ x, x = hiW (N - M) := ⟨_, rfl⟩
      obtain ⟨xl, hxl⟩ : ∃ x, x = loW (N - M) := ⟨_, rfl⟩
      rw [← hxh, ← hxl] at hc hres
      have hl := fun w => hless w
      rw [decide_eq_true hlt] at hl
      have HL := Lib.hid hl
      have HC := Lib.hid hc
      have HRes := Lib.hid hres
      clear hc hres hxh hxl hmh hml hnh hnl hM hN hl hless hlt
      go_enter Tryz.func15, Tryz.ntmps15
      go_upto_region 1 with fail
      obtain ⟨W, a, b, R, hW, ha, hb, hR, A1, B1, R1, bel⟩ := three_signed w 46 s mh ml t nh nl
      rw [← hW]
      try rw [← hR]
      try rw [← hb]
      try rw [← ha]
      have HS := Lib.hid (show SumF w a b s mh ml t nh nl W from ⟨A1, B1, bel⟩)
      have HR := Lib.hid R1
      have HN := Lib.hid (show w.heap.size ≤ R ∧ R ≠ a ∧ R ≠ b by omega)
      clear hW ha hb hR A1 B1 R1 bel
      obtain ⟨a0, a1, a2, az⟩ := HS.out.A
      obtain ⟨b0, b1, b2, bz⟩ := HS.out.B
      go_wp2_with fail
      refine (HL.out _).mono ?_
      rintro e w1 ⟨rfl, hb⟩
      have HS0 := HS
      have HR0 := HR
      clear HS HR
      have HS := Lib.hid (HS0.out.keep hb)
      have HR := Lib.hid (HR0.out.keep hb)
      clear hb HS0 HR0 a0 a1 a2 az b0 b1 b2 bz
      obtain ⟨a0, a1, a2, az⟩ := HS.out.A
      obtain ⟨b0, b1, b2, bz⟩ := HS.out.B
      have HA := Lib.hid (s5_of HS.out)
      have HAA := Lib.hid (s5_of HS.out.drew)
      unfold S5 at HA HAA
      go_wp2_with fail
      go_region_held3 (fun w' => w'.cell? ⟨a, 0, none⟩ = some (.bool s) ∧ w'.cell? ⟨a, 1, none⟩ = some (.int .u64 mh) ∧ w'.cell? ⟨a, 2, none⟩ = some (.int .u64 ml) ∧ w'.cell? ⟨b, 0, none⟩ = some (.bool t) ∧ w'.cell? ⟨b, 1, none⟩ = some (.int .u64 nh) ∧ w'.cell? ⟨b, 2, none⟩ = some (.int .u64 nl) ∧ SumF w a b s mh ml t nh nl w')
        (first | (with_reducible exact HA.out) | (with_reducible exact HAA.out) | (with_reducible exact s5_keep hb2 (by assumption)) | (with_reducible exact s5_drew (by assumption)) | (exact s5_store3 (by assumption) HN.out _ _ _) | (exact s5_store3d (by assumption) HN.out _ _ _) | go_keep)
        (first | (go_at_call 33; refine (HC.out _).mono ?_; rintro e x1 ⟨rfl, hb2⟩; have HS1 : Hid (S5 w a b s mh ml t nh nl x1) := s5_keep hb2 ‹_›; (first | (have HR1 := Lib.hid (HR.out.keep hb2)) | (have HR1 := Lib.hid (HR.out.drew.keep hb2))); obtain ⟨r0, r1, r2, rz⟩ := HR1.out))
      all_goals
        rename_i hHeld
        clear hHeld HA HAA
        have HB1 := Lib.hid HS1.out.2.2.2.2.2.2.bel
        clear HS1
        have k0 : (((x1.setCell ⟨R, 0, none⟩ (.bool t)).setCell ⟨R, 1, none⟩ (.int .u64 xh)).setCell ⟨R, 2, none⟩ (.int .u64 xl)).cell? ⟨R, 0, none⟩ = some (.bool t) := (HR1.out.set3 t xh xl).c0
        have k1 : (((x1.setCell ⟨R, 0, none⟩ (.bool t)).setCell ⟨R, 1, none⟩ (.int .u64 xh)).setCell ⟨R, 2, none⟩ (.int .u64 xl)).cell? ⟨R, 1, none⟩ = some (.int .u64 xh) := (HR1.out.set3 t xh xl).c1
        have k2 : (((x1.setCell ⟨R, 0, none⟩ (.bool t)).setCell ⟨R, 1, none⟩ (.int .u64 xh)).setCell ⟨R, 2, none⟩ (.int .u64 xl)).cell? ⟨R, 2, none⟩ = some (.int .u64 xl) := (HR1.out.set3 t xh xl).c2
        go_wp2_with fail
        (try simp only [Exit.inBlock, Exit.then])
        refine bodyPost_ret (v := .agg #[.bool t, .int .u64 xh, .int .u64 xl]) (by simp [results, Tryz.results15, go_sem, k0, k1, k2]; try rfl) rfl ?_
        first | exact ⟨by rw [HRes.out], ((HB1.out.setCell HN.out.1 _).setCell HN.out.1 _).setCell HN.out.1 _⟩ | exact ⟨by rw [HRes.out], (((HB1.out.setCell HN.out.1 _).setCell HN.out.1 _).setCell HN.out.1 _).drew⟩
    · have hres : sumV s M t N = .agg #[.bool s, .int .u64 (hiW (M - N)), .int .u64 (loW (M - N))] := by unfold sumV; rw [if_neg HST.out, if_neg hlt]; rfl
      have hc := fun w => rminus_any M N w
      simp only [pairV, wordsV] at hc
      rw [← hmh, ← hml, ← hnh, ← hnl] at hc
      obtain ⟨xh, hxh⟩ : ∃ x, x = hiW (M - N) := ⟨_, rfl⟩
      obtain ⟨xl, hxl⟩ : ∃ x, x = loW (M - N) := ⟨_, rfl⟩
      rw [← hxh, ← hxl] at hc hres
      have hl := fun w => hless w
      rw [decide_eq_false hlt] at hl
      have HL := Lib.hid hl
      have HC := Lib.hid hc
      have HRes := Lib.hid hres
      clear hc hres hxh hxl hmh hml hnh hnl hM hN hl hless hlt
      go_enter Tryz.func15, Tryz.ntmps15
      go_upto_region 1 with fail
      obtain ⟨W, a, b, R, hW, ha, hb, hR, A1, B1, R1, bel⟩ := three_signed w 46 s mh ml t nh nl
      rw [← hW]
      try rw [← hR]
      try rw [← hb]
      try rw [← ha]
      have HS := Lib.hid (show SumF w a b s mh ml t nh nl W from ⟨A1, B1, bel⟩)
      have HR := Lib.hid R1
      have HN := Lib.hid (show w.heap.size ≤ R ∧ R ≠ a ∧ R ≠ b by omega)
      clear hW ha hb hR A1 B1 R1 bel
      obtain ⟨a0, a1, a2, az⟩ := HS.out.A
      obtain ⟨b0, b1, b2, bz⟩ := HS.out.B
      go_wp2_with fail
      refine (HL.out _).mono ?_
      rintro e w1 ⟨rfl, hb⟩
      have HS0 := HS
      have HR0 := HR
      clear HS HR
      have HS := Lib.hid (HS0.out.keep hb)
      have HR := Lib.hid (HR0.out.keep hb)
      clear hb HS0 HR0 a0 a1 a2 az b0 b1 b2 bz
      obtain ⟨a0, a1, a2, az⟩ := HS.out.A
      obtain ⟨b0, b1, b2, bz⟩ := HS.out.B
      have HA := Lib.hid (s5_of HS.out)
      have HAA := Lib.hid (s5_of HS.out.drew)
      unfold S5 at HA HAA
      go_wp2_with fail
      go_region_held3 (fun w' => w'.cell? ⟨a, 0, none⟩ = some (.bool s) ∧ w'.cell? ⟨a, 1, none⟩ = some (.int .u64 mh) ∧ w'.cell? ⟨a, 2, none⟩ = some (.int .u64 ml) ∧ w'.cell? ⟨b, 0, none⟩ = some (.bool t) ∧ w'.cell? ⟨b, 1, none⟩ = some (.int .u64 nh) ∧ w'.cell? ⟨b, 2, none⟩ = some (.int .u64 nl) ∧ SumF w a b s mh ml t nh nl w')
        (first | (with_reducible exact HA.out) | (with_reducible exact HAA.out) | (with_reducible exact s5_keep hb2 (by assumption)) | (with_reducible exact s5_drew (by assumption)) | (exact s5_store3 (by assumption) HN.out _ _ _) | (exact s5_store3d (by assumption) HN.out _ _ _) | go_keep)
        (first | (go_at_call 33; refine (HC.out _).mono ?_; rintro e x1 ⟨rfl, hb2⟩; have HS1 : Hid (S5 w a b s mh ml t nh nl x1) := s5_keep hb2 ‹_›; (first | (have HR1 := Lib.hid (HR.out.keep hb2)) | (have HR1 := Lib.hid (HR.out.drew.keep hb2))); obtain ⟨r0, r1, r2, rz⟩ := HR1.out))
      all_goals
        rename_i hHeld
        clear hHeld HA HAA
        have HB1 := Lib.hid HS1.out.2.2.2.2.2.2.bel
        clear HS1
        have k0 : (((x1.setCell ⟨R, 0, none⟩ (.bool s)).setCell ⟨R, 1, none⟩ (.int .u64 xh)).setCell ⟨R, 2, none⟩ (.int .u64 xl)).cell? ⟨R, 0, none⟩ = some (.bool s) := (HR1.out.set3 s xh xl).c0
        have k1 : (((x1.setCell ⟨R, 0, none⟩ (.bool s)).setCell ⟨R, 1, none⟩ (.int .u64 xh)).setCell ⟨R, 2, none⟩ (.int .u64 xl)).cell? ⟨R, 1, none⟩ = some (.int .u64 xh) := (HR1.out.set3 s xh xl).c1
        have k2 : (((x1.setCell ⟨R, 0, none⟩ (.bool s)).setCell ⟨R, 1, none⟩ (.int .u64 xh)).setCell ⟨R, 2, none⟩ (.int .u64 xl)).cell? ⟨R, 2, none⟩ = some (.int .u64 xl) := (HR1.out.set3 s xh xl).c2
        go_wp2_with fail
        (try simp only [Exit.inBlock, Exit.then])
        refine bodyPost_ret (v := .agg #[.bool s, .int .u64 xh, .int .u64 xl]) (by simp [results, Tryz.results15, go_sem, k0, k1, k2]; try rfl) rfl ?_
        first | exact ⟨by rw [HRes.out], ((HB1.out.setCell HN.out.1 _).setCell HN.out.1 _).setCell HN.out.1 _⟩ | exact ⟨by rw [HRes.out], (((HB1.out.setCell HN.out.1 _).setCell HN.out.1 _).setCell HN.out.1 _).drew⟩

end Go.Proofs.YtlahoohgbfjciaaGreatDoor
