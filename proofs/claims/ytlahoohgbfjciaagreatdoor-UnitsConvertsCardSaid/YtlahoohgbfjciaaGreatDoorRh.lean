/- The specification's stretch. -/
import Derived.Test.YtlahoohgbfjciaaGreatDoorRg
namespace Go.Proofs.YtlahoohgbfjciaaGreatDoor
open Go.RowKit Go.Shelf

/-- two cells of words in memory of the call's own -/
structure TwoC (w : World) (b : Nat) (h l : Int) : Prop where
  c0 : w.cell? ⟨b, 0, none⟩ = some (.int .u64 h)
  c1 : w.cell? ⟨b, 1, none⟩ = some (.int .u64 l)
  fz : ∀ o, w.frozen? ⟨b, o, none⟩ = false
theorem TwoC.lt {w : World} {b : Nat} {h l : Int} (t : TwoC w b h l) : b < w.heap.size := World.block_lt_of_cell? _ _ t.c0
theorem TwoC.keep {w w' : World} {b : Nat} {h l : Int} (t : TwoC w b h l) (hb : Below w.heap.size w w') : TwoC w' b h l :=
  ⟨(hb.cell (p := ⟨b, 0, none⟩) t.lt).trans t.c0, (hb.cell (p := ⟨b, 1, none⟩) t.lt).trans t.c1, fun o => (hb.frozen (p := ⟨b, o, none⟩) t.lt).trans (t.fz o)⟩
theorem TwoC.set0 {w : World} {b : Nat} {h l : Int} (t : TwoC w b h l) (x : Int) : TwoC (w.setCell ⟨b, 0, none⟩ (.int .u64 x)) b x l :=
  ⟨World.cell?_setCell_same _ _ _ t.c0, (World.cell?_setCell_other _ _ _ _ (by simp)).trans t.c1, fun o => by rw [World.frozen?_setCell]; exact t.fz o⟩
theorem TwoC.set1 {w : World} {b : Nat} {h l : Int} (t : TwoC w b h l) (x : Int) : TwoC (w.setCell ⟨b, 1, none⟩ (.int .u64 x)) b h x :=
  ⟨(World.cell?_setCell_other _ _ _ _ (by simp)).trans t.c0, World.cell?_setCell_same _ _ _ t.c1, fun o => by rw [World.frozen?_setCell]; exact t.fz o⟩
theorem TwoC.other {w : World} {b g k : Nat} {h l : Int} {x : Value} (t : TwoC w b h l) (hne : g ≠ b) : TwoC (w.setCell ⟨g, k, none⟩ x) b h l :=
  ⟨(World.cell?_setCell_other _ _ _ _ (fun e => hne (congrArg Addr.block e))).trans t.c0, (World.cell?_setCell_other _ _ _ _ (fun e => hne (congrArg Addr.block e))).trans t.c1, fun o => by rw [World.frozen?_setCell]; exact t.fz o⟩
theorem TwoC.drew {w : World} {b : Nat} {h l : Int} (t : TwoC w b h l) : TwoC w.drew b h l := ⟨t.c0, t.c1, t.fz⟩
theorem twoc_fresh (w : World) (t : TypeId) (h l : Int) : TwoC (w.alloc (Obj.cells #[.int .u64 h, .int .u64 l] t)) w.heap.size h l := ⟨World.cell?_alloc_new _ _ _ _, World.cell?_alloc_new _ _ _ _, fun o => by simp⟩
theorem two_wides (w : World) (t : TypeId) (h l m k : Int) : ∃ (W : World) (a b : Nat), W = (w.alloc (Obj.cells #[.int .u64 h, .int .u64 l] t)).alloc (Obj.cells #[.int .u64 m, .int .u64 k] t) ∧ a = w.heap.size ∧ b = w.heap.size + 1 ∧ TwoC W a h l ∧ TwoC W b m k ∧ Below w.heap.size w W ∧ W.heap.size = w.heap.size + 2 := by
  have a := twoc_fresh w t h l
  have sz := World.size_alloc w (Obj.cells #[.int .u64 h, .int .u64 l] t)
  have b := twoc_fresh (w.alloc (Obj.cells #[.int .u64 h, .int .u64 l] t)) t m k
  rw [sz] at b
  have b1 := (Below.refl _ _).alloc (Nat.le_refl _) (w := w.alloc (Obj.cells #[.int .u64 h, .int .u64 l] t)) (Obj.cells #[.int .u64 m, .int .u64 k] t)
  exact ⟨_, _, _, rfl, rfl, rfl, a.keep b1, b, (((Below.refl w.heap.size w).alloc (Nat.le_refl _) _).alloc (by rw [sz]; omega) _), by rw [World.size_alloc, sz]⟩
theorem stretch_words (V b : Int) (hb : 0 ≤ b) (hb2 : b < 9223372036854775808) : loW (loW V * b) = loW (V * b) ∧ (hiW (loW V * b) + hiW V * b % 18446744073709551616) % 18446744073709551616 = hiW (V * b) := by
  have h := times_words V b (by omega) hb2
  have r2 := loW_range V
  have e1 : uns b = b := by unfold uns; omega
  rw [e1] at h
  have w1 := words_mul (loW V) b r2.1 r2.2 hb (by omega)
  refine ⟨by rw [w1.2]; exact h.1, ?_⟩
  rw [w1.1, ← h.2.2 hb]
  unfold uns
  rfl
set_option maxHeartbeats 1000000 in
theorem rstretch_any (V b : Int) (w : World) (hb : 0 ≤ b) (hb2 : b < 9223372036854775808) :
    Calls Tryz.prog 18 #[pairV V, .int .u64 b] w fun e w' => e = .returned (pairV (V * b)) ∧ Below w.heap.size w w' := by
  have hw := stretch_words V b hb hb2
  have r1 := hiW_range V
  have r2 := loW_range V
  have r3 := hiW_range (loW V * b)
  have hp := fun w => rproduct_any (loW V) b w r2.1 r2.2 hb (by omega)
  have hx0 : 0 ≤ hiW V * b := Int.mul_nonneg r1.1 hb
  simp only [pairV, wordsV] at hp ⊢
  obtain ⟨h1, hh1⟩ : ∃ x, x = hiW V := ⟨_, rfl⟩
  obtain ⟨l1, hl1⟩ : ∃ x, x = loW V := ⟨_, rfl⟩
  rw [← hh1, ← hl1] at hw
  rw [← hl1] at hp r2 r3
  rw [← hh1] at hx0 r1
  rw [← hh1, ← hl1]
  obtain ⟨ph, hph⟩ : ∃ x, x = hiW (l1 * b) := ⟨_, rfl⟩
  obtain ⟨pl, hpl⟩ : ∃ x, x = loW (l1 * b) := ⟨_, rfl⟩
  rw [← hph, ← hpl] at hp hw
  rw [← hph] at r3
  obtain ⟨M, hM⟩ : ∃ x, x = h1 * b % 18446744073709551616 := ⟨_, rfl⟩
  rw [← hM] at hw
  obtain ⟨X, hX⟩ : ∃ x, x = hiW (V * b) := ⟨_, rfl⟩
  obtain ⟨Y, hY⟩ : ∃ x, x = loW (V * b) := ⟨_, rfl⟩
  rw [← hX, ← hY] at hw
  rw [← hX, ← hY]
  obtain ⟨rfl, w2⟩ := hw
  have q1 : IntKind.u64.wrap (h1 * b) = M := by rw [wrapU, hM]; rfl
  have q2 : IntKind.u64.wrap (ph + M) = X := by rw [wrapU, ← w2]; rfl
  have HP := Lib.hid hp
  clear hp hph hpl hM hX hY hh1 hl1 hx0 r1 r2 r3 hb hb2 w2
  go_enter Tryz.func18, Tryz.ntmps18
  go_upto_region 1 with fail
  obtain ⟨W, a, R, hW, ha, hR, A1, R1, B1, sz⟩ := two_wides w 44 h1 l1 0 0
  rw [← hW]
  try rw [← hR]
  try rw [← ha]
  have HA := Lib.hid A1
  have HR := Lib.hid R1
  have HB := Lib.hid B1
  have HN := Lib.hid (show w.heap.size ≤ R by omega)
  clear hW ha hR sz A1 R1 B1
  obtain ⟨a0, a1, az⟩ := HA.out
  go_wp2_with fail
  refine (HP.out _).mono ?_
  rintro e w1 ⟨rfl, hb⟩
  clear a0 a1 az
  have hk := hb.alloc hb.size (Obj.cells #[.int .u64 ph, .int .u64 pl] 44)
  have HA1 := Lib.hid (HA.out.keep hk)
  have HR1 := Lib.hid (HR.out.keep hk)
  have HB1 := Lib.hid (HB.out.trans (hk.mono HB.out.size))
  have HO1 := Lib.hid (twoc_fresh w1 44 ph pl)
  have HW1 := Lib.hid (show w.heap.size ≤ w1.heap.size from Nat.le_trans HB.out.size hb.size)
  have HNe := Lib.hid (show w1.heap.size ≠ R by have := HR.out.lt; have := hb.size; omega)
  clear hb hk HA HR HB
  obtain ⟨W2, hW2⟩ : ∃ x, x = w1.alloc (Obj.cells #[.int .u64 ph, .int .u64 pl] 44) := ⟨_, rfl⟩
  obtain ⟨o, ho⟩ : ∃ x, x = w1.heap.size := ⟨_, rfl⟩
  go_upto_region 2 with fail
  rw [← hW2, ← ho]
  rw [← hW2] at HA1 HR1 HB1 HO1
  rw [← ho] at HO1 HW1 HNe
  clear hW2 ho
  obtain ⟨a0, a1, az⟩ := HA1.out
  obtain ⟨o0, o1, oz⟩ := HO1.out
  go_upto_region 3 with fail
  have HO2 := Lib.hid (HO1.out.set0 X)
  have HR2 := Lib.hid (HR1.out.other (k := 0) (x := .int .u64 X) HNe.out)
  have HB2 := Lib.hid (HB1.out.setCell (p := ⟨o, 0, none⟩) HW1.out (.int .u64 X))
  obtain ⟨W3, hW3⟩ : ∃ x, x = W2.setCell ⟨o, 0, none⟩ (.int .u64 X) := ⟨_, rfl⟩
  rw [← hW3]
  rw [← hW3] at HO2 HR2 HB2
  clear hW3 a0 a1 az o0 o1 oz
  obtain ⟨o0, o1, oz⟩ := HO2.out
  obtain ⟨r0, r1, rz⟩ := HR2.out
  have k0 : ((W3.setCell ⟨R, 0, none⟩ (.int .u64 X)).setCell ⟨R, 1, none⟩ (.int .u64 pl)).cell? ⟨R, 0, none⟩ = some (.int .u64 X) := ((HR2.out.set0 X).set1 pl).c0
  have k1 : ((W3.setCell ⟨R, 0, none⟩ (.int .u64 X)).setCell ⟨R, 1, none⟩ (.int .u64 pl)).cell? ⟨R, 1, none⟩ = some (.int .u64 pl) := ((HR2.out.set0 X).set1 pl).c1
  go_wp2_with fail
  (try simp only [Exit.inBlock, Exit.then])
  refine bodyPost_ret (v := .agg #[.int .u64 X, .int .u64 pl]) (by simp [results, Tryz.results18, go_sem, k0, k1]; try rfl) rfl ?_
  first | exact ⟨rfl, (HB2.out.setCell HN.out _).setCell HN.out _⟩ | exact ⟨rfl, ((HB2.out.setCell HN.out _).setCell HN.out _).drew⟩
end Go.Proofs.YtlahoohgbfjciaaGreatDoor
