/- The contract of units.Parse. -/
import Derived.Test.YtlahoohgbfjciaaGreatDoorVm
namespace Go.Proofs.YtlahoohgbfjciaaGreatDoor
open Go.RowKit Go.Shelf

theorem own_some {w : World} {base : Nat} {e : TypeId} {sz n : Nat} {v : Value} {xs : List Value} (h : w.ownsRow base e sz v n xs) (hn : 1 ≤ n) : ∃ g cap, v = .slice (some ⟨g, 0, none⟩) n cap := by
  rcases h.2 with ⟨_, rfl⟩ | ⟨g, cap, cur, rfl, _⟩
  · omega
  · exact ⟨g, cap, rfl⟩
theorem parts_pos (s : ByteArray) (c : UInt8) : 1 ≤ (partsB s c).length := by
  have hlen : (partsB s c).length = Lib.countB s ⟨#[c]⟩ + 1 := Lib.splitB_all ⟨#[c]⟩ (Nat.le_refl 1) 0 _ s rfl
  omega
theorem part_pow (s : ByteArray) (b : Bool) : ∃ P : Nat, (partF s b).p = (P : Int) ∧ P ≤ 9 := by
  unfold partF
  by_cases h : lastD s = true
  · rw [if_pos h]
    unfold lastD at h
    cases hl : s.data.toList.getLast? with
    | none => rw [hl] at h; cases h
    | some c =>
      rw [hl] at h
      simp only [Bool.and_eq_true, decide_eq_true_eq] at h
      exact ⟨c.toNat - 48, by show ((c.toNat : Int) - 48) = _; omega, by omega⟩
  · rw [if_neg h]; exact ⟨1, rfl, by omega⟩
theorem readF_pow {ps : List ByteArray} {b : Bool} {fs : List FactD} (h : readF ps b = some fs) : ∀ f ∈ fs, ∃ P : Nat, f.p = (P : Int) ∧ P ≤ 9 := by
  unfold readF at h
  split at h
  · injection h with h
    subst h
    intro f hf
    obtain ⟨p, _, rfl⟩ := List.mem_map.1 hf
    exact part_pow p b
  · cases h
theorem rtC_some {u u' : UnitD} {dv : Bool} {rA rB : Option (List FactD)} {fs : List FactD} (h : rtC u dv rA rB = some (u', fs)) : ∃ fa, rA = some fa ∧ ((dv = false ∧ fs = fa) ∨ ∃ fb, rB = some fb ∧ fs = fa ++ fb) := by
  unfold rtC at h
  cases rA with
  | none => cases h
  | some fa =>
    refine ⟨fa, rfl, ?_⟩
    cases dv with
    | false => simp at h; exact .inl ⟨rfl, h.2.symm⟩
    | true =>
      cases rB with
      | none => simp at h
      | some fb => simp at h; exact .inr ⟨fb, rfl, h.2.symm⟩
theorem readText_fine {s : ByteArray} {u : UnitD} {fs : List FactD} (h : readTextL s = some (u, fs)) : 1 ≤ fs.length ∧ fs.length ≤ 1000 ∧ ∀ f ∈ fs, ∃ P : Nat, f.p = (P : Int) ∧ P ≤ 9 := by
  unfold readTextL at h
  by_cases h40 : 40 < s.size
  · rw [if_pos h40] at h; cases h
  rw [if_neg h40] at h
  split at h
  · obtain ⟨fa, ha, hb⟩ := rtC_some h
    have l0 := cutScale_len s.data.toList
    have l1 := cut_le (cutScaleL s.data.toList).2.1 47
    have sA := size_mk (Lib.cut (cutScaleL s.data.toList).2.1 [47]).1
    have sB := size_mk (Lib.cut (cutScaleL s.data.toList).2.1 [47]).2.1
    have hl : s.data.toList.length ≤ 40 := by rw [← Lib.size_eq]; omega
    have a1 := readF_len ha
    have a2 := parts_len ⟨(Lib.cut (cutScaleL s.data.toList).2.1 [47]).1.toArray⟩ 46
    have a3 := parts_pos ⟨(Lib.cut (cutScaleL s.data.toList).2.1 [47]).1.toArray⟩ 46
    have a4 := readF_pow ha
    rcases hb with ⟨_, rfl⟩ | ⟨fb, hb, rfl⟩
    · exact ⟨by omega, by omega, a4⟩
    · have b1 := readF_len hb
      have b2 := parts_len ⟨(Lib.cut (cutScaleL s.data.toList).2.1 [47]).2.1.toArray⟩ 46
      have b4 := readF_pow hb
      refine ⟨by rw [List.length_append]; omega, by rw [List.length_append]; omega, fun f hf => ?_⟩
      rcases List.mem_append.1 hf with hf | hf
      · exact a4 f hf
      · exact b4 f hf
  · cases h
theorem unitsF_pow {fs : List FactD} (h : ∀ f ∈ fs, ∃ P : Nat, f.p = (P : Int) ∧ P ≤ 9) : ∀ f ∈ unitsF fs, ∃ P : Nat, f.p = (P : Int) ∧ P ≤ 9 := by
  intro f hf
  obtain ⟨g, hg, rfl⟩ := List.mem_map.1 hf
  exact h g hg
theorem UnitAt.keepKB {w w' : World} {b g : Nat} {c0 c1 c2 c3 cn cd co : Int} (t : UnitAt w b c0 c1 c2 c3 cn cd co) (hb : KB g w w') (h : b ≠ g) : UnitAt w' b c0 c1 c2 c3 cn cd co := by
  have hh := hb b t.lt h
  have hc : ∀ k, w'.cell? ⟨b, k, none⟩ = w.cell? ⟨b, k, none⟩ := fun k => World.cell?_of_block hh
  exact ⟨(hc 0).trans t.c0, (hc 1).trans t.c1, (hc 2).trans t.c2, (hc 3).trans t.c3, (hc 4).trans t.c4, (hc 5).trans t.c5, (hc 6).trans t.c6, fun o => (World.frozen?_of_block hh).trans (t.fz o)⟩
set_option maxHeartbeats 2000000 in
theorem parse_none (s : ByteArray) (w : World) (hg : Gu w) (HRT : Hid (∀ w, Gu w → Calls Tryz.prog 34 #[.string s] w fun e w' => Below w.heap.size w w' ∧ RTpost (w.heap.size + 1) none e w')) :
    Calls Tryz.prog 20 #[.string s] w fun e w' => e = .returned (pairU (zeroU, 2)) ∧ Below w.heap.size w w' := by
  go_enter Tryz.func20, Tryz.ntmps20
  go_wp2_with fail
  obtain ⟨W, R, hW, hR, hwR, R1, B1⟩ := one_unit w
  try rw [← hW]
  try rw [← hR]
  have g1 := hg.below ((Below.refl w.heap.size w).alloc (Nat.le_refl _) (Obj.cells #[.int .i64 0, .int .i64 0, .int .i64 0, .int .i64 0, .int .i64 0, .int .i64 0, .int .i64 0] 28))
  rw [← hW] at g1
  have HR0 := Lib.hid R1
  have HB0 := Lib.hid B1
  have HN0 := Lib.hid (And.intro (Nat.le_refl w.heap.size) hwR)
  clear hR R1 B1 hwR hW
  refine (HRT.out W g1).mono ?_
  rintro e w1 ⟨hb, hp⟩
  have HR1 := Lib.hid (HR0.out.keep hb)
  have HB1 := Lib.hid (HB0.out.trans (hb.mono HB0.out.size))
  have HW1 := Lib.hid (show w.heap.size ≤ W.heap.size + 1 from Nat.le_succ_of_le HB0.out.size)
  clear hb g1 hg
  obtain ⟨⟨c0, c1, c2, c3, cn, cd, co⟩, v, rfl⟩ := hp
  have hk := (Below.refl w1.heap.size w1).alloc (Nat.le_refl _) (Obj.cells #[.int .i64 c0, .int .i64 c1, .int .i64 c2, .int .i64 c3, .int .i64 cn, .int .i64 cd, .int .i64 co] 28)
  have HR2 := Lib.hid (HR1.out.keep hk)
  have HB2 := Lib.hid (HB1.out.alloc HB1.out.size (Obj.cells #[.int .i64 c0, .int .i64 c1, .int .i64 c2, .int .i64 c3, .int .i64 cn, .int .i64 cd, .int .i64 co] 28))
  clear hk
  obtain ⟨r0, r1, r2, r3, r4, r5, r6, rz⟩ := HR2.out
  go_wp2_with fail
  have hs := (HR2.out).set 0 0 0 0 0 0 0
  have y0 : ((((((((w1.alloc (Obj.cells #[.int .i64 c0, .int .i64 c1, .int .i64 c2, .int .i64 c3, .int .i64 cn, .int .i64 cd, .int .i64 co] 28)).setCell ⟨R, 0, none⟩ (.int .i64 0)).setCell ⟨R, 1, none⟩ (.int .i64 0)).setCell ⟨R, 2, none⟩ (.int .i64 0)).setCell ⟨R, 3, none⟩ (.int .i64 0)).setCell ⟨R, 4, none⟩ (.int .i64 0)).setCell ⟨R, 5, none⟩ (.int .i64 0)).setCell ⟨R, 6, none⟩ (.int .i64 0)).cell? ⟨R, 0, none⟩ = some (.int .i64 0) := hs.c0
  have y1 : ((((((((w1.alloc (Obj.cells #[.int .i64 c0, .int .i64 c1, .int .i64 c2, .int .i64 c3, .int .i64 cn, .int .i64 cd, .int .i64 co] 28)).setCell ⟨R, 0, none⟩ (.int .i64 0)).setCell ⟨R, 1, none⟩ (.int .i64 0)).setCell ⟨R, 2, none⟩ (.int .i64 0)).setCell ⟨R, 3, none⟩ (.int .i64 0)).setCell ⟨R, 4, none⟩ (.int .i64 0)).setCell ⟨R, 5, none⟩ (.int .i64 0)).setCell ⟨R, 6, none⟩ (.int .i64 0)).cell? ⟨R, 1, none⟩ = some (.int .i64 0) := hs.c1
  have y2 : ((((((((w1.alloc (Obj.cells #[.int .i64 c0, .int .i64 c1, .int .i64 c2, .int .i64 c3, .int .i64 cn, .int .i64 cd, .int .i64 co] 28)).setCell ⟨R, 0, none⟩ (.int .i64 0)).setCell ⟨R, 1, none⟩ (.int .i64 0)).setCell ⟨R, 2, none⟩ (.int .i64 0)).setCell ⟨R, 3, none⟩ (.int .i64 0)).setCell ⟨R, 4, none⟩ (.int .i64 0)).setCell ⟨R, 5, none⟩ (.int .i64 0)).setCell ⟨R, 6, none⟩ (.int .i64 0)).cell? ⟨R, 2, none⟩ = some (.int .i64 0) := hs.c2
  have y3 : ((((((((w1.alloc (Obj.cells #[.int .i64 c0, .int .i64 c1, .int .i64 c2, .int .i64 c3, .int .i64 cn, .int .i64 cd, .int .i64 co] 28)).setCell ⟨R, 0, none⟩ (.int .i64 0)).setCell ⟨R, 1, none⟩ (.int .i64 0)).setCell ⟨R, 2, none⟩ (.int .i64 0)).setCell ⟨R, 3, none⟩ (.int .i64 0)).setCell ⟨R, 4, none⟩ (.int .i64 0)).setCell ⟨R, 5, none⟩ (.int .i64 0)).setCell ⟨R, 6, none⟩ (.int .i64 0)).cell? ⟨R, 3, none⟩ = some (.int .i64 0) := hs.c3
  have y4 : ((((((((w1.alloc (Obj.cells #[.int .i64 c0, .int .i64 c1, .int .i64 c2, .int .i64 c3, .int .i64 cn, .int .i64 cd, .int .i64 co] 28)).setCell ⟨R, 0, none⟩ (.int .i64 0)).setCell ⟨R, 1, none⟩ (.int .i64 0)).setCell ⟨R, 2, none⟩ (.int .i64 0)).setCell ⟨R, 3, none⟩ (.int .i64 0)).setCell ⟨R, 4, none⟩ (.int .i64 0)).setCell ⟨R, 5, none⟩ (.int .i64 0)).setCell ⟨R, 6, none⟩ (.int .i64 0)).cell? ⟨R, 4, none⟩ = some (.int .i64 0) := hs.c4
  have y5 : ((((((((w1.alloc (Obj.cells #[.int .i64 c0, .int .i64 c1, .int .i64 c2, .int .i64 c3, .int .i64 cn, .int .i64 cd, .int .i64 co] 28)).setCell ⟨R, 0, none⟩ (.int .i64 0)).setCell ⟨R, 1, none⟩ (.int .i64 0)).setCell ⟨R, 2, none⟩ (.int .i64 0)).setCell ⟨R, 3, none⟩ (.int .i64 0)).setCell ⟨R, 4, none⟩ (.int .i64 0)).setCell ⟨R, 5, none⟩ (.int .i64 0)).setCell ⟨R, 6, none⟩ (.int .i64 0)).cell? ⟨R, 5, none⟩ = some (.int .i64 0) := hs.c5
  have y6 : ((((((((w1.alloc (Obj.cells #[.int .i64 c0, .int .i64 c1, .int .i64 c2, .int .i64 c3, .int .i64 cn, .int .i64 cd, .int .i64 co] 28)).setCell ⟨R, 0, none⟩ (.int .i64 0)).setCell ⟨R, 1, none⟩ (.int .i64 0)).setCell ⟨R, 2, none⟩ (.int .i64 0)).setCell ⟨R, 3, none⟩ (.int .i64 0)).setCell ⟨R, 4, none⟩ (.int .i64 0)).setCell ⟨R, 5, none⟩ (.int .i64 0)).setCell ⟨R, 6, none⟩ (.int .i64 0)).cell? ⟨R, 6, none⟩ = some (.int .i64 0) := hs.c6
  (try simp only [Exit.inBlock, Exit.then])
  refine bodyPost_ret (by simp [results, Tryz.results20, go_sem, y0, y1, y2, y3, y4, y5, y6]; try rfl) rfl ?_
  exact ⟨rfl, setU_below HB2.out HN0.out.2 0 0 0 0 0 0 0⟩

def parseC (s : ByteArray) (u : UnitD) (fs : List FactD) : UnitD × Int := match unitOfL s with
  | some v => (v, 0)
  | none => if findE fs = 0 then multR u (unitsF fs) else (zeroU, findE fs)
set_option maxRecDepth 100000 in
set_option maxHeartbeats 4000000 in
theorem parse_some (s : ByteArray) (c0 c1 c2 c3 cn cd co : Int) (fs : List FactD) (w : World) (hg : Gu w) (hlen : 1 ≤ fs.length) (hmax : fs.length ≤ 1000) (hpw : ∀ f ∈ unitsF fs, ∃ P : Nat, f.p = (P : Int) ∧ P ≤ 9)
    (HRT : Hid (∀ w, Gu w → Calls Tryz.prog 34 #[.string s] w fun e w' => Below w.heap.size w w' ∧ RTpost (w.heap.size + 1) (some (⟨c0, c1, c2, c3, cn, cd, co⟩, fs)) e w')) :
    Calls Tryz.prog 20 #[.string s] w fun e w' => e = .returned (pairU (parseC s ⟨c0, c1, c2, c3, cn, cd, co⟩ fs)) ∧ Below w.heap.size w w' := by
  have HUo := Lib.hid fun w => unitOf_any s w
  go_enter Tryz.func20, Tryz.ntmps20
  go_wp2_with fail
  obtain ⟨W, R, hW, hR, hwR, R1, B1⟩ := one_unit w
  try rw [← hW]
  try rw [← hR]
  have g1 := hg.below ((Below.refl w.heap.size w).alloc (Nat.le_refl _) (Obj.cells #[.int .i64 0, .int .i64 0, .int .i64 0, .int .i64 0, .int .i64 0, .int .i64 0, .int .i64 0] 28))
  rw [← hW] at g1
  have HR0 := Lib.hid R1
  have HB0 := Lib.hid B1
  have HN0 := Lib.hid (And.intro (Nat.le_refl w.heap.size) hwR)
  clear hR R1 B1 hwR hW
  refine (HRT.out W g1).mono ?_
  rintro e w1 ⟨hb, hp⟩
  have HR1 := Lib.hid (HR0.out.keep hb)
  have HB1 := Lib.hid (HB0.out.trans (hb.mono HB0.out.size))
  have HW1 := Lib.hid (show w.heap.size ≤ W.heap.size + 1 from Nat.le_succ_of_le HB0.out.size)
  clear hb g1 hg
  obtain ⟨v, rfl, ho⟩ := hp
  have hk := (Below.refl w1.heap.size w1).alloc (Nat.le_refl _) (Obj.cells #[.int .i64 c0, .int .i64 c1, .int .i64 c2, .int .i64 c3, .int .i64 cn, .int .i64 cd, .int .i64 co] 28)
  have hr2 := HR1.out.keep hk
  have hb2 := HB1.out.alloc HB1.out.size (Obj.cells #[.int .i64 c0, .int .i64 c1, .int .i64 c2, .int .i64 c3, .int .i64 cn, .int .i64 cd, .int .i64 co] 28)
  have hc2 := unit_fresh w1 c0 c1 c2 c3 cn cd co
  have ho2 := ho.alloc (Obj.cells #[.int .i64 c0, .int .i64 c1, .int .i64 c2, .int .i64 c3, .int .i64 cn, .int .i64 cd, .int .i64 co] 28)
  obtain ⟨g, cap, rfl⟩ := own_some ho hlen
  have hne : w1.heap.size ≠ R ∧ w1.heap.size ≠ g := ⟨by have := HR1.out.lt; omega, by have := (ho.lt g rfl).2; omega⟩
  have hgR : R ≠ g := by have := (ho.lt g rfl).1; have := HR0.out.lt; omega
  go_wp2_with fail
  obtain ⟨W2, hW2⟩ : ∃ x, x = (w1.alloc (Obj.cells #[.int .i64 c0, .int .i64 c1, .int .i64 c2, .int .i64 c3, .int .i64 cn, .int .i64 cd, .int .i64 co] 28)) := ⟨_, rfl⟩
  obtain ⟨N2, hN2⟩ : ∃ x, x = w1.heap.size := ⟨_, rfl⟩
  rw [← hW2]
  try rw [← hN2]
  rw [← hW2] at hr2 hb2 hc2 ho2
  rw [← hN2] at hc2 hne
  have HR2 := Lib.hid hr2
  have HB2 := Lib.hid hb2
  have HC2 := Lib.hid hc2
  have HO2 := Lib.hid ho2
  have HN2 := Lib.hid (And.intro hne.1 (And.intro hne.2 hgR))
  clear ho hk hr2 hb2 hc2 ho2 hne hgR hW2 hN2
  refine (HUo.out _).mono ?_
  rintro e w3 ⟨rfl, hb⟩
  have HR3 := Lib.hid (HR2.out.keep hb)
  have HB3 := Lib.hid (HB2.out.trans (hb.mono HB2.out.size))
  have HC3 := Lib.hid (HC2.out.keep hb)
  have HO3 := Lib.hid (own_keep HO2.out hb)
  clear hb
  cases hu : unitOfL s with
  | some v =>
    obtain ⟨v0, v1, v2, v3, vn, vd, vo⟩ := v
    have HE := Lib.hid (show parseC s ⟨c0, c1, c2, c3, cn, cd, co⟩ fs = (⟨v0, v1, v2, v3, vn, vd, vo⟩, 0) by unfold parseC; rw [hu])
    clear hu
    have hk := (Below.refl w3.heap.size w3).alloc (Nat.le_refl _) (Obj.cells #[.int .i64 v0, .int .i64 v1, .int .i64 v2, .int .i64 v3, .int .i64 vn, .int .i64 vd, .int .i64 vo] 28)
    have HR4 := Lib.hid (HR3.out.keep hk)
    have HB4 := Lib.hid (HB3.out.alloc HB3.out.size (Obj.cells #[.int .i64 v0, .int .i64 v1, .int .i64 v2, .int .i64 v3, .int .i64 vn, .int .i64 vd, .int .i64 vo] 28))
    have hv4 := unit_fresh w3 v0 v1 v2 v3 vn vd vo
    have hne4 : w3.heap.size ≠ R := by have := HR3.out.lt; omega
    obtain ⟨r0, r1, r2, r3, r4, r5, r6, rz⟩ := HR4.out
    go_wp2_with fail
    have hs := (HR4.out).set v0 v1 v2 v3 vn vd vo
    have y0 : ((((((((w3.alloc (Obj.cells #[.int .i64 v0, .int .i64 v1, .int .i64 v2, .int .i64 v3, .int .i64 vn, .int .i64 vd, .int .i64 vo] 28)).setCell ⟨R, 0, none⟩ (.int .i64 v0)).setCell ⟨R, 1, none⟩ (.int .i64 v1)).setCell ⟨R, 2, none⟩ (.int .i64 v2)).setCell ⟨R, 3, none⟩ (.int .i64 v3)).setCell ⟨R, 4, none⟩ (.int .i64 vn)).setCell ⟨R, 5, none⟩ (.int .i64 vd)).setCell ⟨R, 6, none⟩ (.int .i64 vo)).cell? ⟨R, 0, none⟩ = some (.int .i64 v0) := hs.c0
    have y1 : ((((((((w3.alloc (Obj.cells #[.int .i64 v0, .int .i64 v1, .int .i64 v2, .int .i64 v3, .int .i64 vn, .int .i64 vd, .int .i64 vo] 28)).setCell ⟨R, 0, none⟩ (.int .i64 v0)).setCell ⟨R, 1, none⟩ (.int .i64 v1)).setCell ⟨R, 2, none⟩ (.int .i64 v2)).setCell ⟨R, 3, none⟩ (.int .i64 v3)).setCell ⟨R, 4, none⟩ (.int .i64 vn)).setCell ⟨R, 5, none⟩ (.int .i64 vd)).setCell ⟨R, 6, none⟩ (.int .i64 vo)).cell? ⟨R, 1, none⟩ = some (.int .i64 v1) := hs.c1
    have y2 : ((((((((w3.alloc (Obj.cells #[.int .i64 v0, .int .i64 v1, .int .i64 v2, .int .i64 v3, .int .i64 vn, .int .i64 vd, .int .i64 vo] 28)).setCell ⟨R, 0, none⟩ (.int .i64 v0)).setCell ⟨R, 1, none⟩ (.int .i64 v1)).setCell ⟨R, 2, none⟩ (.int .i64 v2)).setCell ⟨R, 3, none⟩ (.int .i64 v3)).setCell ⟨R, 4, none⟩ (.int .i64 vn)).setCell ⟨R, 5, none⟩ (.int .i64 vd)).setCell ⟨R, 6, none⟩ (.int .i64 vo)).cell? ⟨R, 2, none⟩ = some (.int .i64 v2) := hs.c2
    have y3 : ((((((((w3.alloc (Obj.cells #[.int .i64 v0, .int .i64 v1, .int .i64 v2, .int .i64 v3, .int .i64 vn, .int .i64 vd, .int .i64 vo] 28)).setCell ⟨R, 0, none⟩ (.int .i64 v0)).setCell ⟨R, 1, none⟩ (.int .i64 v1)).setCell ⟨R, 2, none⟩ (.int .i64 v2)).setCell ⟨R, 3, none⟩ (.int .i64 v3)).setCell ⟨R, 4, none⟩ (.int .i64 vn)).setCell ⟨R, 5, none⟩ (.int .i64 vd)).setCell ⟨R, 6, none⟩ (.int .i64 vo)).cell? ⟨R, 3, none⟩ = some (.int .i64 v3) := hs.c3
    have y4 : ((((((((w3.alloc (Obj.cells #[.int .i64 v0, .int .i64 v1, .int .i64 v2, .int .i64 v3, .int .i64 vn, .int .i64 vd, .int .i64 vo] 28)).setCell ⟨R, 0, none⟩ (.int .i64 v0)).setCell ⟨R, 1, none⟩ (.int .i64 v1)).setCell ⟨R, 2, none⟩ (.int .i64 v2)).setCell ⟨R, 3, none⟩ (.int .i64 v3)).setCell ⟨R, 4, none⟩ (.int .i64 vn)).setCell ⟨R, 5, none⟩ (.int .i64 vd)).setCell ⟨R, 6, none⟩ (.int .i64 vo)).cell? ⟨R, 4, none⟩ = some (.int .i64 vn) := hs.c4
    have y5 : ((((((((w3.alloc (Obj.cells #[.int .i64 v0, .int .i64 v1, .int .i64 v2, .int .i64 v3, .int .i64 vn, .int .i64 vd, .int .i64 vo] 28)).setCell ⟨R, 0, none⟩ (.int .i64 v0)).setCell ⟨R, 1, none⟩ (.int .i64 v1)).setCell ⟨R, 2, none⟩ (.int .i64 v2)).setCell ⟨R, 3, none⟩ (.int .i64 v3)).setCell ⟨R, 4, none⟩ (.int .i64 vn)).setCell ⟨R, 5, none⟩ (.int .i64 vd)).setCell ⟨R, 6, none⟩ (.int .i64 vo)).cell? ⟨R, 5, none⟩ = some (.int .i64 vd) := hs.c5
    have y6 : ((((((((w3.alloc (Obj.cells #[.int .i64 v0, .int .i64 v1, .int .i64 v2, .int .i64 v3, .int .i64 vn, .int .i64 vd, .int .i64 vo] 28)).setCell ⟨R, 0, none⟩ (.int .i64 v0)).setCell ⟨R, 1, none⟩ (.int .i64 v1)).setCell ⟨R, 2, none⟩ (.int .i64 v2)).setCell ⟨R, 3, none⟩ (.int .i64 v3)).setCell ⟨R, 4, none⟩ (.int .i64 vn)).setCell ⟨R, 5, none⟩ (.int .i64 vd)).setCell ⟨R, 6, none⟩ (.int .i64 vo)).cell? ⟨R, 6, none⟩ = some (.int .i64 vo) := hs.c6
    (try simp only [Exit.inBlock, Exit.then])
    refine bodyPost_ret (by simp [results, Tryz.results20, go_sem, y0, y1, y2, y3, y4, y5, y6]; try rfl) rfl ?_
    exact ⟨by rw [HE.out], setU_below HB4.out HN0.out.2 v0 v1 v2 v3 vn vd vo⟩

  | none =>
    have HU := Lib.hid hu
    clear hu
    have hk := (Below.refl w3.heap.size w3).alloc (Nat.le_refl _) (Obj.cells #[.int .i64 zeroU.e0, .int .i64 zeroU.e1, .int .i64 zeroU.e2, .int .i64 zeroU.e3, .int .i64 zeroU.n, .int .i64 zeroU.d, .int .i64 zeroU.o] 28)
    have hr4 := HR3.out.keep hk
    have hb4 := HB3.out.alloc HB3.out.size (Obj.cells #[.int .i64 zeroU.e0, .int .i64 zeroU.e1, .int .i64 zeroU.e2, .int .i64 zeroU.e3, .int .i64 zeroU.n, .int .i64 zeroU.d, .int .i64 zeroU.o] 28)
    have hc4 := HC3.out.keep hk
    have ho4 := HO3.out.alloc (Obj.cells #[.int .i64 zeroU.e0, .int .i64 zeroU.e1, .int .i64 zeroU.e2, .int .i64 zeroU.e3, .int .i64 zeroU.n, .int .i64 zeroU.d, .int .i64 zeroU.o] 28)
    go_wp2_with fail
    obtain ⟨W4, hW4⟩ : ∃ x, x = (w3.alloc (Obj.cells #[.int .i64 zeroU.e0, .int .i64 zeroU.e1, .int .i64 zeroU.e2, .int .i64 zeroU.e3, .int .i64 zeroU.n, .int .i64 zeroU.d, .int .i64 zeroU.o] 28)) := ⟨_, rfl⟩
    rw [← hW4]
    rw [← hW4] at hr4 hb4 hc4 ho4
    have HR4 := Lib.hid hr4
    have HB4 := Lib.hid hb4
    have HC4 := Lib.hid hc4
    have HO4 := Lib.hid ho4
    have HW4 := Lib.hid (show w.heap.size ≤ W4.heap.size from HB4.out.size)
    clear hk hr4 hb4 hc4 ho4 hW4
    refine (findUnits_any fs g cap (W.heap.size + 1) w.heap.size W4 hmax HW4.out HO4.out HW1.out).mono ?_
    rintro e w5 ⟨hb, hkb, rfl, hrow⟩
    have HR5 := Lib.hid (HR4.out.keepKB hkb HN2.out.2.2)
    have HC5 := Lib.hid (HC4.out.keepKB hkb HN2.out.2.1)
    have HB5 := Lib.hid (HB4.out.trans hb)
    have HRow := Lib.hid hrow
    clear hb hkb hrow
    obtain ⟨X, hX⟩ : ∃ x, x = findE fs := ⟨_, rfl⟩
    rw [← hX]
    have HX := Lib.hid hX
    clear hX
    by_cases hX : X = 0
    · subst hX
      have HO5 := Lib.hid (HRow.out HX.out.symm)
      have HE := Lib.hid (show parseC s ⟨c0, c1, c2, c3, cn, cd, co⟩ fs = multR ⟨c0, c1, c2, c3, cn, cd, co⟩ (unitsF fs) by unfold parseC; rw [HU.out]; exact if_pos HX.out.symm)
      obtain ⟨r, hr⟩ : ∃ r, r = multR ⟨c0, c1, c2, c3, cn, cd, co⟩ (unitsF fs) := ⟨_, rfl⟩
      have hlu := unitsF_len fs
      have hcall := fun w => multiply_any ⟨c0, c1, c2, c3, cn, cd, co⟩ (unitsF fs) g cap (W.heap.size + 1) w (by omega)
      rw [← hr, hlu] at hcall
      obtain ⟨⟨r0, r1, r2, r3, rn, rd, ro⟩, X⟩ := r
      have HC := Lib.hid hcall
      have HRe := Lib.hid (HE.out.trans hr.symm)
      clear hcall hr hlu
      obtain ⟨a0, a1, a2, a3, a4, a5, a6, az⟩ := HC5.out
      go_wp2_with fail
      refine (HC.out _ HO5.out hpw).mono ?_
      rintro e w6 ⟨rfl, hb⟩
      have HR6 := Lib.hid (HR5.out.keep hb)
      have HB6 := Lib.hid (HB5.out.trans (hb.mono HB5.out.size))
      clear hb a0 a1 a2 a3 a4 a5 a6 az
      obtain ⟨a0, a1, a2, a3, a4, a5, a6, az⟩ := HR6.out
      go_wp2_with fail
      have hs := (HR6.out).set r0 r1 r2 r3 rn rd ro
      have y0 : (((((((w6.setCell ⟨R, 0, none⟩ (.int .i64 r0)).setCell ⟨R, 1, none⟩ (.int .i64 r1)).setCell ⟨R, 2, none⟩ (.int .i64 r2)).setCell ⟨R, 3, none⟩ (.int .i64 r3)).setCell ⟨R, 4, none⟩ (.int .i64 rn)).setCell ⟨R, 5, none⟩ (.int .i64 rd)).setCell ⟨R, 6, none⟩ (.int .i64 ro)).cell? ⟨R, 0, none⟩ = some (.int .i64 r0) := hs.c0
      have y1 : (((((((w6.setCell ⟨R, 0, none⟩ (.int .i64 r0)).setCell ⟨R, 1, none⟩ (.int .i64 r1)).setCell ⟨R, 2, none⟩ (.int .i64 r2)).setCell ⟨R, 3, none⟩ (.int .i64 r3)).setCell ⟨R, 4, none⟩ (.int .i64 rn)).setCell ⟨R, 5, none⟩ (.int .i64 rd)).setCell ⟨R, 6, none⟩ (.int .i64 ro)).cell? ⟨R, 1, none⟩ = some (.int .i64 r1) := hs.c1
      have y2 : (((((((w6.setCell ⟨R, 0, none⟩ (.int .i64 r0)).setCell ⟨R, 1, none⟩ (.int .i64 r1)).setCell ⟨R, 2, none⟩ (.int .i64 r2)).setCell ⟨R, 3, none⟩ (.int .i64 r3)).setCell ⟨R, 4, none⟩ (.int .i64 rn)).setCell ⟨R, 5, none⟩ (.int .i64 rd)).setCell ⟨R, 6, none⟩ (.int .i64 ro)).cell? ⟨R, 2, none⟩ = some (.int .i64 r2) := hs.c2
      have y3 : (((((((w6.setCell ⟨R, 0, none⟩ (.int .i64 r0)).setCell ⟨R, 1, none⟩ (.int .i64 r1)).setCell ⟨R, 2, none⟩ (.int .i64 r2)).setCell ⟨R, 3, none⟩ (.int .i64 r3)).setCell ⟨R, 4, none⟩ (.int .i64 rn)).setCell ⟨R, 5, none⟩ (.int .i64 rd)).setCell ⟨R, 6, none⟩ (.int .i64 ro)).cell? ⟨R, 3, none⟩ = some (.int .i64 r3) := hs.c3
      have y4 : (((((((w6.setCell ⟨R, 0, none⟩ (.int .i64 r0)).setCell ⟨R, 1, none⟩ (.int .i64 r1)).setCell ⟨R, 2, none⟩ (.int .i64 r2)).setCell ⟨R, 3, none⟩ (.int .i64 r3)).setCell ⟨R, 4, none⟩ (.int .i64 rn)).setCell ⟨R, 5, none⟩ (.int .i64 rd)).setCell ⟨R, 6, none⟩ (.int .i64 ro)).cell? ⟨R, 4, none⟩ = some (.int .i64 rn) := hs.c4
      have y5 : (((((((w6.setCell ⟨R, 0, none⟩ (.int .i64 r0)).setCell ⟨R, 1, none⟩ (.int .i64 r1)).setCell ⟨R, 2, none⟩ (.int .i64 r2)).setCell ⟨R, 3, none⟩ (.int .i64 r3)).setCell ⟨R, 4, none⟩ (.int .i64 rn)).setCell ⟨R, 5, none⟩ (.int .i64 rd)).setCell ⟨R, 6, none⟩ (.int .i64 ro)).cell? ⟨R, 5, none⟩ = some (.int .i64 rd) := hs.c5
      have y6 : (((((((w6.setCell ⟨R, 0, none⟩ (.int .i64 r0)).setCell ⟨R, 1, none⟩ (.int .i64 r1)).setCell ⟨R, 2, none⟩ (.int .i64 r2)).setCell ⟨R, 3, none⟩ (.int .i64 r3)).setCell ⟨R, 4, none⟩ (.int .i64 rn)).setCell ⟨R, 5, none⟩ (.int .i64 rd)).setCell ⟨R, 6, none⟩ (.int .i64 ro)).cell? ⟨R, 6, none⟩ = some (.int .i64 ro) := hs.c6
      (try simp only [Exit.inBlock, Exit.then])
      refine bodyPost_ret (by simp [results, Tryz.results20, go_sem, y0, y1, y2, y3, y4, y5, y6]; try rfl) rfl ?_
      exact ⟨by rw [HRe.out], setU_below HB6.out HN0.out.2 r0 r1 r2 r3 rn rd ro⟩

    · have hX2 : (X != 0) = true := by simpa using hX
      have HE := Lib.hid (show parseC s ⟨c0, c1, c2, c3, cn, cd, co⟩ fs = (zeroU, X) by unfold parseC; rw [HU.out]; exact (if_neg (by rw [← HX.out]; exact hX)).trans (by rw [← HX.out]))
      clear hX
      obtain ⟨r0, r1, r2, r3, r4, r5, r6, rz⟩ := HR5.out
      go_wp2_with fail
      have hs := (HR5.out).set 0 0 0 0 0 0 0
      have y0 : (((((((w5.setCell ⟨R, 0, none⟩ (.int .i64 0)).setCell ⟨R, 1, none⟩ (.int .i64 0)).setCell ⟨R, 2, none⟩ (.int .i64 0)).setCell ⟨R, 3, none⟩ (.int .i64 0)).setCell ⟨R, 4, none⟩ (.int .i64 0)).setCell ⟨R, 5, none⟩ (.int .i64 0)).setCell ⟨R, 6, none⟩ (.int .i64 0)).cell? ⟨R, 0, none⟩ = some (.int .i64 0) := hs.c0
      have y1 : (((((((w5.setCell ⟨R, 0, none⟩ (.int .i64 0)).setCell ⟨R, 1, none⟩ (.int .i64 0)).setCell ⟨R, 2, none⟩ (.int .i64 0)).setCell ⟨R, 3, none⟩ (.int .i64 0)).setCell ⟨R, 4, none⟩ (.int .i64 0)).setCell ⟨R, 5, none⟩ (.int .i64 0)).setCell ⟨R, 6, none⟩ (.int .i64 0)).cell? ⟨R, 1, none⟩ = some (.int .i64 0) := hs.c1
      have y2 : (((((((w5.setCell ⟨R, 0, none⟩ (.int .i64 0)).setCell ⟨R, 1, none⟩ (.int .i64 0)).setCell ⟨R, 2, none⟩ (.int .i64 0)).setCell ⟨R, 3, none⟩ (.int .i64 0)).setCell ⟨R, 4, none⟩ (.int .i64 0)).setCell ⟨R, 5, none⟩ (.int .i64 0)).setCell ⟨R, 6, none⟩ (.int .i64 0)).cell? ⟨R, 2, none⟩ = some (.int .i64 0) := hs.c2
      have y3 : (((((((w5.setCell ⟨R, 0, none⟩ (.int .i64 0)).setCell ⟨R, 1, none⟩ (.int .i64 0)).setCell ⟨R, 2, none⟩ (.int .i64 0)).setCell ⟨R, 3, none⟩ (.int .i64 0)).setCell ⟨R, 4, none⟩ (.int .i64 0)).setCell ⟨R, 5, none⟩ (.int .i64 0)).setCell ⟨R, 6, none⟩ (.int .i64 0)).cell? ⟨R, 3, none⟩ = some (.int .i64 0) := hs.c3
      have y4 : (((((((w5.setCell ⟨R, 0, none⟩ (.int .i64 0)).setCell ⟨R, 1, none⟩ (.int .i64 0)).setCell ⟨R, 2, none⟩ (.int .i64 0)).setCell ⟨R, 3, none⟩ (.int .i64 0)).setCell ⟨R, 4, none⟩ (.int .i64 0)).setCell ⟨R, 5, none⟩ (.int .i64 0)).setCell ⟨R, 6, none⟩ (.int .i64 0)).cell? ⟨R, 4, none⟩ = some (.int .i64 0) := hs.c4
      have y5 : (((((((w5.setCell ⟨R, 0, none⟩ (.int .i64 0)).setCell ⟨R, 1, none⟩ (.int .i64 0)).setCell ⟨R, 2, none⟩ (.int .i64 0)).setCell ⟨R, 3, none⟩ (.int .i64 0)).setCell ⟨R, 4, none⟩ (.int .i64 0)).setCell ⟨R, 5, none⟩ (.int .i64 0)).setCell ⟨R, 6, none⟩ (.int .i64 0)).cell? ⟨R, 5, none⟩ = some (.int .i64 0) := hs.c5
      have y6 : (((((((w5.setCell ⟨R, 0, none⟩ (.int .i64 0)).setCell ⟨R, 1, none⟩ (.int .i64 0)).setCell ⟨R, 2, none⟩ (.int .i64 0)).setCell ⟨R, 3, none⟩ (.int .i64 0)).setCell ⟨R, 4, none⟩ (.int .i64 0)).setCell ⟨R, 5, none⟩ (.int .i64 0)).setCell ⟨R, 6, none⟩ (.int .i64 0)).cell? ⟨R, 6, none⟩ = some (.int .i64 0) := hs.c6
      (try simp only [Exit.inBlock, Exit.then])
      refine bodyPost_ret (by simp [results, Tryz.results20, go_sem, y0, y1, y2, y3, y4, y5, y6]; try rfl) rfl ?_
      exact ⟨by rw [HE.out]; rfl, setU_below HB5.out HN0.out.2 0 0 0 0 0 0 0⟩


theorem parse_any (s : ByteArray) (w : World) (hs : s.size ≤ 1000) (hg : Gu w) :
    Calls Tryz.prog 20 #[.string s] w fun e w' => e = .returned (pairU (parseR s)) ∧ Below w.heap.size w w' := by
  have hrt := fun w hg => readText_any s w hs hg
  unfold parseR
  cases hr : readTextL s with
  | none =>
    rw [hr] at hrt
    exact parse_none s w hg (Lib.hid hrt)
  | some r =>
    obtain ⟨⟨c0, c1, c2, c3, cn, cd, co⟩, fs⟩ := r
    obtain ⟨h1, h2, h3⟩ := readText_fine hr
    rw [hr] at hrt
    exact parse_some s c0 c1 c2 c3 cn cd co fs w hg h1 h2 (unitsF_pow h3) (Lib.hid hrt)
end Go.Proofs.YtlahoohgbfjciaaGreatDoor
