/- The specification's Convert answers as units.Convert. -/
import Derived.Test.YtlahoohgbfjciaaGreatDoorRj
import Derived.Test.YtlahoohgbfjciaaGreatDoorRi
import Derived.Test.YtlahoohgbfjciaaGreatDoorUu
namespace Go.Proofs.YtlahoohgbfjciaaGreatDoor
open Go.RowKit Go.Shelf

theorem two_boxes (w : World) (t : TypeId) (u0 u1 u2 u3 un ud uo v0 v1 v2 v3 vn vd vo : Int) : ∃ (W : World) (g h : Nat), W = (w.alloc (Obj.cells #[.int .i64 u0, .int .i64 u1, .int .i64 u2, .int .i64 u3, .int .i64 un, .int .i64 ud, .int .i64 uo] t)).alloc (Obj.cells #[.int .i64 v0, .int .i64 v1, .int .i64 v2, .int .i64 v3, .int .i64 vn, .int .i64 vd, .int .i64 vo] t) ∧ g = w.heap.size ∧ h = w.heap.size + 1 ∧ UnitAt W g u0 u1 u2 u3 un ud uo ∧ UnitAt W h v0 v1 v2 v3 vn vd vo ∧ Below w.heap.size w W ∧ W.heap.size = w.heap.size + 2 := by
  have a := unit_freshT w t u0 u1 u2 u3 un ud uo
  have sz := World.size_alloc w (Obj.cells #[.int .i64 u0, .int .i64 u1, .int .i64 u2, .int .i64 u3, .int .i64 un, .int .i64 ud, .int .i64 uo] t)
  have b := unit_freshT (w.alloc (Obj.cells #[.int .i64 u0, .int .i64 u1, .int .i64 u2, .int .i64 u3, .int .i64 un, .int .i64 ud, .int .i64 uo] t)) t v0 v1 v2 v3 vn vd vo
  rw [sz] at b
  have b1 := (Below.refl _ _).alloc (Nat.le_refl _) (w := w.alloc (Obj.cells #[.int .i64 u0, .int .i64 u1, .int .i64 u2, .int .i64 u3, .int .i64 un, .int .i64 ud, .int .i64 uo] t)) (Obj.cells #[.int .i64 v0, .int .i64 v1, .int .i64 v2, .int .i64 v3, .int .i64 vn, .int .i64 vd, .int .i64 vo] t)
  exact ⟨_, _, _, rfl, rfl, rfl, a.keep b1, b, (((Below.refl w.heap.size w).alloc (Nat.le_refl _) _).alloc (by rw [sz]; omega) _), by rw [World.size_alloc, sz]⟩

theorem clamp_in {x : Int} (h1 : -1000000000000 ≤ x) (h2 : x ≤ 1000000000000) : clampI x = x := by
  unfold clampI
  omega
/-- a sign and a size as a number -/
def sv (s : Bool) (M : Int) : Int := if s = true then -M else M
theorem sum_sv (s t : Bool) (M N : Int) (hM : 0 ≤ M) (hN : 0 ≤ N) : sv (sumP s M t N).1 (sumP s M t N).2 = sv s M + sv t N ∧ 0 ≤ (sumP s M t N).2 ∧ (sumP s M t N).2 ≤ M + N := by
  have := hM; have := hN
  unfold sumP sv
  cases s <;> cases t <;> simp <;> (try split) <;> (try simp) <;> omega
theorem times_sv (a b : Int) (hb : 0 ≤ b) : sv (decide (a < 0) != decide (b < 0)) (absI a * absI b) = a * b := by
  unfold sv absI
  have h1 : decide (b < 0) = false := decide_eq_false (by omega)
  rw [h1, if_neg (show ¬ b < 0 by omega)]
  by_cases h : a < 0
  · rw [decide_eq_true h, if_pos h]; simp [Int.neg_mul]
  · rw [decide_eq_false h, if_neg h]; simp
theorem quoN_one (V a b : Int) (ha : 1 ≤ a) : quoN V a b = (2 * V + a * b) / (2 * (a * b)) := by
  unfold quoN
  have h1 : (2 * V + a * b) / a = 2 * V / a + b := Int.add_mul_ediv_left _ _ (by omega)
  rw [← h1, Int.ediv_ediv_of_nonneg (by omega), show a * (2 * b) = 2 * (a * b) by rw [Int.mul_left_comm]]
theorem quo_sv (D c a b : Int) (s : Bool) (M : Int) (ha : 1 ≤ a) (hb : 1 ≤ b) (hc : 1 ≤ c) (hM : 0 ≤ M) (h : sv s M = D) : quoR (D * c) a b = sv s ((2 * (M * c) + a * b) / (2 * (a * b))) := by
  have hab : 0 < a * b := Int.mul_pos (by omega) (by omega)
  have hz : (2 * ((0 : Int) * c) + a * b) / (2 * (a * b)) = 0 := by
    rw [Int.zero_mul, Int.mul_zero, Int.zero_add]
    exact Int.ediv_eq_zero_of_lt (by omega) (by omega)
  unfold quoR
  cases s
  · have hD : D = M := h.symm
    subst hD
    rw [if_neg (Int.not_lt.2 (Int.mul_nonneg hM (by omega))), quoN_one _ _ _ ha]; rfl
  · have hD : D = -M := h.symm
    subst hD
    show _ = -((2 * (M * c) + a * b) / (2 * (a * b)))
    by_cases h0 : M = 0
    · subst h0
      rw [Int.neg_zero, if_neg (by rw [Int.zero_mul]; omega), quoN_one _ _ _ ha, hz]; rfl
    · have hp : 0 < M * c := Int.mul_pos (by omega) (by omega)
      rw [if_pos (by rw [Int.neg_mul]; omega), quoN_one _ _ _ ha, Int.neg_mul, Int.neg_neg]
theorem quo_nonneg (M c B : Int) (hM : 0 ≤ M) (hc : 1 ≤ c) (hB : 1 ≤ B) : 0 ≤ (2 * (M * c) + B) / (2 * B) := Int.ediv_nonneg (by have := Int.mul_nonneg hM (show 0 ≤ c by omega); omega) (by omega)
theorem sgn_kept {p w2 : World} {s : Bool} {x y : Int} {t : TypeId} (hb : Below (p.alloc (Obj.cells #[.bool s, .int .u64 x, .int .u64 y] t)).heap.size (p.alloc (Obj.cells #[.bool s, .int .u64 x, .int .u64 y] t)) w2) : SgnC w2 p.heap.size s x y := (sgn_fresh p t s x y).keep hb
theorem sgn_kept_drew {p w2 : World} {s : Bool} {x y : Int} {t : TypeId} (hb : Below (p.alloc (Obj.cells #[.bool s, .int .u64 x, .int .u64 y] t)).drew.heap.size (p.alloc (Obj.cells #[.bool s, .int .u64 x, .int .u64 y] t)).drew w2) : SgnC w2 p.heap.size s x y := (sgn_fresh p t s x y).drew.keep hb
theorem sgn_keep_drew {w w2 : World} {b : Nat} {s : Bool} {x y : Int} (t : SgnC w b s x y) (hb : Below w.drew.heap.size w.drew w2) : SgnC w2 b s x y := t.drew.keep hb
theorem two_c {w : World} {b : Nat} {x y : Int} (t : TwoC w b x y) : TwoAt w b (.int .u64 x) (.int .u64 y) := ⟨t.c0, t.c1, t.fz⟩
theorem UnitAt.put3 {w : World} {b N : Nat} {u0 u1 u2 u3 un ud uo : Int} (t : UnitAt w b u0 u1 u2 u3 un ud uo) (hne : N ≠ b) (x y z : Value) : UnitAt (((w.setCell ⟨N, 0, none⟩ x).setCell ⟨N, 1, none⟩ y).setCell ⟨N, 2, none⟩ z) b u0 u1 u2 u3 un ud uo := by
  have h : ∀ k, (((w.setCell ⟨N, 0, none⟩ x).setCell ⟨N, 1, none⟩ y).setCell ⟨N, 2, none⟩ z).cell? ⟨b, k, none⟩ = w.cell? ⟨b, k, none⟩ := fun k => by
    iterate 3 rw [World.cell?_setCell_other _ _ _ _ (fun e => hne (congrArg Addr.block e))]
  exact ⟨(h 0).trans t.c0, (h 1).trans t.c1, (h 2).trans t.c2, (h 3).trans t.c3, (h 4).trans t.c4, (h 5).trans t.c5, (h 6).trans t.c6, fun o => by rw [World.frozen?_setCell, World.frozen?_setCell, World.frozen?_setCell]; exact t.fz o⟩
section
variable {w w' w2 : World} {g h : Nat} {u0 u1 u2 u3 un ud uo v0 v1 v2 v3 vn vd vo : Int}
theorem cs_store3 {N : Nat} (h1 : N ≠ g) (h2 : N ≠ h) (hN : w.heap.size ≤ N) (x y z : Value) (c : CS w g h u0 u1 u2 u3 un ud uo v0 v1 v2 v3 vn vd vo w') : CS w g h u0 u1 u2 u3 un ud uo v0 v1 v2 v3 vn vd vo (((w'.setCell ⟨N, 0, none⟩ x).setCell ⟨N, 1, none⟩ y).setCell ⟨N, 2, none⟩ z) :=
  cs_of ⟨c.cr.u.put3 h1 x y z, c.cr.v.put3 h2 x y z, ((c.cr.bel.setCell hN _).setCell hN _).setCell hN _⟩
/-- what stands behind the sum: the signed number at N, the units -/
def ES (w : World) (g h N : Nat) (s : Bool) (x y : Int) (u0 u1 u2 u3 un ud uo v0 v1 v2 v3 vn vd vo : Int) (w' : World) : Prop := w'.cell? ⟨N, 1, none⟩ = some (.int .u64 x) ∧ w'.cell? ⟨N, 2, none⟩ = some (.int .u64 y) ∧ w'.cell? ⟨h, 5, none⟩ = some (.int .i64 vd) ∧ w'.cell? ⟨g, 5, none⟩ = some (.int .i64 ud) ∧ w'.cell? ⟨h, 4, none⟩ = some (.int .i64 vn) ∧ SgnC w' N s x y ∧ CR w g h u0 u1 u2 u3 un ud uo v0 v1 v2 v3 vn vd vo w'
theorem es_of {N : Nat} {s : Bool} {x y : Int} (t : SgnC w' N s x y) (c : CR w g h u0 u1 u2 u3 un ud uo v0 v1 v2 v3 vn vd vo w') : ES w g h N s x y u0 u1 u2 u3 un ud uo v0 v1 v2 v3 vn vd vo w' := ⟨t.c1, t.c2, c.v.c5, c.u.c5, c.v.c4, t, c⟩
theorem es_keep {N : Nat} {s : Bool} {x y : Int} (hb : Below w'.heap.size w' w2) (c : ES w g h N s x y u0 u1 u2 u3 un ud uo v0 v1 v2 v3 vn vd vo w') : ES w g h N s x y u0 u1 u2 u3 un ud uo v0 v1 v2 v3 vn vd vo w2 := es_of (c.2.2.2.2.2.1.keep hb) (c.2.2.2.2.2.2.keep hb)
theorem es_alloc {N : Nat} {s : Bool} {x y : Int} (o : Obj) (c : ES w g h N s x y u0 u1 u2 u3 un ud uo v0 v1 v2 v3 vn vd vo w') : ES w g h N s x y u0 u1 u2 u3 un ud uo v0 v1 v2 v3 vn vd vo (w'.alloc o) := es_keep ((Below.refl _ _).alloc (Nat.le_refl _) o) c
theorem es_drew {N : Nat} {s : Bool} {x y : Int} (c : ES w g h N s x y u0 u1 u2 u3 un ud uo v0 v1 v2 v3 vn vd vo w') : ES w g h N s x y u0 u1 u2 u3 un ud uo v0 v1 v2 v3 vn vd vo w'.drew := es_of c.2.2.2.2.2.1.drew (cr_drew c.2.2.2.2.2.2)
theorem es_store {N M : Nat} {s : Bool} {x y : Int} (h1 : M ≠ g) (h2 : M ≠ h) (h3 : M ≠ N) (hN : w.heap.size ≤ M) (p q : Value) (c : ES w g h N s x y u0 u1 u2 u3 un ud uo v0 v1 v2 v3 vn vd vo w') : ES w g h N s x y u0 u1 u2 u3 un ud uo v0 v1 v2 v3 vn vd vo ((w'.setCell ⟨M, 0, none⟩ p).setCell ⟨M, 1, none⟩ q) :=
  es_of ((c.2.2.2.2.2.1.other h3).other h3) ⟨c.2.2.2.2.2.2.u.put2 h1 p q, c.2.2.2.2.2.2.v.put2 h2 p q, (c.2.2.2.2.2.2.bel.setCell hN _).setCell hN _⟩
end

set_option maxHeartbeats 2000000 in
theorem rconv_bad1 (u0 u1 u2 u3 un ud uo v0 v1 v2 v3 vn vd vo x : Int) (w : World) (h1 : validB ⟨u0, u1, u2, u3, un, ud, uo⟩ = false) : Calls Tryz.prog 5 #[.int .i64 x, .agg #[.int .i64 u0, .int .i64 u1, .int .i64 u2, .int .i64 u3, .int .i64 un, .int .i64 ud, .int .i64 uo], .agg #[.int .i64 v0, .int .i64 v1, .int .i64 v2, .int .i64 v3, .int .i64 vn, .int .i64 vd, .int .i64 vo]] w fun e w' => e = .returned (.tuple #[.int .i64 0, .int .i64 1]) ∧ Below w.heap.size w w' := by
  have HV1 := Lib.hid fun w' => (by have h := rvalid_any u0 u1 u2 u3 un ud uo w'; rw [h1] at h; exact h : Calls Tryz.prog 14 #[.agg #[.int .i64 u0, .int .i64 u1, .int .i64 u2, .int .i64 u3, .int .i64 un, .int .i64 ud, .int .i64 uo]] w' fun e w'' => e = .returned (.bool false) ∧ Below w'.heap.size w' w'')
  obtain ⟨W, g, h, hW, hg, hh, U1, R1, B1, sz⟩ := two_boxes w 24 u0 u1 u2 u3 un ud uo v0 v1 v2 v3 vn vd vo
  have HU1 := Lib.hid U1
  have HR1 := Lib.hid R1
  have HB1 := Lib.hid B1
  clear U1 R1 B1 sz
  go_enter Tryz.func5, Tryz.ntmps5
  go_upto_region 1 with fail
  rw [← hW]
  try rw [← hh]
  try rw [← hg]
  clear hW hg hh
  obtain ⟨a0, a1, a2, a3, a4, a5, a6, az⟩ := HU1.out
  obtain ⟨b0, b1, b2, b3, b4, b5, b6, bz⟩ := HR1.out
  go_wp2_with fail
  refine (HV1.out _).mono ?_
  rintro e w1 ⟨rfl, hb⟩
  have HU2 := Lib.hid (HU1.out.keep hb)
  have HR2 := Lib.hid (HR1.out.keep hb)
  have HB2 := Lib.hid (HB1.out.trans (hb.mono HB1.out.size))
  clear hb HU1 HR1 HB1
  clear a0 a1 a2 a3 a4 a5 a6 az b0 b1 b2 b3 b4 b5 b6 bz
  go_wp2_with fail
  go_ret2
  exact ⟨rfl, HB2.out⟩

set_option maxHeartbeats 2000000 in
theorem rconv_bad2 (u0 u1 u2 u3 un ud uo v0 v1 v2 v3 vn vd vo x : Int) (w : World) (h1 : validB ⟨u0, u1, u2, u3, un, ud, uo⟩ = true) (h2 : validB ⟨v0, v1, v2, v3, vn, vd, vo⟩ = false) : Calls Tryz.prog 5 #[.int .i64 x, .agg #[.int .i64 u0, .int .i64 u1, .int .i64 u2, .int .i64 u3, .int .i64 un, .int .i64 ud, .int .i64 uo], .agg #[.int .i64 v0, .int .i64 v1, .int .i64 v2, .int .i64 v3, .int .i64 vn, .int .i64 vd, .int .i64 vo]] w fun e w' => e = .returned (.tuple #[.int .i64 0, .int .i64 1]) ∧ Below w.heap.size w w' := by
  have HV1 := Lib.hid fun w' => (by have h := rvalid_any u0 u1 u2 u3 un ud uo w'; rw [h1] at h; exact h : Calls Tryz.prog 14 #[.agg #[.int .i64 u0, .int .i64 u1, .int .i64 u2, .int .i64 u3, .int .i64 un, .int .i64 ud, .int .i64 uo]] w' fun e w'' => e = .returned (.bool true) ∧ Below w'.heap.size w' w'')
  have HV2 := Lib.hid fun w' => (by have h := rvalid_any v0 v1 v2 v3 vn vd vo w'; rw [h2] at h; exact h : Calls Tryz.prog 14 #[.agg #[.int .i64 v0, .int .i64 v1, .int .i64 v2, .int .i64 v3, .int .i64 vn, .int .i64 vd, .int .i64 vo]] w' fun e w'' => e = .returned (.bool false) ∧ Below w'.heap.size w' w'')
  obtain ⟨W, g, h, hW, hg, hh, U1, R1, B1, sz⟩ := two_boxes w 24 u0 u1 u2 u3 un ud uo v0 v1 v2 v3 vn vd vo
  have HU1 := Lib.hid U1
  have HR1 := Lib.hid R1
  have HB1 := Lib.hid B1
  clear U1 R1 B1 sz
  go_enter Tryz.func5, Tryz.ntmps5
  go_upto_region 1 with fail
  rw [← hW]
  try rw [← hh]
  try rw [← hg]
  clear hW hg hh
  obtain ⟨a0, a1, a2, a3, a4, a5, a6, az⟩ := HU1.out
  obtain ⟨b0, b1, b2, b3, b4, b5, b6, bz⟩ := HR1.out
  go_wp2_with fail
  refine (HV1.out _).mono ?_
  rintro e w1 ⟨rfl, hb⟩
  have HU2 := Lib.hid (HU1.out.keep hb)
  have HR2 := Lib.hid (HR1.out.keep hb)
  have HB2 := Lib.hid (HB1.out.trans (hb.mono HB1.out.size))
  clear hb HU1 HR1 HB1
  clear a0 a1 a2 a3 a4 a5 a6 az b0 b1 b2 b3 b4 b5 b6 bz
  obtain ⟨a0, a1, a2, a3, a4, a5, a6, az⟩ := HU2.out
  obtain ⟨b0, b1, b2, b3, b4, b5, b6, bz⟩ := HR2.out
  go_wp2_with fail
  refine (HV2.out _).mono ?_
  rintro e w2 ⟨rfl, hb⟩
  have HU3 := Lib.hid (HU2.out.keep hb)
  have HR3 := Lib.hid (HR2.out.keep hb)
  have HB3 := Lib.hid (HB2.out.trans (hb.mono HB2.out.size))
  clear hb HU2 HR2 HB2
  clear a0 a1 a2 a3 a4 a5 a6 az b0 b1 b2 b3 b4 b5 b6 bz
  go_wp2_with fail
  go_ret2
  exact ⟨rfl, HB3.out⟩

set_option maxHeartbeats 2000000 in
theorem rconv_bad3 (u0 u1 u2 u3 un ud uo v0 v1 v2 v3 vn vd vo x : Int) (w : World) (h1 : validB ⟨u0, u1, u2, u3, un, ud, uo⟩ = true) (h2 : validB ⟨v0, v1, v2, v3, vn, vd, vo⟩ = true) (h3 : x < -1000000000000 ∨ 1000000000000 < x) : Calls Tryz.prog 5 #[.int .i64 x, .agg #[.int .i64 u0, .int .i64 u1, .int .i64 u2, .int .i64 u3, .int .i64 un, .int .i64 ud, .int .i64 uo], .agg #[.int .i64 v0, .int .i64 v1, .int .i64 v2, .int .i64 v3, .int .i64 vn, .int .i64 vd, .int .i64 vo]] w fun e w' => e = .returned (.tuple #[.int .i64 0, .int .i64 1]) ∧ Below w.heap.size w w' := by
  have HV1 := Lib.hid fun w' => (by have h := rvalid_any u0 u1 u2 u3 un ud uo w'; rw [h1] at h; exact h : Calls Tryz.prog 14 #[.agg #[.int .i64 u0, .int .i64 u1, .int .i64 u2, .int .i64 u3, .int .i64 un, .int .i64 ud, .int .i64 uo]] w' fun e w'' => e = .returned (.bool true) ∧ Below w'.heap.size w' w'')
  have HV2 := Lib.hid fun w' => (by have h := rvalid_any v0 v1 v2 v3 vn vd vo w'; rw [h2] at h; exact h : Calls Tryz.prog 14 #[.agg #[.int .i64 v0, .int .i64 v1, .int .i64 v2, .int .i64 v3, .int .i64 vn, .int .i64 vd, .int .i64 vo]] w' fun e w'' => e = .returned (.bool true) ∧ Below w'.heap.size w' w'')
  by_cases h4 : x < -1000000000000
  · obtain ⟨W, g, h, hW, hg, hh, U1, R1, B1, sz⟩ := two_boxes w 24 u0 u1 u2 u3 un ud uo v0 v1 v2 v3 vn vd vo
    have HU1 := Lib.hid U1
    have HR1 := Lib.hid R1
    have HB1 := Lib.hid B1
    clear U1 R1 B1 sz
    go_enter Tryz.func5, Tryz.ntmps5
    go_upto_region 1 with fail
    rw [← hW]
    try rw [← hh]
    try rw [← hg]
    clear hW hg hh
    obtain ⟨a0, a1, a2, a3, a4, a5, a6, az⟩ := HU1.out
    obtain ⟨b0, b1, b2, b3, b4, b5, b6, bz⟩ := HR1.out
    go_wp2_with fail
    refine (HV1.out _).mono ?_
    rintro e w1 ⟨rfl, hb⟩
    have HU2 := Lib.hid (HU1.out.keep hb)
    have HR2 := Lib.hid (HR1.out.keep hb)
    have HB2 := Lib.hid (HB1.out.trans (hb.mono HB1.out.size))
    clear hb HU1 HR1 HB1
    clear a0 a1 a2 a3 a4 a5 a6 az b0 b1 b2 b3 b4 b5 b6 bz
    obtain ⟨a0, a1, a2, a3, a4, a5, a6, az⟩ := HU2.out
    obtain ⟨b0, b1, b2, b3, b4, b5, b6, bz⟩ := HR2.out
    go_wp2_with fail
    refine (HV2.out _).mono ?_
    rintro e w2 ⟨rfl, hb⟩
    have HU3 := Lib.hid (HU2.out.keep hb)
    have HR3 := Lib.hid (HR2.out.keep hb)
    have HB3 := Lib.hid (HB2.out.trans (hb.mono HB2.out.size))
    clear hb HU2 HR2 HB2
    clear a0 a1 a2 a3 a4 a5 a6 az b0 b1 b2 b3 b4 b5 b6 bz
    go_wp2_with fail
    go_ret2
    exact ⟨rfl, HB3.out⟩
  · have h5 : 1000000000000 < x := h3.resolve_left h4
    clear h3
    obtain ⟨W, g, h, hW, hg, hh, U1, R1, B1, sz⟩ := two_boxes w 24 u0 u1 u2 u3 un ud uo v0 v1 v2 v3 vn vd vo
    have HU1 := Lib.hid U1
    have HR1 := Lib.hid R1
    have HB1 := Lib.hid B1
    clear U1 R1 B1 sz
    go_enter Tryz.func5, Tryz.ntmps5
    go_upto_region 1 with fail
    rw [← hW]
    try rw [← hh]
    try rw [← hg]
    clear hW hg hh
    obtain ⟨a0, a1, a2, a3, a4, a5, a6, az⟩ := HU1.out
    obtain ⟨b0, b1, b2, b3, b4, b5, b6, bz⟩ := HR1.out
    go_wp2_with fail
    refine (HV1.out _).mono ?_
    rintro e w1 ⟨rfl, hb⟩
    have HU2 := Lib.hid (HU1.out.keep hb)
    have HR2 := Lib.hid (HR1.out.keep hb)
    have HB2 := Lib.hid (HB1.out.trans (hb.mono HB1.out.size))
    clear hb HU1 HR1 HB1
    clear a0 a1 a2 a3 a4 a5 a6 az b0 b1 b2 b3 b4 b5 b6 bz
    obtain ⟨a0, a1, a2, a3, a4, a5, a6, az⟩ := HU2.out
    obtain ⟨b0, b1, b2, b3, b4, b5, b6, bz⟩ := HR2.out
    go_wp2_with fail
    refine (HV2.out _).mono ?_
    rintro e w2 ⟨rfl, hb⟩
    have HU3 := Lib.hid (HU2.out.keep hb)
    have HR3 := Lib.hid (HR2.out.keep hb)
    have HB3 := Lib.hid (HB2.out.trans (hb.mono HB2.out.size))
    clear hb HU2 HR2 HB2
    clear a0 a1 a2 a3 a4 a5 a6 az b0 b1 b2 b3 b4 b5 b6 bz
    go_wp2_with fail
    go_ret2
    exact ⟨rfl, HB3.out⟩

set_option maxHeartbeats 2000000 in
theorem rconv_bad4 (u0 u1 u2 u3 un ud uo v0 v1 v2 v3 vn vd vo x : Int) (w : World) (h1 : validB ⟨u0, u1, u2, u3, un, ud, uo⟩ = true) (h2 : validB ⟨v0, v1, v2, v3, vn, vd, vo⟩ = true) (h3 : ¬ x < -1000000000000) (h5 : ¬ 1000000000000 < x) (h4 : ¬ (u0 = v0 ∧ u1 = v1 ∧ u2 = v2 ∧ u3 = v3)) : Calls Tryz.prog 5 #[.int .i64 x, .agg #[.int .i64 u0, .int .i64 u1, .int .i64 u2, .int .i64 u3, .int .i64 un, .int .i64 ud, .int .i64 uo], .agg #[.int .i64 v0, .int .i64 v1, .int .i64 v2, .int .i64 v3, .int .i64 vn, .int .i64 vd, .int .i64 vo]] w fun e w' => e = .returned (.tuple #[.int .i64 0, .int .i64 11]) ∧ Below w.heap.size w w' := by
  have HV1 := Lib.hid fun w' => (by have h := rvalid_any u0 u1 u2 u3 un ud uo w'; rw [h1] at h; exact h : Calls Tryz.prog 14 #[.agg #[.int .i64 u0, .int .i64 u1, .int .i64 u2, .int .i64 u3, .int .i64 un, .int .i64 ud, .int .i64 uo]] w' fun e w'' => e = .returned (.bool true) ∧ Below w'.heap.size w' w'')
  have HV2 := Lib.hid fun w' => (by have h := rvalid_any v0 v1 v2 v3 vn vd vo w'; rw [h2] at h; exact h : Calls Tryz.prog 14 #[.agg #[.int .i64 v0, .int .i64 v1, .int .i64 v2, .int .i64 v3, .int .i64 vn, .int .i64 vd, .int .i64 vo]] w' fun e w'' => e = .returned (.bool true) ∧ Below w'.heap.size w' w'')
  have heq := fun w => eq_four u0 u1 u2 u3 v0 v1 v2 v3 w
  have hz : (u0 == v0 && u1 == v1 && u2 == v2 && u3 == v3) = false := by
    rw [Bool.eq_false_iff]
    intro h
    apply h4
    simp only [Bool.and_eq_true, beq_iff_eq] at h
    exact ⟨h.1.1.1, h.1.1.2, h.1.2, h.2⟩
  rw [hz] at heq
  clear hz h4
  obtain ⟨W, g, h, hW, hg, hh, U1, R1, B1, sz⟩ := two_boxes w 24 u0 u1 u2 u3 un ud uo v0 v1 v2 v3 vn vd vo
  have HU1 := Lib.hid U1
  have HR1 := Lib.hid R1
  have HB1 := Lib.hid B1
  clear U1 R1 B1 sz
  go_enter Tryz.func5, Tryz.ntmps5
  go_upto_region 1 with fail
  rw [← hW]
  try rw [← hh]
  try rw [← hg]
  clear hW hg hh
  obtain ⟨a0, a1, a2, a3, a4, a5, a6, az⟩ := HU1.out
  obtain ⟨b0, b1, b2, b3, b4, b5, b6, bz⟩ := HR1.out
  go_wp2_with fail
  refine (HV1.out _).mono ?_
  rintro e w1 ⟨rfl, hb⟩
  have HU2 := Lib.hid (HU1.out.keep hb)
  have HR2 := Lib.hid (HR1.out.keep hb)
  have HB2 := Lib.hid (HB1.out.trans (hb.mono HB1.out.size))
  clear hb HU1 HR1 HB1
  clear a0 a1 a2 a3 a4 a5 a6 az b0 b1 b2 b3 b4 b5 b6 bz
  obtain ⟨a0, a1, a2, a3, a4, a5, a6, az⟩ := HU2.out
  obtain ⟨b0, b1, b2, b3, b4, b5, b6, bz⟩ := HR2.out
  go_wp2_with fail
  refine (HV2.out _).mono ?_
  rintro e w2 ⟨rfl, hb⟩
  have HU3 := Lib.hid (HU2.out.keep hb)
  have HR3 := Lib.hid (HR2.out.keep hb)
  have HB3 := Lib.hid (HB2.out.trans (hb.mono HB2.out.size))
  clear hb HU2 HR2 HB2
  clear a0 a1 a2 a3 a4 a5 a6 az b0 b1 b2 b3 b4 b5 b6 bz
  obtain ⟨a0, a1, a2, a3, a4, a5, a6, az⟩ := HU3.out
  obtain ⟨b0, b1, b2, b3, b4, b5, b6, bz⟩ := HR3.out
  go_wp2_with fail
  go_ret2
  exact ⟨rfl, HB3.out⟩


set_option maxHeartbeats 8000000 in
set_option maxRecDepth 100000 in
theorem rconv_main (u0 u1 u2 u3 un ud uo v0 v1 v2 v3 vn vd vo x : Int) (w : World) (h1 : validB ⟨u0, u1, u2, u3, un, ud, uo⟩ = true) (h2 : validB ⟨v0, v1, v2, v3, vn, vd, vo⟩ = true) (h3 : clampI x = x) (h4 : u0 = v0 ∧ u1 = v1 ∧ u2 = v2 ∧ u3 = v3) : Calls Tryz.prog 5 #[.int .i64 x, .agg #[.int .i64 u0, .int .i64 u1, .int .i64 u2, .int .i64 u3, .int .i64 un, .int .i64 ud, .int .i64 uo], .agg #[.int .i64 v0, .int .i64 v1, .int .i64 v2, .int .i64 v3, .int .i64 vn, .int .i64 vd, .int .i64 vo]] w fun e w' => e = .returned (.tuple #[.int .i64 (convR x ⟨u0, u1, u2, u3, un, ud, uo⟩ ⟨v0, v1, v2, v3, vn, vd, vo⟩).1, .int .i64 (convR x ⟨u0, u1, u2, u3, un, ud, uo⟩ ⟨v0, v1, v2, v3, vn, vd, vo⟩).2]) ∧ Below w.heap.size w w' := by
  have HV1 := Lib.hid fun w' => (by have h := rvalid_any u0 u1 u2 u3 un ud uo w'; rw [h1] at h; exact h : Calls Tryz.prog 14 #[.agg #[.int .i64 u0, .int .i64 u1, .int .i64 u2, .int .i64 u3, .int .i64 un, .int .i64 ud, .int .i64 uo]] w' fun e w'' => e = .returned (.bool true) ∧ Below w'.heap.size w' w'')
  have HV2 := Lib.hid fun w' => (by have h := rvalid_any v0 v1 v2 v3 vn vd vo w'; rw [h2] at h; exact h : Calls Tryz.prog 14 #[.agg #[.int .i64 v0, .int .i64 v1, .int .i64 v2, .int .i64 v3, .int .i64 vn, .int .i64 vd, .int .i64 vo]] w' fun e w'' => e = .returned (.bool true) ∧ Below w'.heap.size w' w'')
  obtain ⟨bx, bn, bd, bo, cd, cn, co⟩ := conv_ranges h1 h2 h3
  obtain ⟨dl, hdl⟩ : ∃ d, d = uo - vo := ⟨_, rfl⟩
  have e1 : IntKind.i64.wrap (uo - vo) = dl := by rw [hdl]; exact IntWalk.i64_in _ ⟨by omega, by omega⟩
  have bdl : -2000000 ≤ dl ∧ dl ≤ 2000000 := by omega
  have c1 := fun w => rtimes128_any x un w (by omega) (by omega) (by omega) (by omega)
  have c2 := fun w => rtimes128_any dl ud w (by omega) (by omega) (by omega) (by omega)
  obtain ⟨s1, hs1⟩ : ∃ s, s = (decide (x < 0) != decide (un < 0)) := ⟨_, rfl⟩
  obtain ⟨M1, hM1⟩ : ∃ m, m = absI x * absI un := ⟨_, rfl⟩
  obtain ⟨s2, hs2⟩ : ∃ s, s = (decide (dl < 0) != decide (ud < 0)) := ⟨_, rfl⟩
  obtain ⟨M2, hM2⟩ : ∃ m, m = absI dl * absI ud := ⟨_, rfl⟩
  have ab : ∀ a, 0 ≤ absI a := fun a => by unfold absI; split <;> omega
  have bM1 : 0 ≤ M1 ∧ M1 ≤ 1000000000000 * 100000000000 := by
    rw [hM1]
    exact ⟨Int.mul_nonneg (ab _) (ab _), Int.mul_le_mul (by unfold absI; split <;> omega) (by unfold absI; split <;> omega) (ab _) (by omega)⟩
  have bM2 : 0 ≤ M2 ∧ M2 ≤ 2000000 * 100000000000 := by
    rw [hM2]
    exact ⟨Int.mul_nonneg (ab _) (ab _), Int.mul_le_mul (by unfold absI; split <;> omega) (by unfold absI; split <;> omega) (ab _) (by omega)⟩
  have tv1 : sv s1 M1 = x * un := by rw [hs1, hM1]; exact times_sv x un (by omega)
  have tv2 : sv s2 M2 = dl * ud := by rw [hs2, hM2]; exact times_sv dl ud (by omega)
  have c3 := fun w => rsum_any s1 M1 s2 M2 w ⟨bM1.1, by omega⟩ ⟨bM2.1, by omega⟩
  have hsum := sum_sv s1 s2 M1 M2 bM1.1 bM2.1
  rw [← hs1, ← hM1] at c1
  rw [← hs2, ← hM2] at c2
  simp only [sumV_eq] at c3
  obtain ⟨⟨s, SV⟩, hSP⟩ : ∃ p, p = sumP s1 M1 s2 M2 := ⟨_, rfl⟩
  rw [← hSP] at c3 hsum
  have q1 : sv s SV = distI x ⟨u0, u1, u2, u3, un, ud, uo⟩ ⟨v0, v1, v2, v3, vn, vd, vo⟩ := by rw [show sv s SV = sv s1 M1 + sv s2 M2 from hsum.1, tv1, tv2, hdl]; rfl
  have q2 : 0 ≤ SV := hsum.2.1
  have q3 : SV ≤ 1000000000000 * 100000000000 + 2000000 * 100000000000 := by have h : SV ≤ M1 + M2 := hsum.2.2; omega
  have c4 := fun w => rstretch_any SV vd w (by omega) (by omega)
  have c5 := fun w => rproduct_any ud vn w (by omega) (by omega) (by omega) (by omega)
  have bP : 0 ≤ SV * vd ∧ SV * vd ≤ (1000000000000 * 100000000000 + 2000000 * 100000000000) * 100000000000 := ⟨Int.mul_nonneg q2 (by omega), Int.mul_le_mul q3 (by omega) (by omega) (by omega)⟩
  have bB : 1 ≤ ud * vn ∧ ud * vn ≤ 100000000000 * 100000000000 := ⟨by have := Int.mul_le_mul bd.1 cn.1 (by omega) (by omega); omega, Int.mul_le_mul bd.2 cn.2 (by omega) (by omega)⟩
  obtain ⟨A, hA⟩ : ∃ A : Nat, SV * vd = (A : Int) := ⟨(SV * vd).toNat, by omega⟩
  have c6 := fun w => divide_core A (ud * vn) w (by omega) bB.1 (by omega)
  have hq := quo_sv (distI x ⟨u0, u1, u2, u3, un, ud, uo⟩ ⟨v0, v1, v2, v3, vn, vd, vo⟩) vd ud vn s SV bd.1 cn.1 cd.1 q2 q1
  have hqn := quo_nonneg SV vd (ud * vn) q2 cd.1 bB.1
  rw [← hA] at c6
  obtain ⟨Q, hQ⟩ : ∃ Q, Q = (2 * (SV * vd) + ud * vn) / (2 * (ud * vn)) := ⟨_, rfl⟩
  rw [← hQ] at hq hqn
  have bQ : Q < 340282366920938463463374607431768211456 := by
    rw [hQ]
    refine Int.lt_of_le_of_lt (Int.ediv_le_self _ (by omega)) (by omega)
  have hqk : ∀ w, Calls Tryz.prog 17 #[.agg #[.int .u64 (hiW (SV * vd)), .int .u64 (loW (SV * vd))], .agg #[.int .u64 (hiW (ud * vn)), .int .u64 (loW (ud * vn))]] w fun e w' => e = .returned (pairV Q) ∧ Below w.heap.size w w' := fun w => by rw [hQ]; exact c6 w
  have hres : convR x ⟨u0, u1, u2, u3, un, ud, uo⟩ ⟨v0, v1, v2, v3, vn, vd, vo⟩ = if Q ≤ 1000000000000 then (sv s Q, 0) else (0, 6) := by
    have hcl : clampI (convN x ⟨u0, u1, u2, u3, un, ud, uo⟩ ⟨v0, v1, v2, v3, vn, vd, vo⟩) = convN x ⟨u0, u1, u2, u3, un, ud, uo⟩ ⟨v0, v1, v2, v3, vn, vd, vo⟩ ↔ Q ≤ 1000000000000 := by
      rw [show convN x ⟨u0, u1, u2, u3, un, ud, uo⟩ ⟨v0, v1, v2, v3, vn, vd, vo⟩ = sv s Q from hq]
      unfold sv clampI
      cases s <;> simp <;> omega
    unfold convR
    rw [if_neg (by rw [h1, h2]; simp [h3]), if_neg (fun h => h h4)]
    by_cases hQ2 : Q ≤ 1000000000000
    · rw [if_pos (hcl.2 hQ2), if_pos hQ2, show convN x ⟨u0, u1, u2, u3, un, ud, uo⟩ ⟨v0, v1, v2, v3, vn, vd, vo⟩ = sv s Q from hq]
    · rw [if_neg (fun h => hQ2 (hcl.1 h)), if_neg hQ2]
  simp only [sgnV] at c1 c2 c3
  simp only [pairV, wordsV] at c4 c5 hqk
  obtain ⟨A1, hA1⟩ : ∃ t : Value, t = .agg #[.bool s1, .int .u64 (hiW M1), .int .u64 (loW M1)] := ⟨_, rfl⟩
  obtain ⟨A2, hA2⟩ : ∃ t : Value, t = .agg #[.bool s2, .int .u64 (hiW M2), .int .u64 (loW M2)] := ⟨_, rfl⟩
  obtain ⟨A3, hA3⟩ : ∃ t : Value, t = .agg #[.int .u64 (hiW (SV * vd)), .int .u64 (loW (SV * vd))] := ⟨_, rfl⟩
  obtain ⟨A4, hA4⟩ : ∃ t : Value, t = .agg #[.int .u64 (hiW (ud * vn)), .int .u64 (loW (ud * vn))] := ⟨_, rfl⟩
  obtain ⟨SH, hSH⟩ : ∃ t, t = hiW SV := ⟨_, rfl⟩
  obtain ⟨SL, hSL⟩ : ∃ t, t = loW SV := ⟨_, rfl⟩
  obtain ⟨QH, hQH⟩ : ∃ t, t = hiW Q := ⟨_, rfl⟩
  obtain ⟨QL, hQL⟩ : ∃ t, t = loW Q := ⟨_, rfl⟩
  rw [← hA1] at c1 c3
  rw [← hA2] at c2 c3
  rw [← hSH, ← hSL] at c3 c4
  rw [← hA3] at c4 hqk
  rw [← hA4] at c5 hqk
  rw [← hQH, ← hQL] at hqk
  have HT1 := Lib.hid c1
  have HT2 := Lib.hid c2
  have HSM := Lib.hid c3
  have HST := Lib.hid c4
  have HPR := Lib.hid c5
  have HDV := Lib.hid hqk
  have HRES := Lib.hid hres
  have HQW := Lib.hid (show 0 ≤ Q ∧ Q < 340282366920938463463374607431768211456 ∧ QH = hiW Q ∧ QL = loW Q from ⟨hqn, bQ, hQH, hQL⟩)
  have x1 : ¬ x < -1000000000000 := by omega
  have x2 : ¬ 1000000000000 < x := by omega
  have y1 : IntKind.u64.wrap vd = vd := IntWalk.u64_in _ ⟨by omega, by omega⟩
  have y2 : IntKind.u64.wrap ud = ud := IntWalk.u64_in _ ⟨by omega, by omega⟩
  have y3 : IntKind.u64.wrap vn = vn := IntWalk.u64_in _ ⟨by omega, by omega⟩
  have heq := fun w => eq_four u0 u1 u2 u3 v0 v1 v2 v3 w
  have hz : (u0 == v0 && u1 == v1 && u2 == v2 && u3 == v3) = true := by
    obtain ⟨g1, g2, g3, g4⟩ := h4
    simp [g1, g2, g3, g4]
  rw [hz] at heq
  clear bx bn bd bo cd cn co hdl bdl c1 c2 hs1 hM1 hs2 hM2 ab bM1 bM2 tv1 tv2 c3 hsum hSP q1 q2 q3 c4 c5 bP bB hA c6 hq hqn hQ bQ hqk hres hA1 hA2 hA3 hA4 hSH hSL hQH hQL hz h1 h2 h3 h4
  obtain ⟨W, g, h, hW, hg, hh, U1, R1, B1, sz⟩ := two_boxes w 24 u0 u1 u2 u3 un ud uo v0 v1 v2 v3 vn vd vo
  have HU1 := Lib.hid U1
  have HR1 := Lib.hid R1
  have HB1 := Lib.hid B1
  clear U1 R1 B1 sz
  go_enter Tryz.func5, Tryz.ntmps5
  go_upto_region 1 with fail
  rw [← hW]
  try rw [← hh]
  try rw [← hg]
  clear hW hg hh
  obtain ⟨a0, a1, a2, a3, a4, a5, a6, az⟩ := HU1.out
  obtain ⟨b0, b1, b2, b3, b4, b5, b6, bz⟩ := HR1.out
  go_wp2_with fail
  refine (HV1.out _).mono ?_
  rintro e w1 ⟨rfl, hb⟩
  have HU2 := Lib.hid (HU1.out.keep hb)
  have HR2 := Lib.hid (HR1.out.keep hb)
  have HB2 := Lib.hid (HB1.out.trans (hb.mono HB1.out.size))
  clear hb HU1 HR1 HB1
  clear a0 a1 a2 a3 a4 a5 a6 az b0 b1 b2 b3 b4 b5 b6 bz
  obtain ⟨a0, a1, a2, a3, a4, a5, a6, az⟩ := HU2.out
  obtain ⟨b0, b1, b2, b3, b4, b5, b6, bz⟩ := HR2.out
  go_wp2_with fail
  refine (HV2.out _).mono ?_
  rintro e w2 ⟨rfl, hb⟩
  have HU3 := Lib.hid (HU2.out.keep hb)
  have HR3 := Lib.hid (HR2.out.keep hb)
  have HB3 := Lib.hid (HB2.out.trans (hb.mono HB2.out.size))
  clear hb HU2 HR2 HB2
  clear a0 a1 a2 a3 a4 a5 a6 az b0 b1 b2 b3 b4 b5 b6 bz
  obtain ⟨a0, a1, a2, a3, a4, a5, a6, az⟩ := HU3.out
  obtain ⟨b0, b1, b2, b3, b4, b5, b6, bz⟩ := HR3.out
  have HCR2 := Lib.hid (show CR w g h u0 u1 u2 u3 un ud uo v0 v1 v2 v3 vn vd vo w2 from ⟨HU3.out, HR3.out, HB3.out⟩)
  have hgw := HCR2.out.lt1
  have hhw := HCR2.out.lt2
  have hgN : w2.heap.size ≠ g := Nat.ne_of_gt hgw
  have hhN : w2.heap.size ≠ h := Nat.ne_of_gt hhw
  have hNw : w.heap.size ≤ w2.heap.size := HCR2.out.bel.size
  go_wp2_with fail
  clear HU3 HR3 HB3 heq x1 x2
  clear a0 a1 a2 a3 a4 a5 a6 az b0 b1 b2 b3 b4 b5 b6 bz
  go_cut [8] from 31 to 43 (fun p wx => ∃ N : Nat, p = .pointer (some ⟨N, 0, none⟩) ∧ Hid (SgnC wx N s SH SL ∧ CR w g h u0 u1 u2 u3 un ud uo v0 v1 v2 v3 vn vd vo wx))
  case first =>
    have HSS := Lib.hid (cs_of HCR2.out)
    have HSS2 := Lib.hid (cs_of (cr_drew HCR2.out))
    unfold CS at HSS HSS2
    go_region_held3 (fun w' => w'.cell? ⟨g, 4, none⟩ = some (.int .i64 un) ∧ w'.cell? ⟨g, 6, none⟩ = some (.int .i64 uo) ∧ w'.cell? ⟨h, 6, none⟩ = some (.int .i64 vo) ∧ w'.cell? ⟨g, 5, none⟩ = some (.int .i64 ud) ∧ CR w g h u0 u1 u2 u3 un ud uo v0 v1 v2 v3 vn vd vo w')
      (first | exact HSS.out | exact HSS2.out | exact cs_keep hb2 (by assumption) | exact cs_alloc _ (by assumption) | exact cs_store3 (by assumption) (by assumption) (by assumption) _ _ _ (by assumption) | exact cs_drew (by assumption) | go_keep)
      (first | (go_at_call_of 16 (Value.int IntKind.i64 x); refine (HT1.out _).mono ?_; rintro e y1 ⟨rfl, hb2⟩; have HS1 : Hid (CS w g h u0 u1 u2 u3 un ud uo v0 v1 v2 v3 vn vd vo y1) := cs_keep hb2 (by assumption); (first | (with_reducible have nn := sgn_kept (s := false) (x := 0) (y := 0) hb2) | (with_reducible have nn := sgn_kept_drew (s := false) (x := 0) (y := 0) hb2) | (with_reducible have nn := nn.keep hb2) | (with_reducible have nn := sgn_keep_drew nn hb2) | skip); have hg1 : y1.heap.size ≠ g := Nat.ne_of_gt HS1.out.cr.lt1; have hh1 : y1.heap.size ≠ h := Nat.ne_of_gt HS1.out.cr.lt2; have hw1 : w.heap.size ≤ y1.heap.size := HS1.out.cr.bel.size; (try (have n0 := nn.c0; have n1 := nn.c1; have n2 := nn.c2; have n3 := nn.fz))) | (go_at_call_of 16 (Value.int IntKind.i64 dl); refine (HT2.out _).mono ?_; rintro e y2 ⟨rfl, hb2⟩; have HS2 : Hid (CS w g h u0 u1 u2 u3 un ud uo v0 v1 v2 v3 vn vd vo y2) := cs_keep hb2 (by assumption); (first | (with_reducible have nn := sgn_kept (s := false) (x := 0) (y := 0) hb2) | (with_reducible have nn := sgn_kept_drew (s := false) (x := 0) (y := 0) hb2) | (with_reducible have nn := nn.keep hb2) | (with_reducible have nn := sgn_keep_drew nn hb2) | skip); have hg2 : y2.heap.size ≠ g := Nat.ne_of_gt HS2.out.cr.lt1; have hh2 : y2.heap.size ≠ h := Nat.ne_of_gt HS2.out.cr.lt2; have hw2 : w.heap.size ≤ y2.heap.size := HS2.out.cr.bel.size; (try (have n0 := nn.c0; have n1 := nn.c1; have n2 := nn.c2; have n3 := nn.fz))) | (go_at_call 15; refine (HSM.out _).mono ?_; rintro e y3 ⟨rfl, hb2⟩; have HS3 : Hid (CS w g h u0 u1 u2 u3 un ud uo v0 v1 v2 v3 vn vd vo y3) := cs_keep hb2 (by assumption); (first | (with_reducible have nn := sgn_kept (s := false) (x := 0) (y := 0) hb2) | (with_reducible have nn := sgn_kept_drew (s := false) (x := 0) (y := 0) hb2) | (with_reducible have nn := nn.keep hb2) | (with_reducible have nn := sgn_keep_drew nn hb2) | skip); have hg3 : y3.heap.size ≠ g := Nat.ne_of_gt HS3.out.cr.lt1; have hh3 : y3.heap.size ≠ h := Nat.ne_of_gt HS3.out.cr.lt2; have hw3 : w.heap.size ≤ y3.heap.size := HS3.out.cr.bel.size; (try (have n0 := nn.c0; have n1 := nn.c1; have n2 := nn.c2; have n3 := nn.fz))) | (fail))
    all_goals
      rename_i hHeld
      have hC := hHeld.2.2.2.2
      clear hHeld
      go_wp2_with fail
      go_meet
      first | exact ⟨_, rfl, Lib.hid ⟨nn.set3 _ _ _, hC⟩⟩ | exact ⟨_, rfl, Lib.hid ⟨sgn_fresh y3 _ _ _ _, hC⟩⟩
  case rest =>
    obtain ⟨N, rfl, hcc⟩ := hcut
    have HD := Lib.hid (es_of hcc.out.1 hcc.out.2)
    have HD2 := Lib.hid (es_drew (es_of hcc.out.1 hcc.out.2))
    unfold ES at HD HD2
    have kg := hcc.out.2.lt1
    have kh := hcc.out.2.lt2
    have kN := hcc.out.1.lt
    have kgN : wc.heap.size ≠ g := Nat.ne_of_gt kg
    have khN : wc.heap.size ≠ h := Nat.ne_of_gt kh
    have kNN : wc.heap.size ≠ N := Nat.ne_of_gt kN
    have kNw : w.heap.size ≤ wc.heap.size := hcc.out.2.bel.size
    clear hcc HCR2 hgw hhw hgN hhN hNw
    go_wp2_with fail
    go_cut [9] from 44 to 57 (fun p wx => ∃ K : Nat, p = .pointer (some ⟨K, 0, none⟩) ∧ Hid (TwoAt wx K (.int .u64 QH) (.int .u64 QL) ∧ ES w g h N s SH SL u0 u1 u2 u3 un ud uo v0 v1 v2 v3 vn vd vo wx))
    case first =>
      go_region_held3 (fun w' => w'.cell? ⟨N, 1, none⟩ = some (.int .u64 SH) ∧ w'.cell? ⟨N, 2, none⟩ = some (.int .u64 SL) ∧ w'.cell? ⟨h, 5, none⟩ = some (.int .i64 vd) ∧ w'.cell? ⟨g, 5, none⟩ = some (.int .i64 ud) ∧ w'.cell? ⟨h, 4, none⟩ = some (.int .i64 vn) ∧ SgnC w' N s SH SL ∧ CR w g h u0 u1 u2 u3 un ud uo v0 v1 v2 v3 vn vd vo w')
        (first | exact HD.out | exact HD2.out | exact es_keep hb2 (by assumption) | exact es_alloc _ (by assumption) | exact es_store (by assumption) (by assumption) (by assumption) (by assumption) _ _ (by assumption) | exact es_drew (by assumption) | go_keep)
        (first | (go_at_call 18; refine (HST.out _).mono ?_; rintro e z1 ⟨rfl, hb2⟩; have HT1 : Hid (ES w g h N s SH SL u0 u1 u2 u3 un ud uo v0 v1 v2 v3 vn vd vo z1) := es_keep hb2 (by assumption); (first | (with_reducible have mm := fresh_kept (x := .int .u64 0) (y := .int .u64 0) hb2) | (with_reducible have mm := fresh_kept_drew (x := .int .u64 0) (y := .int .u64 0) hb2) | (with_reducible have mm := two_kept mm hb2) | (with_reducible have mm := two_kept_drew mm hb2) | skip); have mg1 : z1.heap.size ≠ g := Nat.ne_of_gt HT1.out.2.2.2.2.2.2.lt1; have mh1 : z1.heap.size ≠ h := Nat.ne_of_gt HT1.out.2.2.2.2.2.2.lt2; have mN1 : z1.heap.size ≠ N := Nat.ne_of_gt HT1.out.2.2.2.2.2.1.lt; have mw1 : w.heap.size ≤ z1.heap.size := HT1.out.2.2.2.2.2.2.bel.size; (try (have m0 := mm.c0; have m1 := mm.c1; have m2 := mm.fz))) | (go_at_call 19; refine (HPR.out _).mono ?_; rintro e z2 ⟨rfl, hb2⟩; have HT2 : Hid (ES w g h N s SH SL u0 u1 u2 u3 un ud uo v0 v1 v2 v3 vn vd vo z2) := es_keep hb2 (by assumption); (first | (with_reducible have mm := fresh_kept (x := .int .u64 0) (y := .int .u64 0) hb2) | (with_reducible have mm := fresh_kept_drew (x := .int .u64 0) (y := .int .u64 0) hb2) | (with_reducible have mm := two_kept mm hb2) | (with_reducible have mm := two_kept_drew mm hb2) | skip); have mg2 : z2.heap.size ≠ g := Nat.ne_of_gt HT2.out.2.2.2.2.2.2.lt1; have mh2 : z2.heap.size ≠ h := Nat.ne_of_gt HT2.out.2.2.2.2.2.2.lt2; have mN2 : z2.heap.size ≠ N := Nat.ne_of_gt HT2.out.2.2.2.2.2.1.lt; have mw2 : w.heap.size ≤ z2.heap.size := HT2.out.2.2.2.2.2.2.bel.size; (try (have m0 := mm.c0; have m1 := mm.c1; have m2 := mm.fz))) | (go_at_call 17; refine (HDV.out _).mono ?_; rintro e z3 ⟨rfl, hb2⟩; have HT3 : Hid (ES w g h N s SH SL u0 u1 u2 u3 un ud uo v0 v1 v2 v3 vn vd vo z3) := es_keep hb2 (by assumption); (first | (with_reducible have mm := fresh_kept (x := .int .u64 0) (y := .int .u64 0) hb2) | (with_reducible have mm := fresh_kept_drew (x := .int .u64 0) (y := .int .u64 0) hb2) | (with_reducible have mm := two_kept mm hb2) | (with_reducible have mm := two_kept_drew mm hb2) | skip); have mg3 : z3.heap.size ≠ g := Nat.ne_of_gt HT3.out.2.2.2.2.2.2.lt1; have mh3 : z3.heap.size ≠ h := Nat.ne_of_gt HT3.out.2.2.2.2.2.2.lt2; have mN3 : z3.heap.size ≠ N := Nat.ne_of_gt HT3.out.2.2.2.2.2.1.lt; have mw3 : w.heap.size ≤ z3.heap.size := HT3.out.2.2.2.2.2.2.bel.size; (try (have m0 := mm.c0; have m1 := mm.c1; have m2 := mm.fz))) | (fail))
      all_goals
        rename_i hHeld
        have hC : ES w g h N s SH SL u0 u1 u2 u3 un ud uo v0 v1 v2 v3 vn vd vo _ := hHeld
        clear hHeld
        go_wp2_with fail
        go_meet
        first | exact ⟨_, rfl, Lib.hid ⟨mm.put _ _, hC⟩⟩ | exact ⟨_, rfl, Lib.hid ⟨two_fresh z3 _ _ _, hC⟩⟩
    case rest =>
      obtain ⟨K, rfl, hcc⟩ := hcut
      have HBB := Lib.hid hcc.out.2.2.2.2.2.2.2.bel
      have n0 := hcc.out.1.c0
      have n1 := hcc.out.1.c1
      have p0 := hcc.out.2.2.2.2.2.2.1.c0
      clear hcc HD HD2 kg kh kN kgN khN kNN kNw
      obtain ⟨qa, qb, qc, qd⟩ := HQW.out
      by_cases hq : Q ≤ 1000000000000
      · have hQH : QH = 0 := by rw [qc]; unfold hiW; omega
        have hQL : QL = Q := by rw [qd]; unfold loW; omega
        have HRR := Lib.hid (show convR x ⟨u0, u1, u2, u3, un, ud, uo⟩ ⟨v0, v1, v2, v3, vn, vd, vo⟩ = (sv s Q, 0) by rw [HRES.out, if_pos hq])
        rw [hQH] at n0
        rw [hQL] at n1
        have r1 : ¬ 1000000000000 < Q := by omega
        have r2 : IntKind.i64.wrap Q = Q := IntWalk.i64_in _ ⟨by omega, by omega⟩
        have r3 : IntKind.i64.wrap (-Q) = -Q := IntWalk.i64_in _ ⟨by omega, by omega⟩
        have r4 : wrap64 (-Q) = -Q := IntWalk.wrap64_in _ ⟨by omega, by omega⟩
        clear qa qb qc qd hq hQH hQL
        cases s
        · go_wp2_with fail
          go_ret2
          exact ⟨by rw [HRR.out]; rfl, HBB.out⟩
        · go_wp2_with fail
          go_ret2
          exact ⟨by rw [HRR.out]; (first | rfl | (show _ = Ending.returned (.tuple #[.int .i64 (-Q), .int .i64 0]); simp [r3, r4])), HBB.out⟩
      · have HRR := Lib.hid (show convR x ⟨u0, u1, u2, u3, un, ud, uo⟩ ⟨v0, v1, v2, v3, vn, vd, vo⟩ = (0, 6) by rw [HRES.out, if_neg hq])
        by_cases h0 : QH = 0
        · have hQL : 1000000000000 < QL := by rw [qd]; rw [qc] at h0; unfold hiW at h0; unfold loW; omega
          rw [h0] at n0
          clear qa qb qc qd hq h0
          go_wp2_with fail
          go_ret2
          exact ⟨by rw [HRR.out]; (first | done | rfl), HBB.out⟩
        · have t1 : (QH != 0) = true := by simpa using h0
          clear qa qb qc qd hq h0
          go_wp2_with fail
          go_ret2
          exact ⟨by rw [HRR.out]; (first | done | rfl), HBB.out⟩
end Go.Proofs.YtlahoohgbfjciaaGreatDoor
