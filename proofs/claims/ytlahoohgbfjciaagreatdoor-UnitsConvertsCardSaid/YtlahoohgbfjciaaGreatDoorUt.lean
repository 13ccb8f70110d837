/- The contract of units.Convert. -/
import Derived.Test.YtlahoohgbfjciaaGreatDoorUs
namespace Go.Proofs.YtlahoohgbfjciaaGreatDoor
open Go.RowKit Go.Shelf

theorem two_units (w : World) (u0 u1 u2 u3 un ud uo v0 v1 v2 v3 vn vd vo : Int) : ∃ (W : World) (g h : Nat), W = (w.alloc (Obj.cells #[.int .i64 u0, .int .i64 u1, .int .i64 u2, .int .i64 u3, .int .i64 un, .int .i64 ud, .int .i64 uo] 28)).alloc (Obj.cells #[.int .i64 v0, .int .i64 v1, .int .i64 v2, .int .i64 v3, .int .i64 vn, .int .i64 vd, .int .i64 vo] 28) ∧ g = w.heap.size ∧ h = w.heap.size + 1 ∧ g ≠ h ∧ w.heap.size ≤ g ∧ w.heap.size ≤ h ∧ UnitAt W g u0 u1 u2 u3 un ud uo ∧ UnitAt W h v0 v1 v2 v3 vn vd vo ∧ Below w.heap.size w W := by
  have a := unit_fresh w u0 u1 u2 u3 un ud uo
  have sz := World.size_alloc w (Obj.cells #[.int .i64 u0, .int .i64 u1, .int .i64 u2, .int .i64 u3, .int .i64 un, .int .i64 ud, .int .i64 uo] 28)
  have b := unit_fresh (w.alloc (Obj.cells #[.int .i64 u0, .int .i64 u1, .int .i64 u2, .int .i64 u3, .int .i64 un, .int .i64 ud, .int .i64 uo] 28)) v0 v1 v2 v3 vn vd vo
  rw [sz] at b
  have bw := (Below.refl w.heap.size w).alloc (Nat.le_refl _) (Obj.cells #[.int .i64 u0, .int .i64 u1, .int .i64 u2, .int .i64 u3, .int .i64 un, .int .i64 ud, .int .i64 uo] 28)
  exact ⟨_, _, _, rfl, rfl, rfl, by omega, Nat.le_refl _, by omega, a.keep ((Below.refl _ _).alloc (Nat.le_refl _) _), b, bw.alloc bw.size _⟩

set_option maxHeartbeats 2000000 in
theorem convert_bad1 (u0 u1 u2 u3 un ud uo v0 v1 v2 v3 vn vd vo x : Int) (w : World) (h1 : validB ⟨u0, u1, u2, u3, un, ud, uo⟩ = false) :
    Calls Tryz.prog 4 #[.int .i64 x, .agg #[.int .i64 u0, .int .i64 u1, .int .i64 u2, .int .i64 u3, .int .i64 un, .int .i64 ud, .int .i64 uo], .agg #[.int .i64 v0, .int .i64 v1, .int .i64 v2, .int .i64 v3, .int .i64 vn, .int .i64 vd, .int .i64 vo]] w fun e w' => e = .returned (.tuple #[.int .i64 0, .int .i64 1]) ∧ Below w.heap.size w w' := by
  have HV1 := Lib.hid fun w' => (by have h := valid_any u0 u1 u2 u3 un ud uo w'; rw [h1] at h; exact h : Calls Tryz.prog 7 #[.agg #[.int .i64 u0, .int .i64 u1, .int .i64 u2, .int .i64 u3, .int .i64 un, .int .i64 ud, .int .i64 uo]] w' fun e w'' => e = .returned (.bool false) ∧ Below w'.heap.size w' w'')
  go_enter Tryz.func4, Tryz.ntmps4
  go_wp2_with fail
  obtain ⟨W, g, h, hW, hg, hh, hgh, hwg, hwh, U1, R1, B1⟩ := two_units w u0 u1 u2 u3 un ud uo v0 v1 v2 v3 vn vd vo
  rw [← hh, ← hg, ← hW]
  have HU1 := Lib.hid U1
  have HR1 := Lib.hid R1
  have HB1 := Lib.hid B1
  clear hW hg hh U1 R1 B1
  refine (HV1.out _).mono ?_
  rintro e w1 ⟨rfl, hb⟩
  have HU2 := Lib.hid (HU1.out.keep hb)
  have HR2 := Lib.hid (HR1.out.keep hb)
  have HB2 := Lib.hid (HB1.out.trans (hb.mono HB1.out.size))
  clear hb
  go_wp2_with fail
  go_ret2
  exact ⟨rfl, HB2.out⟩

set_option maxHeartbeats 2000000 in
theorem convert_bad2 (u0 u1 u2 u3 un ud uo v0 v1 v2 v3 vn vd vo x : Int) (w : World) (h1 : validB ⟨u0, u1, u2, u3, un, ud, uo⟩ = true) (h2 : validB ⟨v0, v1, v2, v3, vn, vd, vo⟩ = false) :
    Calls Tryz.prog 4 #[.int .i64 x, .agg #[.int .i64 u0, .int .i64 u1, .int .i64 u2, .int .i64 u3, .int .i64 un, .int .i64 ud, .int .i64 uo], .agg #[.int .i64 v0, .int .i64 v1, .int .i64 v2, .int .i64 v3, .int .i64 vn, .int .i64 vd, .int .i64 vo]] w fun e w' => e = .returned (.tuple #[.int .i64 0, .int .i64 1]) ∧ Below w.heap.size w w' := by
  have HV1 := Lib.hid fun w' => (by have h := valid_any u0 u1 u2 u3 un ud uo w'; rw [h1] at h; exact h : Calls Tryz.prog 7 #[.agg #[.int .i64 u0, .int .i64 u1, .int .i64 u2, .int .i64 u3, .int .i64 un, .int .i64 ud, .int .i64 uo]] w' fun e w'' => e = .returned (.bool true) ∧ Below w'.heap.size w' w'')
  have HV2 := Lib.hid fun w' => (by have h := valid_any v0 v1 v2 v3 vn vd vo w'; rw [h2] at h; exact h : Calls Tryz.prog 7 #[.agg #[.int .i64 v0, .int .i64 v1, .int .i64 v2, .int .i64 v3, .int .i64 vn, .int .i64 vd, .int .i64 vo]] w' fun e w'' => e = .returned (.bool false) ∧ Below w'.heap.size w' w'')
  go_enter Tryz.func4, Tryz.ntmps4
  go_wp2_with fail
  obtain ⟨W, g, h, hW, hg, hh, hgh, hwg, hwh, U1, R1, B1⟩ := two_units w u0 u1 u2 u3 un ud uo v0 v1 v2 v3 vn vd vo
  rw [← hh, ← hg, ← hW]
  have HU1 := Lib.hid U1
  have HR1 := Lib.hid R1
  have HB1 := Lib.hid B1
  clear hW hg hh U1 R1 B1
  refine (HV1.out _).mono ?_
  rintro e w1 ⟨rfl, hb⟩
  have HU2 := Lib.hid (HU1.out.keep hb)
  have HR2 := Lib.hid (HR1.out.keep hb)
  have HB2 := Lib.hid (HB1.out.trans (hb.mono HB1.out.size))
  clear hb
  obtain ⟨a0, a1, a2, a3, a4, a5, a6, az⟩ := HU2.out
  obtain ⟨b0, b1, b2, b3, b4, b5, b6, bz⟩ := HR2.out
  go_wp2_with fail
  refine (HV2.out _).mono ?_
  clear a0 a1 a2 a3 a4 a5 a6 az b0 b1 b2 b3 b4 b5 b6 bz
  rintro e w2 ⟨rfl, hb⟩
  have HU3 := Lib.hid (HU2.out.keep hb)
  have HR3 := Lib.hid (HR2.out.keep hb)
  have HB3 := Lib.hid (HB2.out.trans (hb.mono HB2.out.size))
  clear hb
  go_wp2_with fail
  go_ret2
  exact ⟨rfl, HB3.out⟩


set_option maxHeartbeats 2000000 in
theorem convert_bad3 (u0 u1 u2 u3 un ud uo v0 v1 v2 v3 vn vd vo x : Int) (w : World) (h1 : validB ⟨u0, u1, u2, u3, un, ud, uo⟩ = true) (h2 : validB ⟨v0, v1, v2, v3, vn, vd, vo⟩ = true) (h3 : clampI x ≠ x) :
    Calls Tryz.prog 4 #[.int .i64 x, .agg #[.int .i64 u0, .int .i64 u1, .int .i64 u2, .int .i64 u3, .int .i64 un, .int .i64 ud, .int .i64 uo], .agg #[.int .i64 v0, .int .i64 v1, .int .i64 v2, .int .i64 v3, .int .i64 vn, .int .i64 vd, .int .i64 vo]] w fun e w' => e = .returned (.tuple #[.int .i64 0, .int .i64 1]) ∧ Below w.heap.size w w' := by
  have HV1 := Lib.hid fun w' => (by have h := valid_any u0 u1 u2 u3 un ud uo w'; rw [h1] at h; exact h : Calls Tryz.prog 7 #[.agg #[.int .i64 u0, .int .i64 u1, .int .i64 u2, .int .i64 u3, .int .i64 un, .int .i64 ud, .int .i64 uo]] w' fun e w'' => e = .returned (.bool true) ∧ Below w'.heap.size w' w'')
  have HV2 := Lib.hid fun w' => (by have h := valid_any v0 v1 v2 v3 vn vd vo w'; rw [h2] at h; exact h : Calls Tryz.prog 7 #[.agg #[.int .i64 v0, .int .i64 v1, .int .i64 v2, .int .i64 v3, .int .i64 vn, .int .i64 vd, .int .i64 vo]] w' fun e w'' => e = .returned (.bool true) ∧ Below w'.heap.size w' w'')
  obtain ⟨X, hX⟩ : ∃ X, X = clampI x := ⟨_, rfl⟩
  rw [← hX] at h3
  have HX := Lib.hid fun w => (by have h := clamp_any x w; rw [← hX] at h; exact h : Calls Tryz.prog 8 #[.int .i64 x] w fun e w' => e = .returned (.int .i64 X) ∧ w = w')
  have t3 : (X != x) = true := by rw [bne_iff_ne]; exact h3
  clear hX h3
  go_enter Tryz.func4, Tryz.ntmps4
  go_wp2_with fail
  obtain ⟨W, g, h, hW, hg, hh, hgh, hwg, hwh, U1, R1, B1⟩ := two_units w u0 u1 u2 u3 un ud uo v0 v1 v2 v3 vn vd vo
  rw [← hh, ← hg, ← hW]
  have HU1 := Lib.hid U1
  have HR1 := Lib.hid R1
  have HB1 := Lib.hid B1
  clear hW hg hh U1 R1 B1
  refine (HV1.out _).mono ?_
  rintro e w1 ⟨rfl, hb⟩
  have HU2 := Lib.hid (HU1.out.keep hb)
  have HR2 := Lib.hid (HR1.out.keep hb)
  have HB2 := Lib.hid (HB1.out.trans (hb.mono HB1.out.size))
  clear hb
  obtain ⟨a0, a1, a2, a3, a4, a5, a6, az⟩ := HU2.out
  obtain ⟨b0, b1, b2, b3, b4, b5, b6, bz⟩ := HR2.out
  go_wp2_with fail
  refine (HV2.out _).mono ?_
  clear a0 a1 a2 a3 a4 a5 a6 az b0 b1 b2 b3 b4 b5 b6 bz
  rintro e w2 ⟨rfl, hb⟩
  have HU3 := Lib.hid (HU2.out.keep hb)
  have HR3 := Lib.hid (HR2.out.keep hb)
  have HB3 := Lib.hid (HB2.out.trans (hb.mono HB2.out.size))
  clear hb
  obtain ⟨a0, a1, a2, a3, a4, a5, a6, az⟩ := HU3.out
  obtain ⟨b0, b1, b2, b3, b4, b5, b6, bz⟩ := HR3.out
  go_wp2_with (go_at_call 8; refine (HX.out _).mono ?_; rintro e w' ⟨rfl, rfl⟩)
  clear a0 a1 a2 a3 a4 a5 a6 az b0 b1 b2 b3 b4 b5 b6 bz
  go_ret2
  exact ⟨rfl, HB3.out⟩

set_option maxHeartbeats 2000000 in
theorem convert_bad4 (u0 u1 u2 u3 un ud uo v0 v1 v2 v3 vn vd vo x : Int) (w : World) (h1 : validB ⟨u0, u1, u2, u3, un, ud, uo⟩ = true) (h2 : validB ⟨v0, v1, v2, v3, vn, vd, vo⟩ = true) (h3 : clampI x = x) (h4 : ¬ (u0 = v0 ∧ u1 = v1 ∧ u2 = v2 ∧ u3 = v3)) :
    Calls Tryz.prog 4 #[.int .i64 x, .agg #[.int .i64 u0, .int .i64 u1, .int .i64 u2, .int .i64 u3, .int .i64 un, .int .i64 ud, .int .i64 uo], .agg #[.int .i64 v0, .int .i64 v1, .int .i64 v2, .int .i64 v3, .int .i64 vn, .int .i64 vd, .int .i64 vo]] w fun e w' => e = .returned (.tuple #[.int .i64 0, .int .i64 11]) ∧ Below w.heap.size w w' := by
  have HV1 := Lib.hid fun w' => (by have h := valid_any u0 u1 u2 u3 un ud uo w'; rw [h1] at h; exact h : Calls Tryz.prog 7 #[.agg #[.int .i64 u0, .int .i64 u1, .int .i64 u2, .int .i64 u3, .int .i64 un, .int .i64 ud, .int .i64 uo]] w' fun e w'' => e = .returned (.bool true) ∧ Below w'.heap.size w' w'')
  have HV2 := Lib.hid fun w' => (by have h := valid_any v0 v1 v2 v3 vn vd vo w'; rw [h2] at h; exact h : Calls Tryz.prog 7 #[.agg #[.int .i64 v0, .int .i64 v1, .int .i64 v2, .int .i64 v3, .int .i64 vn, .int .i64 vd, .int .i64 vo]] w' fun e w'' => e = .returned (.bool true) ∧ Below w'.heap.size w' w'')
  have HX := Lib.hid fun w => (by have h := clamp_any x w; rw [h3] at h; exact h : Calls Tryz.prog 8 #[.int .i64 x] w fun e w' => e = .returned (.int .i64 x) ∧ w = w')
  have heq := fun w => eq_four u0 u1 u2 u3 v0 v1 v2 v3 w
  have hz : (u0 == v0 && u1 == v1 && u2 == v2 && u3 == v3) = false := by
    rw [Bool.eq_false_iff]
    intro h
    apply h4
    simp only [Bool.and_eq_true, beq_iff_eq] at h
    exact ⟨h.1.1.1, h.1.1.2, h.1.2, h.2⟩
  rw [hz] at heq
  clear hz h3 h4
  go_enter Tryz.func4, Tryz.ntmps4
  go_wp2_with fail
  obtain ⟨W, g, h, hW, hg, hh, hgh, hwg, hwh, U1, R1, B1⟩ := two_units w u0 u1 u2 u3 un ud uo v0 v1 v2 v3 vn vd vo
  rw [← hh, ← hg, ← hW]
  have HU1 := Lib.hid U1
  have HR1 := Lib.hid R1
  have HB1 := Lib.hid B1
  clear hW hg hh U1 R1 B1
  refine (HV1.out _).mono ?_
  rintro e w1 ⟨rfl, hb⟩
  have HU2 := Lib.hid (HU1.out.keep hb)
  have HR2 := Lib.hid (HR1.out.keep hb)
  have HB2 := Lib.hid (HB1.out.trans (hb.mono HB1.out.size))
  clear hb
  obtain ⟨a0, a1, a2, a3, a4, a5, a6, az⟩ := HU2.out
  obtain ⟨b0, b1, b2, b3, b4, b5, b6, bz⟩ := HR2.out
  go_wp2_with fail
  refine (HV2.out _).mono ?_
  clear a0 a1 a2 a3 a4 a5 a6 az b0 b1 b2 b3 b4 b5 b6 bz
  rintro e w2 ⟨rfl, hb⟩
  have HU3 := Lib.hid (HU2.out.keep hb)
  have HR3 := Lib.hid (HR2.out.keep hb)
  have HB3 := Lib.hid (HB2.out.trans (hb.mono HB2.out.size))
  clear hb
  obtain ⟨a0, a1, a2, a3, a4, a5, a6, az⟩ := HU3.out
  obtain ⟨b0, b1, b2, b3, b4, b5, b6, bz⟩ := HR3.out
  go_wp2_with (go_at_call 8; refine (HX.out _).mono ?_; rintro e w' ⟨rfl, rfl⟩)
  go_ret2
  exact ⟨rfl, HB3.out⟩

end Go.Proofs.YtlahoohgbfjciaaGreatDoor
