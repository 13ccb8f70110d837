/- The specification's times, Delta and Compatible; the program's Compatible. -/
import Derived.Test.YtjkdcbkfcmaadaaGreatDoorRa
import Derived.Test.YtjkdcbkfcmaadaaGreatDoorUp
import Derived.Test.YtjkdcbkfcmaadaaGreatDoorUi
namespace Go.Proofs.YtjkdcbkfcmaadaaGreatDoor
open Go.RowKit Go.Shelf

theorem two_boxes (w : World) (t : TypeId) (u0 u1 u2 u3 un ud uo v0 v1 v2 v3 vn vd vo : Int) : ∃ (W : World) (g h : Nat), W = (w.alloc (Obj.cells #[.int .i64 u0, .int .i64 u1, .int .i64 u2, .int .i64 u3, .int .i64 un, .int .i64 ud, .int .i64 uo] t)).alloc (Obj.cells #[.int .i64 v0, .int .i64 v1, .int .i64 v2, .int .i64 v3, .int .i64 vn, .int .i64 vd, .int .i64 vo] t) ∧ g = w.heap.size ∧ h = w.heap.size + 1 ∧ UnitAt W g u0 u1 u2 u3 un ud uo ∧ UnitAt W h v0 v1 v2 v3 vn vd vo ∧ Below w.heap.size w W ∧ W.heap.size = w.heap.size + 2 := by
  have a := unit_freshT w t u0 u1 u2 u3 un ud uo
  have sz := World.size_alloc w (Obj.cells #[.int .i64 u0, .int .i64 u1, .int .i64 u2, .int .i64 u3, .int .i64 un, .int .i64 ud, .int .i64 uo] t)
  have b := unit_freshT (w.alloc (Obj.cells #[.int .i64 u0, .int .i64 u1, .int .i64 u2, .int .i64 u3, .int .i64 un, .int .i64 ud, .int .i64 uo] t)) t v0 v1 v2 v3 vn vd vo
  rw [sz] at b
  have b1 := (Below.refl _ _).alloc (Nat.le_refl _) (w := w.alloc (Obj.cells #[.int .i64 u0, .int .i64 u1, .int .i64 u2, .int .i64 u3, .int .i64 un, .int .i64 ud, .int .i64 uo] t)) (Obj.cells #[.int .i64 v0, .int .i64 v1, .int .i64 v2, .int .i64 v3, .int .i64 vn, .int .i64 vd, .int .i64 vo] t)
  exact ⟨_, _, _, rfl, rfl, rfl, a.keep b1, b, (((Below.refl w.heap.size w).alloc (Nat.le_refl _) _).alloc (by rw [sz]; omega) _), by rw [World.size_alloc, sz]⟩
def timesN (a b : Int) : Int := wrap64 (a * b % 18446744073709551616)
theorem timesN_ok {a b : Int} (h0 : 0 ≤ a * b) (h1 : a * b ≤ 100000000000) : timesN a b = a * b := by
  unfold timesN
  rw [show a * b % 18446744073709551616 = a * b by omega]
  exact IntWalk.wrap64_in _ ⟨by omega, by omega⟩
set_option maxHeartbeats 1000000 in
theorem rtimes_any (a b : Int) (w : World) (ha1 : 0 ≤ a) (ha2 : a ≤ 100000000000) (hb1 : 0 ≤ b) (hb2 : b ≤ 100000000000) :
    Calls Tryz.prog 65 #[.int .i64 a, .int .i64 b] w fun e w' => e = .returned (.tuple #[.int .i64 (timesN a b), .bool (decide (a * b ≤ 100000000000))]) ∧ w = w' := by
  obtain ⟨H, hH⟩ : ∃ x, x = a * b / 18446744073709551616 := ⟨_, rfl⟩
  obtain ⟨L, hL⟩ : ∃ x, x = a * b % 18446744073709551616 := ⟨_, rfl⟩
  have hm := fun w => mul64_int a b ha1 (by omega) hb1 (by omega) w
  rw [← hH, ← hL] at hm
  have h0 : 0 ≤ a * b := Int.mul_nonneg ha1 hb1
  have hL1 : 0 ≤ L := by omega
  have c1 : IntKind.u64.wrap a = a := IntWalk.u64_in _ ⟨by omega, by omega⟩
  have c2 : IntKind.u64.wrap b = b := IntWalk.u64_in _ ⟨by omega, by omega⟩
  have hcase : (H = 0 ∧ L ≤ 100000000000 ∧ a * b ≤ 100000000000) ∨ (H = 0 ∧ 100000000000 < L ∧ ¬ a * b ≤ 100000000000) ∨ (H ≠ 0 ∧ ¬ a * b ≤ 100000000000) := by omega
  have ht : timesN a b = wrap64 L := by rw [hL]; rfl
  rw [ht]
  have HM := Lib.hid hm
  clear hm ht hH hL h0 ha1 ha2 hb1 hb2
  rcases hcase with ⟨rfl, l1, l2⟩ | ⟨rfl, l1, l2⟩ | ⟨l1, l2⟩
  · rw [decide_eq_true l2, show wrap64 L = L from IntWalk.wrap64_in _ ⟨by omega, by omega⟩]
    clear l2
    go_enter Tryz.func65, Tryz.ntmps65
    go_wp2_with fail
    refine (HM.out _).mono ?_
    rintro e w' ⟨rfl, rfl⟩
    go_wp2_with fail
    go_ret2
    exact ⟨rfl, rfl⟩
  · rw [decide_eq_false l2]
    have t2 : decide (L ≤ 100000000000) = false := decide_eq_false (by omega)
    clear l2 l1
    go_enter Tryz.func65, Tryz.ntmps65
    go_wp2_with fail
    refine (HM.out _).mono ?_
    rintro e w' ⟨rfl, rfl⟩
    go_wp2_with fail
    go_ret2
    exact ⟨rfl, rfl⟩
  · rw [decide_eq_false l2]
    have t1 : (H == 0) = false := by rw [beq_eq_false_iff_ne]; exact l1
    clear l2 l1
    go_enter Tryz.func65, Tryz.ntmps65
    go_wp2_with fail
    refine (HM.out _).mono ?_
    rintro e w' ⟨rfl, rfl⟩
    go_wp2_with fail
    go_ret2
    exact ⟨rfl, rfl⟩

def compB (u v : UnitD) : Bool := validB u && validB v && decide (u.e0 = v.e0 ∧ u.e1 = v.e1 ∧ u.e2 = v.e2 ∧ u.e3 = v.e3)
set_option maxHeartbeats 2000000 in
set_option maxRecDepth 100000 in
theorem compat_any (u0 u1 u2 u3 un ud uo v0 v1 v2 v3 vn vd vo : Int) (w : World) : Calls Tryz.prog 23 #[.agg #[.int .i64 u0, .int .i64 u1, .int .i64 u2, .int .i64 u3, .int .i64 un, .int .i64 ud, .int .i64 uo], .agg #[.int .i64 v0, .int .i64 v1, .int .i64 v2, .int .i64 v3, .int .i64 vn, .int .i64 vd, .int .i64 vo]] w fun e w' => e = .returned (.bool (compB ⟨u0, u1, u2, u3, un, ud, uo⟩ ⟨v0, v1, v2, v3, vn, vd, vo⟩)) ∧ Below w.heap.size w w' := by
  obtain ⟨Ba, hBa⟩ : ∃ V, V = validB ⟨u0, u1, u2, u3, un, ud, uo⟩ := ⟨_, rfl⟩
  obtain ⟨Bb, hBb⟩ : ∃ V, V = validB ⟨v0, v1, v2, v3, vn, vd, vo⟩ := ⟨_, rfl⟩
  have hva := fun w => valid_any u0 u1 u2 u3 un ud uo w
  have hvb := fun w => valid_any v0 v1 v2 v3 vn vd vo w
  have hz : compB ⟨u0, u1, u2, u3, un, ud, uo⟩ ⟨v0, v1, v2, v3, vn, vd, vo⟩ = (Ba && Bb && decide (u0 = v0 ∧ u1 = v1 ∧ u2 = v2 ∧ u3 = v3)) := by rw [hBa, hBb]; rfl
  rw [hz]
  rw [← hBa] at hva
  rw [← hBb] at hvb
  have HVa := Lib.hid hva
  have HVb := Lib.hid hvb
  clear hva hvb hBa hBb hz
  go_enter Tryz.func23, Tryz.ntmps23
  go_upto_region 1 with fail
  obtain ⟨W, g, h, hW, hg0, hh0, U1, V1, B1, sz⟩ := two_boxes w 25 u0 u1 u2 u3 un ud uo v0 v1 v2 v3 vn vd vo
  rw [← hW]
  try rw [← hh0]
  try rw [← hg0]
  have HU := Lib.hid U1
  have HV := Lib.hid V1
  have HB := Lib.hid B1
  clear hW hg0 hh0 sz U1 V1 B1
  obtain ⟨a0, a1, a2, a3, a4, a5, a6, az⟩ := HU.out
  go_wp2_with fail
  refine (HVa.out _).mono ?_
  rintro e w1 ⟨rfl, hb⟩
  clear a0 a1 a2 a3 a4 a5 a6 az
  have HU1 := Lib.hid (HU.out.keep hb)
  have HV1 := Lib.hid (HV.out.keep hb)
  have HB1 := Lib.hid (HB.out.trans (hb.mono HB.out.size))
  clear hb HU HV HB
  cases Ba
  · go_wp2_with fail
    go_ret
    exact ⟨rfl, HB1.out⟩
  · obtain ⟨vx0, vx1, vx2, vx3, vx4, vx5, vx6, vxz⟩ := HV1.out
    go_wp2_with fail
    refine (HVb.out _).mono ?_
    rintro e w2 ⟨rfl, hb⟩
    clear vx0 vx1 vx2 vx3 vx4 vx5 vx6 vxz
    have HU2 := Lib.hid (HU1.out.keep hb)
    have HV2 := Lib.hid (HV1.out.keep hb)
    have HB2 := Lib.hid (HB1.out.trans (hb.mono HB1.out.size))
    clear hb HU1 HV1 HB1
    cases Bb
    · go_wp2_with fail
      go_ret
      exact ⟨rfl, HB2.out⟩
    · by_cases hx : u0 = v0 ∧ u1 = v1 ∧ u2 = v2 ∧ u3 = v3
      · obtain ⟨rfl, rfl, rfl, rfl⟩ := hx
        have ef := fun w => (eq_four u0 u1 u2 u3 u0 u1 u2 u3 w).trans (show _ = Result.ok true w by simp)
        obtain ⟨ux0, ux1, ux2, ux3, ux4, ux5, ux6, uxz⟩ := HU2.out
        obtain ⟨vx0, vx1, vx2, vx3, vx4, vx5, vx6, vxz⟩ := HV2.out
        go_wp2_with fail
        go_ret
        exact ⟨by simp, HB2.out⟩
      · have ef := fun w => (eq_four u0 u1 u2 u3 v0 v1 v2 v3 w).trans (show _ = Result.ok false w by
          rw [show (u0 == v0 && u1 == v1 && u2 == v2 && u3 == v3) = false by
            rw [Bool.eq_false_iff]
            intro h
            simp only [Bool.and_eq_true, beq_iff_eq] at h
            exact hx ⟨h.1.1.1, h.1.1.2, h.1.2, h.2⟩])
        have HX := Lib.hid hx
        clear hx
        obtain ⟨ux0, ux1, ux2, ux3, ux4, ux5, ux6, uxz⟩ := HU2.out
        obtain ⟨vx0, vx1, vx2, vx3, vx4, vx5, vx6, vxz⟩ := HV2.out
        go_wp2_with fail
        go_ret
        exact ⟨by rw [decide_eq_false HX.out]; rfl, HB2.out⟩

set_option maxHeartbeats 2000000 in
set_option maxRecDepth 100000 in
theorem rcompat_any (u0 u1 u2 u3 un ud uo v0 v1 v2 v3 vn vd vo : Int) (w : World) : Calls Tryz.prog 24 #[.agg #[.int .i64 u0, .int .i64 u1, .int .i64 u2, .int .i64 u3, .int .i64 un, .int .i64 ud, .int .i64 uo], .agg #[.int .i64 v0, .int .i64 v1, .int .i64 v2, .int .i64 v3, .int .i64 vn, .int .i64 vd, .int .i64 vo]] w fun e w' => e = .returned (.bool (compB ⟨u0, u1, u2, u3, un, ud, uo⟩ ⟨v0, v1, v2, v3, vn, vd, vo⟩)) ∧ Below w.heap.size w w' := by
  obtain ⟨Ba, hBa⟩ : ∃ V, V = validB ⟨u0, u1, u2, u3, un, ud, uo⟩ := ⟨_, rfl⟩
  obtain ⟨Bb, hBb⟩ : ∃ V, V = validB ⟨v0, v1, v2, v3, vn, vd, vo⟩ := ⟨_, rfl⟩
  have hva := fun w => rvalid_any u0 u1 u2 u3 un ud uo w
  have hvb := fun w => rvalid_any v0 v1 v2 v3 vn vd vo w
  have hz : compB ⟨u0, u1, u2, u3, un, ud, uo⟩ ⟨v0, v1, v2, v3, vn, vd, vo⟩ = (Ba && Bb && decide (u0 = v0 ∧ u1 = v1 ∧ u2 = v2 ∧ u3 = v3)) := by rw [hBa, hBb]; rfl
  rw [hz]
  rw [← hBa] at hva
  rw [← hBb] at hvb
  have HVa := Lib.hid hva
  have HVb := Lib.hid hvb
  clear hva hvb hBa hBb hz
  go_enter Tryz.func24, Tryz.ntmps24
  go_upto_region 1 with fail
  obtain ⟨W, g, h, hW, hg0, hh0, U1, V1, B1, sz⟩ := two_boxes w 29 u0 u1 u2 u3 un ud uo v0 v1 v2 v3 vn vd vo
  rw [← hW]
  try rw [← hh0]
  try rw [← hg0]
  have HU := Lib.hid U1
  have HV := Lib.hid V1
  have HB := Lib.hid B1
  clear hW hg0 hh0 sz U1 V1 B1
  obtain ⟨a0, a1, a2, a3, a4, a5, a6, az⟩ := HU.out
  go_wp2_with fail
  refine (HVa.out _).mono ?_
  rintro e w1 ⟨rfl, hb⟩
  clear a0 a1 a2 a3 a4 a5 a6 az
  have HU1 := Lib.hid (HU.out.keep hb)
  have HV1 := Lib.hid (HV.out.keep hb)
  have HB1 := Lib.hid (HB.out.trans (hb.mono HB.out.size))
  clear hb HU HV HB
  cases Ba
  · go_wp2_with fail
    go_ret
    exact ⟨rfl, HB1.out⟩
  · obtain ⟨vx0, vx1, vx2, vx3, vx4, vx5, vx6, vxz⟩ := HV1.out
    go_wp2_with fail
    refine (HVb.out _).mono ?_
    rintro e w2 ⟨rfl, hb⟩
    clear vx0 vx1 vx2 vx3 vx4 vx5 vx6 vxz
    have HU2 := Lib.hid (HU1.out.keep hb)
    have HV2 := Lib.hid (HV1.out.keep hb)
    have HB2 := Lib.hid (HB1.out.trans (hb.mono HB1.out.size))
    clear hb HU1 HV1 HB1
    cases Bb
    · go_wp2_with fail
      go_ret
      exact ⟨rfl, HB2.out⟩
    · by_cases hx : u0 = v0 ∧ u1 = v1 ∧ u2 = v2 ∧ u3 = v3
      · obtain ⟨rfl, rfl, rfl, rfl⟩ := hx
        have ef := fun w => (eq_four u0 u1 u2 u3 u0 u1 u2 u3 w).trans (show _ = Result.ok true w by simp)
        obtain ⟨ux0, ux1, ux2, ux3, ux4, ux5, ux6, uxz⟩ := HU2.out
        obtain ⟨vx0, vx1, vx2, vx3, vx4, vx5, vx6, vxz⟩ := HV2.out
        go_wp2_with fail
        go_ret
        exact ⟨by simp, HB2.out⟩
      · have ef := fun w => (eq_four u0 u1 u2 u3 v0 v1 v2 v3 w).trans (show _ = Result.ok false w by
          rw [show (u0 == v0 && u1 == v1 && u2 == v2 && u3 == v3) = false by
            rw [Bool.eq_false_iff]
            intro h
            simp only [Bool.and_eq_true, beq_iff_eq] at h
            exact hx ⟨h.1.1.1, h.1.1.2, h.1.2, h.2⟩])
        have HX := Lib.hid hx
        clear hx
        obtain ⟨ux0, ux1, ux2, ux3, ux4, ux5, ux6, uxz⟩ := HU2.out
        obtain ⟨vx0, vx1, vx2, vx3, vx4, vx5, vx6, vxz⟩ := HV2.out
        go_wp2_with fail
        go_ret
        exact ⟨by rw [decide_eq_false HX.out]; rfl, HB2.out⟩

def rdeltaU (x : UnitD) : UnitD × Int := if validB x = true then (⟨x.e0, x.e1, x.e2, x.e3, x.n, x.d, 0⟩, 0) else (zeroU, 1)
set_option maxHeartbeats 2000000 in
set_option maxRecDepth 100000 in
theorem rdelta_any (u0 u1 u2 u3 un ud uo : Int) (w : World) : Calls Tryz.prog 22 #[.agg #[.int .i64 u0, .int .i64 u1, .int .i64 u2, .int .i64 u3, .int .i64 un, .int .i64 ud, .int .i64 uo]] w fun e w' => e = .returned (pairU (rdeltaU ⟨u0, u1, u2, u3, un, ud, uo⟩)) ∧ Below w.heap.size w w' := by
  obtain ⟨Ba, hBa⟩ : ∃ V, V = validB ⟨u0, u1, u2, u3, un, ud, uo⟩ := ⟨_, rfl⟩
  have hva := fun w => rvalid_any u0 u1 u2 u3 un ud uo w
  rw [← hBa] at hva
  have HVa := Lib.hid hva
  have hz : rdeltaU ⟨u0, u1, u2, u3, un, ud, uo⟩ = if Ba = true then (⟨u0, u1, u2, u3, un, ud, 0⟩, 0) else (zeroU, 1) := by rw [hBa]; rfl
  rw [hz]
  clear hva hBa hz
  go_enter Tryz.func22, Tryz.ntmps22
  go_upto_region 1 with fail
  obtain ⟨W, g, R, hW, hg0, hR0, U1, R1, B1, sz⟩ := two_boxes w 29 u0 u1 u2 u3 un ud uo 0 0 0 0 0 0 0
  rw [← hW]
  try rw [← hR0]
  try rw [← hg0]
  have HU := Lib.hid U1
  have HR := Lib.hid R1
  have HB := Lib.hid B1
  have HN := Lib.hid (show w.heap.size ≤ R by omega)
  have HNg := Lib.hid (show w.heap.size ≤ g ∧ R ≠ g from ⟨by omega, by omega⟩)
  clear hW hg0 hR0 sz U1 R1 B1
  obtain ⟨a0, a1, a2, a3, a4, a5, a6, az⟩ := HU.out
  go_wp2_with fail
  refine (HVa.out _).mono ?_
  rintro e w1 ⟨rfl, hb⟩
  have HU1 := Lib.hid (HU.out.keep hb)
  have HR1 := Lib.hid (HR.out.keep hb)
  have HB1 := Lib.hid (HB.out.trans (hb.mono HB.out.size))
  clear hb
  clear a0 a1 a2 a3 a4 a5 a6 az
  obtain ⟨a0, a1, a2, a3, a4, a5, a6, az⟩ := HU1.out
  obtain ⟨r0, r1, r2, r3, r4, r5, r6, rz⟩ := HR1.out
  cases Ba
  · go_wp2_with fail
    have hs := (HR1.out).set 0 0 0 0 0 0 0
    have y0 : (((((((w1.setCell ⟨R, 0, none⟩ (.int .i64 0)).setCell ⟨R, 1, none⟩ (.int .i64 0)).setCell ⟨R, 2, none⟩ (.int .i64 0)).setCell ⟨R, 3, none⟩ (.int .i64 0)).setCell ⟨R, 4, none⟩ (.int .i64 0)).setCell ⟨R, 5, none⟩ (.int .i64 0)).setCell ⟨R, 6, none⟩ (.int .i64 0)).cell? ⟨R, 0, none⟩ = some (.int .i64 0) := hs.c0
    have y1 : (((((((w1.setCell ⟨R, 0, none⟩ (.int .i64 0)).setCell ⟨R, 1, none⟩ (.int .i64 0)).setCell ⟨R, 2, none⟩ (.int .i64 0)).setCell ⟨R, 3, none⟩ (.int .i64 0)).setCell ⟨R, 4, none⟩ (.int .i64 0)).setCell ⟨R, 5, none⟩ (.int .i64 0)).setCell ⟨R, 6, none⟩ (.int .i64 0)).cell? ⟨R, 1, none⟩ = some (.int .i64 0) := hs.c1
    have y2 : (((((((w1.setCell ⟨R, 0, none⟩ (.int .i64 0)).setCell ⟨R, 1, none⟩ (.int .i64 0)).setCell ⟨R, 2, none⟩ (.int .i64 0)).setCell ⟨R, 3, none⟩ (.int .i64 0)).setCell ⟨R, 4, none⟩ (.int .i64 0)).setCell ⟨R, 5, none⟩ (.int .i64 0)).setCell ⟨R, 6, none⟩ (.int .i64 0)).cell? ⟨R, 2, none⟩ = some (.int .i64 0) := hs.c2
    have y3 : (((((((w1.setCell ⟨R, 0, none⟩ (.int .i64 0)).setCell ⟨R, 1, none⟩ (.int .i64 0)).setCell ⟨R, 2, none⟩ (.int .i64 0)).setCell ⟨R, 3, none⟩ (.int .i64 0)).setCell ⟨R, 4, none⟩ (.int .i64 0)).setCell ⟨R, 5, none⟩ (.int .i64 0)).setCell ⟨R, 6, none⟩ (.int .i64 0)).cell? ⟨R, 3, none⟩ = some (.int .i64 0) := hs.c3
    have y4 : (((((((w1.setCell ⟨R, 0, none⟩ (.int .i64 0)).setCell ⟨R, 1, none⟩ (.int .i64 0)).setCell ⟨R, 2, none⟩ (.int .i64 0)).setCell ⟨R, 3, none⟩ (.int .i64 0)).setCell ⟨R, 4, none⟩ (.int .i64 0)).setCell ⟨R, 5, none⟩ (.int .i64 0)).setCell ⟨R, 6, none⟩ (.int .i64 0)).cell? ⟨R, 4, none⟩ = some (.int .i64 0) := hs.c4
    have y5 : (((((((w1.setCell ⟨R, 0, none⟩ (.int .i64 0)).setCell ⟨R, 1, none⟩ (.int .i64 0)).setCell ⟨R, 2, none⟩ (.int .i64 0)).setCell ⟨R, 3, none⟩ (.int .i64 0)).setCell ⟨R, 4, none⟩ (.int .i64 0)).setCell ⟨R, 5, none⟩ (.int .i64 0)).setCell ⟨R, 6, none⟩ (.int .i64 0)).cell? ⟨R, 5, none⟩ = some (.int .i64 0) := hs.c5
    have y6 : (((((((w1.setCell ⟨R, 0, none⟩ (.int .i64 0)).setCell ⟨R, 1, none⟩ (.int .i64 0)).setCell ⟨R, 2, none⟩ (.int .i64 0)).setCell ⟨R, 3, none⟩ (.int .i64 0)).setCell ⟨R, 4, none⟩ (.int .i64 0)).setCell ⟨R, 5, none⟩ (.int .i64 0)).setCell ⟨R, 6, none⟩ (.int .i64 0)).cell? ⟨R, 6, none⟩ = some (.int .i64 0) := hs.c6
    (try simp only [Exit.inBlock, Exit.then])
    refine bodyPost_ret (by simp [results, Tryz.results22, go_sem, y0, y1, y2, y3, y4, y5, y6]; try rfl) rfl ?_
    exact ⟨rfl, setU_below HB1.out HN.out 0 0 0 0 0 0 0⟩
  · have HU2 := Lib.hid (UnitAt.put_6 HU1.out 0)
    have HR2 := Lib.hid (UnitAt.other1 (k := 6) (x := .int .i64 0) HR1.out HNg.out.2.symm)
    have HB2 := Lib.hid (HB1.out.setCell (p := ⟨g, 6, none⟩) HNg.out.1 (.int .i64 0))
    clear a0 a1 a2 a3 a4 a5 a6 az r0 r1 r2 r3 r4 r5 r6 rz
    obtain ⟨a0, a1, a2, a3, a4, a5, a6, az⟩ := HU2.out
    obtain ⟨r0, r1, r2, r3, r4, r5, r6, rz⟩ := HR2.out
    obtain ⟨c0, c1, c2, c3, c4, c5, c6, cz⟩ := HU1.out
    go_wp2_with fail
    have hs := (HR2.out).set u0 u1 u2 u3 un ud 0
    have y0 : ((((((((w1.setCell ⟨g, 6, none⟩ (.int .i64 0)).setCell ⟨R, 0, none⟩ (.int .i64 u0)).setCell ⟨R, 1, none⟩ (.int .i64 u1)).setCell ⟨R, 2, none⟩ (.int .i64 u2)).setCell ⟨R, 3, none⟩ (.int .i64 u3)).setCell ⟨R, 4, none⟩ (.int .i64 un)).setCell ⟨R, 5, none⟩ (.int .i64 ud)).setCell ⟨R, 6, none⟩ (.int .i64 0)).cell? ⟨R, 0, none⟩ = some (.int .i64 u0) := hs.c0
    have y1 : ((((((((w1.setCell ⟨g, 6, none⟩ (.int .i64 0)).setCell ⟨R, 0, none⟩ (.int .i64 u0)).setCell ⟨R, 1, none⟩ (.int .i64 u1)).setCell ⟨R, 2, none⟩ (.int .i64 u2)).setCell ⟨R, 3, none⟩ (.int .i64 u3)).setCell ⟨R, 4, none⟩ (.int .i64 un)).setCell ⟨R, 5, none⟩ (.int .i64 ud)).setCell ⟨R, 6, none⟩ (.int .i64 0)).cell? ⟨R, 1, none⟩ = some (.int .i64 u1) := hs.c1
    have y2 : ((((((((w1.setCell ⟨g, 6, none⟩ (.int .i64 0)).setCell ⟨R, 0, none⟩ (.int .i64 u0)).setCell ⟨R, 1, none⟩ (.int .i64 u1)).setCell ⟨R, 2, none⟩ (.int .i64 u2)).setCell ⟨R, 3, none⟩ (.int .i64 u3)).setCell ⟨R, 4, none⟩ (.int .i64 un)).setCell ⟨R, 5, none⟩ (.int .i64 ud)).setCell ⟨R, 6, none⟩ (.int .i64 0)).cell? ⟨R, 2, none⟩ = some (.int .i64 u2) := hs.c2
    have y3 : ((((((((w1.setCell ⟨g, 6, none⟩ (.int .i64 0)).setCell ⟨R, 0, none⟩ (.int .i64 u0)).setCell ⟨R, 1, none⟩ (.int .i64 u1)).setCell ⟨R, 2, none⟩ (.int .i64 u2)).setCell ⟨R, 3, none⟩ (.int .i64 u3)).setCell ⟨R, 4, none⟩ (.int .i64 un)).setCell ⟨R, 5, none⟩ (.int .i64 ud)).setCell ⟨R, 6, none⟩ (.int .i64 0)).cell? ⟨R, 3, none⟩ = some (.int .i64 u3) := hs.c3
    have y4 : ((((((((w1.setCell ⟨g, 6, none⟩ (.int .i64 0)).setCell ⟨R, 0, none⟩ (.int .i64 u0)).setCell ⟨R, 1, none⟩ (.int .i64 u1)).setCell ⟨R, 2, none⟩ (.int .i64 u2)).setCell ⟨R, 3, none⟩ (.int .i64 u3)).setCell ⟨R, 4, none⟩ (.int .i64 un)).setCell ⟨R, 5, none⟩ (.int .i64 ud)).setCell ⟨R, 6, none⟩ (.int .i64 0)).cell? ⟨R, 4, none⟩ = some (.int .i64 un) := hs.c4
    have y5 : ((((((((w1.setCell ⟨g, 6, none⟩ (.int .i64 0)).setCell ⟨R, 0, none⟩ (.int .i64 u0)).setCell ⟨R, 1, none⟩ (.int .i64 u1)).setCell ⟨R, 2, none⟩ (.int .i64 u2)).setCell ⟨R, 3, none⟩ (.int .i64 u3)).setCell ⟨R, 4, none⟩ (.int .i64 un)).setCell ⟨R, 5, none⟩ (.int .i64 ud)).setCell ⟨R, 6, none⟩ (.int .i64 0)).cell? ⟨R, 5, none⟩ = some (.int .i64 ud) := hs.c5
    have y6 : ((((((((w1.setCell ⟨g, 6, none⟩ (.int .i64 0)).setCell ⟨R, 0, none⟩ (.int .i64 u0)).setCell ⟨R, 1, none⟩ (.int .i64 u1)).setCell ⟨R, 2, none⟩ (.int .i64 u2)).setCell ⟨R, 3, none⟩ (.int .i64 u3)).setCell ⟨R, 4, none⟩ (.int .i64 un)).setCell ⟨R, 5, none⟩ (.int .i64 ud)).setCell ⟨R, 6, none⟩ (.int .i64 0)).cell? ⟨R, 6, none⟩ = some (.int .i64 0) := hs.c6
    (try simp only [Exit.inBlock, Exit.then])
    refine bodyPost_ret (by simp [results, Tryz.results22, go_sem, y0, y1, y2, y3, y4, y5, y6]; try rfl) rfl ?_
    exact ⟨rfl, setU_below HB2.out HN.out u0 u1 u2 u3 un ud 0⟩

end Go.Proofs.YtjkdcbkfcmaadaaGreatDoor
