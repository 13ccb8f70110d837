/- The specification's Combine. -/
import Derived.Test.YtjkdcbkfcmaadaaGreatDoorRd
namespace Go.Proofs.YtjkdcbkfcmaadaaGreatDoor
open Go.RowKit Go.Shelf

theorem three_boxes (w : World) (t : TypeId) (u0 u1 u2 u3 un ud uo v0 v1 v2 v3 vn vd vo z0 z1 z2 z3 zn zd zo : Int) : ∃ (W : World) (g h f : Nat), W = ((w.alloc (Obj.cells #[.int .i64 u0, .int .i64 u1, .int .i64 u2, .int .i64 u3, .int .i64 un, .int .i64 ud, .int .i64 uo] t)).alloc (Obj.cells #[.int .i64 v0, .int .i64 v1, .int .i64 v2, .int .i64 v3, .int .i64 vn, .int .i64 vd, .int .i64 vo] t)).alloc (Obj.cells #[.int .i64 z0, .int .i64 z1, .int .i64 z2, .int .i64 z3, .int .i64 zn, .int .i64 zd, .int .i64 zo] t) ∧ g = w.heap.size ∧ h = w.heap.size + 1 ∧ f = w.heap.size + 2 ∧ UnitAt W g u0 u1 u2 u3 un ud uo ∧ UnitAt W h v0 v1 v2 v3 vn vd vo ∧ UnitAt W f z0 z1 z2 z3 zn zd zo ∧ Below w.heap.size w W ∧ W.heap.size = w.heap.size + 3 := by
  obtain ⟨W, g, h, hW, hg, hh, U, V, B, sz⟩ := two_boxes w t u0 u1 u2 u3 un ud uo v0 v1 v2 v3 vn vd vo
  have a := unit_freshT W t z0 z1 z2 z3 zn zd zo
  rw [sz] at a
  have b1 := (Below.refl W.heap.size W).alloc (Nat.le_refl _) (Obj.cells #[.int .i64 z0, .int .i64 z1, .int .i64 z2, .int .i64 z3, .int .i64 zn, .int .i64 zd, .int .i64 zo] t)
  exact ⟨_, g, h, _, by rw [← hW], hg, hh, rfl, U.keep b1, V.keep b1, a, B.alloc B.size _, by rw [World.size_alloc, sz]⟩
/-- what a product or a quotient answers -/
def CombX (u v Pr : UnitD) (X : UnitD × Int) : Prop :=
  ((validB u = false ∨ validB v = false) → X = (zeroU, 1)) ∧ (validB u = true → validB v = true → (u.o ≠ 0 ∨ v.o ≠ 0) → X = (zeroU, 11)) ∧
  (validB u = true → validB v = true → u.o = 0 → v.o = 0 → X = if validB Pr = true then (Pr, 0) else (zeroU, 6))
set_option maxRecDepth 100000 in
set_option maxHeartbeats 4000000 in
theorem rComb_core (u0 u1 u2 u3 un ud uo v0 v1 v2 v3 vn vd vo sg : Int) (Pr : UnitD) (X : UnitD × Int) (w : World) (HX : Hid (CombX ⟨u0, u1, u2, u3, un, ud, uo⟩ ⟨v0, v1, v2, v3, vn, vd, vo⟩ Pr X))
    (HC : Hid (validB ⟨u0, u1, u2, u3, un, ud, uo⟩ = true → validB ⟨v0, v1, v2, v3, vn, vd, vo⟩ = true → ∀ w, Calls Tryz.prog 33 #[.agg #[.int .i64 u0, .int .i64 u1, .int .i64 u2, .int .i64 u3, .int .i64 un, .int .i64 ud, .int .i64 uo], .agg #[.int .i64 v0, .int .i64 v1, .int .i64 v2, .int .i64 v3, .int .i64 vn, .int .i64 vd, .int .i64 vo], .int .i64 sg] w fun e w' => e = .returned (combV Pr) ∧ Below w.heap.size w w')) :
    Calls Tryz.prog 19 #[.agg #[.int .i64 u0, .int .i64 u1, .int .i64 u2, .int .i64 u3, .int .i64 un, .int .i64 ud, .int .i64 uo], .agg #[.int .i64 v0, .int .i64 v1, .int .i64 v2, .int .i64 v3, .int .i64 vn, .int .i64 vd, .int .i64 vo], .int .i64 sg] w fun e w' => e = .returned (pairU X) ∧ Below w.heap.size w w' := by
  obtain ⟨Ba, hBa⟩ : ∃ V, V = validB ⟨u0, u1, u2, u3, un, ud, uo⟩ := ⟨_, rfl⟩
  obtain ⟨Bb, hBb⟩ : ∃ V, V = validB ⟨v0, v1, v2, v3, vn, vd, vo⟩ := ⟨_, rfl⟩
  have hva := fun w => rvalid_any u0 u1 u2 u3 un ud uo w
  have hvb := fun w => rvalid_any v0 v1 v2 v3 vn vd vo w
  rw [← hBa] at hva
  rw [← hBb] at hvb
  have HVa := Lib.hid hva
  have HVb := Lib.hid hvb
  have HEa := Lib.hid hBa
  have HEb := Lib.hid hBb
  clear hva hvb hBa hBb
  go_enter Tryz.func19, Tryz.ntmps19
  go_upto_region 1 with fail
  obtain ⟨W, g, h, R, hW, hg0, hh0, hR0, U1, V1, R1, B1, sz⟩ := three_boxes w 29 u0 u1 u2 u3 un ud uo v0 v1 v2 v3 vn vd vo 0 0 0 0 0 0 0
  rw [← hW]
  try rw [← hR0]
  try rw [← hh0]
  try rw [← hg0]
  have HU := Lib.hid U1
  have HV := Lib.hid V1
  have HR := Lib.hid R1
  have HB := Lib.hid B1
  have HN := Lib.hid (show w.heap.size ≤ R by omega)
  clear hW hg0 hh0 hR0 sz U1 V1 R1 B1
  obtain ⟨a0, a1, a2, a3, a4, a5, a6, az⟩ := HU.out
  go_wp2_with fail
  refine (HVa.out _).mono ?_
  rintro e w1 ⟨rfl, hb⟩
  clear a0 a1 a2 a3 a4 a5 a6 az
  have HU1 := Lib.hid (HU.out.keep hb)
  have HV1 := Lib.hid (HV.out.keep hb)
  have HR1 := Lib.hid (HR.out.keep hb)
  have HB1 := Lib.hid (HB.out.trans (hb.mono HB.out.size))
  clear hb HU HV HR HB
  cases Ba
  · have HE := Lib.hid (show X = (zeroU, 1) from HX.out.1 (.inl HEa.out.symm))
    obtain ⟨r0, r1, r2, r3, r4, r5, r6, rz⟩ := HR1.out
    go_wp2_with fail
    have hs := (HR1.out).set 0 0 0 0 0 0 0
    have y0 : (((((((w1.setCell ⟨R, 0, none⟩ (.int .i64 0)).setCell ⟨R, 1, none⟩ (.int .i64 0)).setCell ⟨R, 2, none⟩ (.int .i64 0)).setCell ⟨R, 3, none⟩ (.int .i64 0)).setCell ⟨R, 4, none⟩ (.int .i64 0)).setCell ⟨R, 5, none⟩ (.int .i64 0)).setCell ⟨R, 6, none⟩ (.int .i64 0)).cell? ⟨R, 0, none⟩ = some (.int .i64 0) := hs.c0
    have y1 : (((((((w1.setCell ⟨R, 0, none⟩ (.int .i64 0)).setCell ⟨R, 1, none⟩ (.int .i64 0)).setCell ⟨R, 2, none⟩ (.int .i64 0)).setCell ⟨R, 3, none⟩ (.int .i64 0)).setCell ⟨R, 4, none⟩ (.int .i64 0)).setCell ⟨R, 5, none⟩ (.int .i64 0)).setCell ⟨R, 6, none⟩ (.int .i64 0)).cell? ⟨R, 1, none⟩ = some (.int .i64 0) := hs.c1
    have y2 : (((((((w1.setCell ⟨R, 0, none⟩ (.int .i64 0)).setCell ⟨R, 1, none⟩ (.int .i64 0)).setCell ⟨R, 2, none⟩ (.int .i64 0)).setCell ⟨R, 3, none⟩ (.int .i64 0)).setCell ⟨R, 4, none⟩ (.int .i64 0)).setCell ⟨R, 5, none⟩ (.int .i64 0)).setCell ⟨R, 6, none⟩ (.int .i64 0)).cell? ⟨R, 2, none⟩ = some (.int .i64 0) := hs.c2
    have y3 : (((((((w1.setCell ⟨R, 0, none⟩ (.int .i64 0)).setCell ⟨R, 1, none⟩ (.int .i64 0)).setCell ⟨R, 2, none⟩ (.int .i64 0)).setCell ⟨R, 3, none⟩ (.int .i64 0)).setCell ⟨R, 4, none⟩ (.int .i64 0)).setCell ⟨R, 5, none⟩ (.int .i64 0)).setCell ⟨R, 6, none⟩ (.int .i64 0)).cell? ⟨R, 3, none⟩ = some (.int .i64 0) := hs.c3
    have y4 : (((((((w1.setCell ⟨R, 0, none⟩ (.int .i64 0)).setCell ⟨R, 1, none⟩ (.int .i64 0)).setCell ⟨R, 2, none⟩ (.int .i64 0)).setCell ⟨R, 3, none⟩ (.int .i64 0)).setCell ⟨R, 4, none⟩ (.int .i64 0)).setCell ⟨R, 5, none⟩ (.int .i64 0)).setCell ⟨R, 6, none⟩ (.int .i64 0)).cell? ⟨R, 4, none⟩ = some (.int .i64 0) := hs.c4
    have y5 : (((((((w1.setCell ⟨R, 0, none⟩ (.int .i64 0)).setCell ⟨R, 1, none⟩ (.int .i64 0)).setCell ⟨R, 2, none⟩ (.int .i64 0)).setCell ⟨R, 3, none⟩ (.int .i64 0)).setCell ⟨R, 4, none⟩ (.int .i64 0)).setCell ⟨R, 5, none⟩ (.int .i64 0)).setCell ⟨R, 6, none⟩ (.int .i64 0)).cell? ⟨R, 5, none⟩ = some (.int .i64 0) := hs.c5
    have y6 : (((((((w1.setCell ⟨R, 0, none⟩ (.int .i64 0)).setCell ⟨R, 1, none⟩ (.int .i64 0)).setCell ⟨R, 2, none⟩ (.int .i64 0)).setCell ⟨R, 3, none⟩ (.int .i64 0)).setCell ⟨R, 4, none⟩ (.int .i64 0)).setCell ⟨R, 5, none⟩ (.int .i64 0)).setCell ⟨R, 6, none⟩ (.int .i64 0)).cell? ⟨R, 6, none⟩ = some (.int .i64 0) := hs.c6
    (try simp only [Exit.inBlock, Exit.then])
    refine bodyPost_ret (by simp [results, Tryz.results19, go_sem, y0, y1, y2, y3, y4, y5, y6]; try rfl) rfl ?_
    first | exact ⟨by rw [HE.out]; rfl, setU_below HB1.out HN.out 0 0 0 0 0 0 0⟩ | exact ⟨by rw [HE.out]; rfl, (setU_below HB1.out HN.out 0 0 0 0 0 0 0).drew⟩
  · obtain ⟨b0, b1, b2, b3, b4, b5, b6, bz⟩ := HV1.out
    go_wp2_with fail
    refine (HVb.out _).mono ?_
    rintro e w2 ⟨rfl, hb⟩
    clear b0 b1 b2 b3 b4 b5 b6 bz
    have HU2 := Lib.hid (HU1.out.keep hb)
    have HV2 := Lib.hid (HV1.out.keep hb)
    have HR2 := Lib.hid (HR1.out.keep hb)
    have HB2 := Lib.hid (HB1.out.trans (hb.mono HB1.out.size))
    clear hb HU1 HV1 HR1 HB1
    cases Bb
    · have HE := Lib.hid (show X = (zeroU, 1) from HX.out.1 (.inr HEb.out.symm))
      obtain ⟨r0, r1, r2, r3, r4, r5, r6, rz⟩ := HR2.out
      go_wp2_with fail
      have hs := (HR2.out).set 0 0 0 0 0 0 0
      have y0 : (((((((w2.setCell ⟨R, 0, none⟩ (.int .i64 0)).setCell ⟨R, 1, none⟩ (.int .i64 0)).setCell ⟨R, 2, none⟩ (.int .i64 0)).setCell ⟨R, 3, none⟩ (.int .i64 0)).setCell ⟨R, 4, none⟩ (.int .i64 0)).setCell ⟨R, 5, none⟩ (.int .i64 0)).setCell ⟨R, 6, none⟩ (.int .i64 0)).cell? ⟨R, 0, none⟩ = some (.int .i64 0) := hs.c0
      have y1 : (((((((w2.setCell ⟨R, 0, none⟩ (.int .i64 0)).setCell ⟨R, 1, none⟩ (.int .i64 0)).setCell ⟨R, 2, none⟩ (.int .i64 0)).setCell ⟨R, 3, none⟩ (.int .i64 0)).setCell ⟨R, 4, none⟩ (.int .i64 0)).setCell ⟨R, 5, none⟩ (.int .i64 0)).setCell ⟨R, 6, none⟩ (.int .i64 0)).cell? ⟨R, 1, none⟩ = some (.int .i64 0) := hs.c1
      have y2 : (((((((w2.setCell ⟨R, 0, none⟩ (.int .i64 0)).setCell ⟨R, 1, none⟩ (.int .i64 0)).setCell ⟨R, 2, none⟩ (.int .i64 0)).setCell ⟨R, 3, none⟩ (.int .i64 0)).setCell ⟨R, 4, none⟩ (.int .i64 0)).setCell ⟨R, 5, none⟩ (.int .i64 0)).setCell ⟨R, 6, none⟩ (.int .i64 0)).cell? ⟨R, 2, none⟩ = some (.int .i64 0) := hs.c2
      have y3 : (((((((w2.setCell ⟨R, 0, none⟩ (.int .i64 0)).setCell ⟨R, 1, none⟩ (.int .i64 0)).setCell ⟨R, 2, none⟩ (.int .i64 0)).setCell ⟨R, 3, none⟩ (.int .i64 0)).setCell ⟨R, 4, none⟩ (.int .i64 0)).setCell ⟨R, 5, none⟩ (.int .i64 0)).setCell ⟨R, 6, none⟩ (.int .i64 0)).cell? ⟨R, 3, none⟩ = some (.int .i64 0) := hs.c3
      have y4 : (((((((w2.setCell ⟨R, 0, none⟩ (.int .i64 0)).setCell ⟨R, 1, none⟩ (.int .i64 0)).setCell ⟨R, 2, none⟩ (.int .i64 0)).setCell ⟨R, 3, none⟩ (.int .i64 0)).setCell ⟨R, 4, none⟩ (.int .i64 0)).setCell ⟨R, 5, none⟩ (.int .i64 0)).setCell ⟨R, 6, none⟩ (.int .i64 0)).cell? ⟨R, 4, none⟩ = some (.int .i64 0) := hs.c4
      have y5 : (((((((w2.setCell ⟨R, 0, none⟩ (.int .i64 0)).setCell ⟨R, 1, none⟩ (.int .i64 0)).setCell ⟨R, 2, none⟩ (.int .i64 0)).setCell ⟨R, 3, none⟩ (.int .i64 0)).setCell ⟨R, 4, none⟩ (.int .i64 0)).setCell ⟨R, 5, none⟩ (.int .i64 0)).setCell ⟨R, 6, none⟩ (.int .i64 0)).cell? ⟨R, 5, none⟩ = some (.int .i64 0) := hs.c5
      have y6 : (((((((w2.setCell ⟨R, 0, none⟩ (.int .i64 0)).setCell ⟨R, 1, none⟩ (.int .i64 0)).setCell ⟨R, 2, none⟩ (.int .i64 0)).setCell ⟨R, 3, none⟩ (.int .i64 0)).setCell ⟨R, 4, none⟩ (.int .i64 0)).setCell ⟨R, 5, none⟩ (.int .i64 0)).setCell ⟨R, 6, none⟩ (.int .i64 0)).cell? ⟨R, 6, none⟩ = some (.int .i64 0) := hs.c6
      (try simp only [Exit.inBlock, Exit.then])
      refine bodyPost_ret (by simp [results, Tryz.results19, go_sem, y0, y1, y2, y3, y4, y5, y6]; try rfl) rfl ?_
      first | exact ⟨by rw [HE.out]; rfl, setU_below HB2.out HN.out 0 0 0 0 0 0 0⟩ | exact ⟨by rw [HE.out]; rfl, (setU_below HB2.out HN.out 0 0 0 0 0 0 0).drew⟩
    · by_cases hu : uo = 0
      · subst hu
        by_cases hv : vo = 0
        · subst hv
          have hc := HC.out HEa.out.symm HEb.out.symm
          obtain ⟨P, hP⟩ : ∃ P, P = Pr := ⟨_, rfl⟩
          have hx := HX.out.2.2 HEa.out.symm HEb.out.symm rfl rfl
          cases hvp : validB Pr
          · have HE := Lib.hid (show X = (zeroU, 6) by rw [hx, hvp]; rfl)
            have HC2 := Lib.hid (show ∀ w, Calls Tryz.prog 33 #[.agg #[.int .i64 u0, .int .i64 u1, .int .i64 u2, .int .i64 u3, .int .i64 un, .int .i64 ud, .int .i64 0], .agg #[.int .i64 v0, .int .i64 v1, .int .i64 v2, .int .i64 v3, .int .i64 vn, .int .i64 vd, .int .i64 0], .int .i64 sg] w fun e w' => e = .returned (.tuple #[.agg #[.int .i64 0, .int .i64 0, .int .i64 0, .int .i64 0, .int .i64 0, .int .i64 0, .int .i64 0], .bool false]) ∧ Below w.heap.size w w' from fun w => (hc w).mono fun e w' h => ⟨h.1.trans (comb_no hvp), h.2⟩)
            clear hc hx hvp hP P
            obtain ⟨a0, a1, a2, a3, a4, a5, a6, az⟩ := HU2.out
            obtain ⟨b0, b1, b2, b3, b4, b5, b6, bz⟩ := HV2.out
            obtain ⟨r0, r1, r2, r3, r4, r5, r6, rz⟩ := HR2.out
            go_wp2_with fail
            refine (HC2.out _).mono ?_
            rintro e w3 ⟨rfl, hb⟩
            clear a0 a1 a2 a3 a4 a5 a6 az b0 b1 b2 b3 b4 b5 b6 bz r0 r1 r2 r3 r4 r5 r6 rz
            have hk := hb.alloc hb.size (Obj.cells #[.int .i64 0, .int .i64 0, .int .i64 0, .int .i64 0, .int .i64 0, .int .i64 0, .int .i64 0] 29)
            have HR3 := Lib.hid (HR2.out.keep hk)
            have HB3 := Lib.hid (HB2.out.trans (hk.mono HB2.out.size))
            clear hb hk
            obtain ⟨r0, r1, r2, r3, r4, r5, r6, rz⟩ := HR3.out
            go_wp2_with fail
            have hs := (HR3.out).set 0 0 0 0 0 0 0
            have y0 : ((((((((w3.alloc (Obj.cells #[.int .i64 0, .int .i64 0, .int .i64 0, .int .i64 0, .int .i64 0, .int .i64 0, .int .i64 0] 29)).setCell ⟨R, 0, none⟩ (.int .i64 0)).setCell ⟨R, 1, none⟩ (.int .i64 0)).setCell ⟨R, 2, none⟩ (.int .i64 0)).setCell ⟨R, 3, none⟩ (.int .i64 0)).setCell ⟨R, 4, none⟩ (.int .i64 0)).setCell ⟨R, 5, none⟩ (.int .i64 0)).setCell ⟨R, 6, none⟩ (.int .i64 0)).cell? ⟨R, 0, none⟩ = some (.int .i64 0) := hs.c0
            have y1 : ((((((((w3.alloc (Obj.cells #[.int .i64 0, .int .i64 0, .int .i64 0, .int .i64 0, .int .i64 0, .int .i64 0, .int .i64 0] 29)).setCell ⟨R, 0, none⟩ (.int .i64 0)).setCell ⟨R, 1, none⟩ (.int .i64 0)).setCell ⟨R, 2, none⟩ (.int .i64 0)).setCell ⟨R, 3, none⟩ (.int .i64 0)).setCell ⟨R, 4, none⟩ (.int .i64 0)).setCell ⟨R, 5, none⟩ (.int .i64 0)).setCell ⟨R, 6, none⟩ (.int .i64 0)).cell? ⟨R, 1, none⟩ = some (.int .i64 0) := hs.c1
            have y2 : ((((((((w3.alloc (Obj.cells #[.int .i64 0, .int .i64 0, .int .i64 0, .int .i64 0, .int .i64 0, .int .i64 0, .int .i64 0] 29)).setCell ⟨R, 0, none⟩ (.int .i64 0)).setCell ⟨R, 1, none⟩ (.int .i64 0)).setCell ⟨R, 2, none⟩ (.int .i64 0)).setCell ⟨R, 3, none⟩ (.int .i64 0)).setCell ⟨R, 4, none⟩ (.int .i64 0)).setCell ⟨R, 5, none⟩ (.int .i64 0)).setCell ⟨R, 6, none⟩ (.int .i64 0)).cell? ⟨R, 2, none⟩ = some (.int .i64 0) := hs.c2
            have y3 : ((((((((w3.alloc (Obj.cells #[.int .i64 0, .int .i64 0, .int .i64 0, .int .i64 0, .int .i64 0, .int .i64 0, .int .i64 0] 29)).setCell ⟨R, 0, none⟩ (.int .i64 0)).setCell ⟨R, 1, none⟩ (.int .i64 0)).setCell ⟨R, 2, none⟩ (.int .i64 0)).setCell ⟨R, 3, none⟩ (.int .i64 0)).setCell ⟨R, 4, none⟩ (.int .i64 0)).setCell ⟨R, 5, none⟩ (.int .i64 0)).setCell ⟨R, 6, none⟩ (.int .i64 0)).cell? ⟨R, 3, none⟩ = some (.int .i64 0) := hs.c3
            have y4 : ((((((((w3.alloc (Obj.cells #[.int .i64 0, .int .i64 0, .int .i64 0, .int .i64 0, .int .i64 0, .int .i64 0, .int .i64 0] 29)).setCell ⟨R, 0, none⟩ (.int .i64 0)).setCell ⟨R, 1, none⟩ (.int .i64 0)).setCell ⟨R, 2, none⟩ (.int .i64 0)).setCell ⟨R, 3, none⟩ (.int .i64 0)).setCell ⟨R, 4, none⟩ (.int .i64 0)).setCell ⟨R, 5, none⟩ (.int .i64 0)).setCell ⟨R, 6, none⟩ (.int .i64 0)).cell? ⟨R, 4, none⟩ = some (.int .i64 0) := hs.c4
            have y5 : ((((((((w3.alloc (Obj.cells #[.int .i64 0, .int .i64 0, .int .i64 0, .int .i64 0, .int .i64 0, .int .i64 0, .int .i64 0] 29)).setCell ⟨R, 0, none⟩ (.int .i64 0)).setCell ⟨R, 1, none⟩ (.int .i64 0)).setCell ⟨R, 2, none⟩ (.int .i64 0)).setCell ⟨R, 3, none⟩ (.int .i64 0)).setCell ⟨R, 4, none⟩ (.int .i64 0)).setCell ⟨R, 5, none⟩ (.int .i64 0)).setCell ⟨R, 6, none⟩ (.int .i64 0)).cell? ⟨R, 5, none⟩ = some (.int .i64 0) := hs.c5
            have y6 : ((((((((w3.alloc (Obj.cells #[.int .i64 0, .int .i64 0, .int .i64 0, .int .i64 0, .int .i64 0, .int .i64 0, .int .i64 0] 29)).setCell ⟨R, 0, none⟩ (.int .i64 0)).setCell ⟨R, 1, none⟩ (.int .i64 0)).setCell ⟨R, 2, none⟩ (.int .i64 0)).setCell ⟨R, 3, none⟩ (.int .i64 0)).setCell ⟨R, 4, none⟩ (.int .i64 0)).setCell ⟨R, 5, none⟩ (.int .i64 0)).setCell ⟨R, 6, none⟩ (.int .i64 0)).cell? ⟨R, 6, none⟩ = some (.int .i64 0) := hs.c6
            (try simp only [Exit.inBlock, Exit.then])
            refine bodyPost_ret (by simp [results, Tryz.results19, go_sem, y0, y1, y2, y3, y4, y5, y6]; try rfl) rfl ?_
            first | exact ⟨by rw [HE.out]; rfl, setU_below HB3.out HN.out 0 0 0 0 0 0 0⟩ | exact ⟨by rw [HE.out]; rfl, (setU_below HB3.out HN.out 0 0 0 0 0 0 0).drew⟩
          · obtain ⟨p0, p1, p2, p3, pn, pd, po⟩ := Pr
            have HE := Lib.hid (show X = (⟨p0, p1, p2, p3, pn, pd, po⟩, 0) by rw [hx, hvp]; rfl)
            have HC2 := Lib.hid (show ∀ w, Calls Tryz.prog 33 #[.agg #[.int .i64 u0, .int .i64 u1, .int .i64 u2, .int .i64 u3, .int .i64 un, .int .i64 ud, .int .i64 0], .agg #[.int .i64 v0, .int .i64 v1, .int .i64 v2, .int .i64 v3, .int .i64 vn, .int .i64 vd, .int .i64 0], .int .i64 sg] w fun e w' => e = .returned (.tuple #[.agg #[.int .i64 p0, .int .i64 p1, .int .i64 p2, .int .i64 p3, .int .i64 pn, .int .i64 pd, .int .i64 po], .bool true]) ∧ Below w.heap.size w w' from fun w => (hc w).mono fun e w' h => ⟨h.1.trans (comb_yes hvp), h.2⟩)
            clear hc hx hvp hP P
            obtain ⟨a0, a1, a2, a3, a4, a5, a6, az⟩ := HU2.out
            obtain ⟨b0, b1, b2, b3, b4, b5, b6, bz⟩ := HV2.out
            obtain ⟨r0, r1, r2, r3, r4, r5, r6, rz⟩ := HR2.out
            go_wp2_with fail
            refine (HC2.out _).mono ?_
            rintro e w3 ⟨rfl, hb⟩
            clear a0 a1 a2 a3 a4 a5 a6 az b0 b1 b2 b3 b4 b5 b6 bz r0 r1 r2 r3 r4 r5 r6 rz
            have hk := hb.alloc hb.size (Obj.cells #[.int .i64 p0, .int .i64 p1, .int .i64 p2, .int .i64 p3, .int .i64 pn, .int .i64 pd, .int .i64 po] 29)
            have HR3 := Lib.hid (HR2.out.keep hk)
            have HB3 := Lib.hid (HB2.out.trans (hk.mono HB2.out.size))
            clear hb hk
            obtain ⟨r0, r1, r2, r3, r4, r5, r6, rz⟩ := HR3.out
            go_wp2_with fail
            have hs := (HR3.out).set p0 p1 p2 p3 pn pd po
            have y0 : ((((((((w3.alloc (Obj.cells #[.int .i64 p0, .int .i64 p1, .int .i64 p2, .int .i64 p3, .int .i64 pn, .int .i64 pd, .int .i64 po] 29)).setCell ⟨R, 0, none⟩ (.int .i64 p0)).setCell ⟨R, 1, none⟩ (.int .i64 p1)).setCell ⟨R, 2, none⟩ (.int .i64 p2)).setCell ⟨R, 3, none⟩ (.int .i64 p3)).setCell ⟨R, 4, none⟩ (.int .i64 pn)).setCell ⟨R, 5, none⟩ (.int .i64 pd)).setCell ⟨R, 6, none⟩ (.int .i64 po)).cell? ⟨R, 0, none⟩ = some (.int .i64 p0) := hs.c0
            have y1 : ((((((((w3.alloc (Obj.cells #[.int .i64 p0, .int .i64 p1, .int .i64 p2, .int .i64 p3, .int .i64 pn, .int .i64 pd, .int .i64 po] 29)).setCell ⟨R, 0, none⟩ (.int .i64 p0)).setCell ⟨R, 1, none⟩ (.int .i64 p1)).setCell ⟨R, 2, none⟩ (.int .i64 p2)).setCell ⟨R, 3, none⟩ (.int .i64 p3)).setCell ⟨R, 4, none⟩ (.int .i64 pn)).setCell ⟨R, 5, none⟩ (.int .i64 pd)).setCell ⟨R, 6, none⟩ (.int .i64 po)).cell? ⟨R, 1, none⟩ = some (.int .i64 p1) := hs.c1
            have y2 : ((((((((w3.alloc (Obj.cells #[.int .i64 p0, .int .i64 p1, .int .i64 p2, .int .i64 p3, .int .i64 pn, .int .i64 pd, .int .i64 po] 29)).setCell ⟨R, 0, none⟩ (.int .i64 p0)).setCell ⟨R, 1, none⟩ (.int .i64 p1)).setCell ⟨R, 2, none⟩ (.int .i64 p2)).setCell ⟨R, 3, none⟩ (.int .i64 p3)).setCell ⟨R, 4, none⟩ (.int .i64 pn)).setCell ⟨R, 5, none⟩ (.int .i64 pd)).setCell ⟨R, 6, none⟩ (.int .i64 po)).cell? ⟨R, 2, none⟩ = some (.int .i64 p2) := hs.c2
            have y3 : ((((((((w3.alloc (Obj.cells #[.int .i64 p0, .int .i64 p1, .int .i64 p2, .int .i64 p3, .int .i64 pn, .int .i64 pd, .int .i64 po] 29)).setCell ⟨R, 0, none⟩ (.int .i64 p0)).setCell ⟨R, 1, none⟩ (.int .i64 p1)).setCell ⟨R, 2, none⟩ (.int .i64 p2)).setCell ⟨R, 3, none⟩ (.int .i64 p3)).setCell ⟨R, 4, none⟩ (.int .i64 pn)).setCell ⟨R, 5, none⟩ (.int .i64 pd)).setCell ⟨R, 6, none⟩ (.int .i64 po)).cell? ⟨R, 3, none⟩ = some (.int .i64 p3) := hs.c3
            have y4 : ((((((((w3.alloc (Obj.cells #[.int .i64 p0, .int .i64 p1, .int .i64 p2, .int .i64 p3, .int .i64 pn, .int .i64 pd, .int .i64 po] 29)).setCell ⟨R, 0, none⟩ (.int .i64 p0)).setCell ⟨R, 1, none⟩ (.int .i64 p1)).setCell ⟨R, 2, none⟩ (.int .i64 p2)).setCell ⟨R, 3, none⟩ (.int .i64 p3)).setCell ⟨R, 4, none⟩ (.int .i64 pn)).setCell ⟨R, 5, none⟩ (.int .i64 pd)).setCell ⟨R, 6, none⟩ (.int .i64 po)).cell? ⟨R, 4, none⟩ = some (.int .i64 pn) := hs.c4
            have y5 : ((((((((w3.alloc (Obj.cells #[.int .i64 p0, .int .i64 p1, .int .i64 p2, .int .i64 p3, .int .i64 pn, .int .i64 pd, .int .i64 po] 29)).setCell ⟨R, 0, none⟩ (.int .i64 p0)).setCell ⟨R, 1, none⟩ (.int .i64 p1)).setCell ⟨R, 2, none⟩ (.int .i64 p2)).setCell ⟨R, 3, none⟩ (.int .i64 p3)).setCell ⟨R, 4, none⟩ (.int .i64 pn)).setCell ⟨R, 5, none⟩ (.int .i64 pd)).setCell ⟨R, 6, none⟩ (.int .i64 po)).cell? ⟨R, 5, none⟩ = some (.int .i64 pd) := hs.c5
            have y6 : ((((((((w3.alloc (Obj.cells #[.int .i64 p0, .int .i64 p1, .int .i64 p2, .int .i64 p3, .int .i64 pn, .int .i64 pd, .int .i64 po] 29)).setCell ⟨R, 0, none⟩ (.int .i64 p0)).setCell ⟨R, 1, none⟩ (.int .i64 p1)).setCell ⟨R, 2, none⟩ (.int .i64 p2)).setCell ⟨R, 3, none⟩ (.int .i64 p3)).setCell ⟨R, 4, none⟩ (.int .i64 pn)).setCell ⟨R, 5, none⟩ (.int .i64 pd)).setCell ⟨R, 6, none⟩ (.int .i64 po)).cell? ⟨R, 6, none⟩ = some (.int .i64 po) := hs.c6
            (try simp only [Exit.inBlock, Exit.then])
            refine bodyPost_ret (by simp [results, Tryz.results19, go_sem, y0, y1, y2, y3, y4, y5, y6]; try rfl) rfl ?_
            first | exact ⟨by rw [HE.out], setU_below HB3.out HN.out p0 p1 p2 p3 pn pd po⟩ | exact ⟨by rw [HE.out], (setU_below HB3.out HN.out p0 p1 p2 p3 pn pd po).drew⟩
        · have HE := Lib.hid (show X = (zeroU, 11) from HX.out.2.1 HEa.out.symm HEb.out.symm (.inr hv))
          have tv : (vo != 0) = true := by simpa using hv
          clear hv
          obtain ⟨a0, a1, a2, a3, a4, a5, a6, az⟩ := HU2.out
          obtain ⟨b0, b1, b2, b3, b4, b5, b6, bz⟩ := HV2.out
          obtain ⟨r0, r1, r2, r3, r4, r5, r6, rz⟩ := HR2.out
          go_wp2_with fail
          have hs := (HR2.out).set 0 0 0 0 0 0 0
          have y0 : (((((((w2.setCell ⟨R, 0, none⟩ (.int .i64 0)).setCell ⟨R, 1, none⟩ (.int .i64 0)).setCell ⟨R, 2, none⟩ (.int .i64 0)).setCell ⟨R, 3, none⟩ (.int .i64 0)).setCell ⟨R, 4, none⟩ (.int .i64 0)).setCell ⟨R, 5, none⟩ (.int .i64 0)).setCell ⟨R, 6, none⟩ (.int .i64 0)).cell? ⟨R, 0, none⟩ = some (.int .i64 0) := hs.c0
          have y1 : (((((((w2.setCell ⟨R, 0, none⟩ (.int .i64 0)).setCell ⟨R, 1, none⟩ (.int .i64 0)).setCell ⟨R, 2, none⟩ (.int .i64 0)).setCell ⟨R, 3, none⟩ (.int .i64 0)).setCell ⟨R, 4, none⟩ (.int .i64 0)).setCell ⟨R, 5, none⟩ (.int .i64 0)).setCell ⟨R, 6, none⟩ (.int .i64 0)).cell? ⟨R, 1, none⟩ = some (.int .i64 0) := hs.c1
          have y2 : (((((((w2.setCell ⟨R, 0, none⟩ (.int .i64 0)).setCell ⟨R, 1, none⟩ (.int .i64 0)).setCell ⟨R, 2, none⟩ (.int .i64 0)).setCell ⟨R, 3, none⟩ (.int .i64 0)).setCell ⟨R, 4, none⟩ (.int .i64 0)).setCell ⟨R, 5, none⟩ (.int .i64 0)).setCell ⟨R, 6, none⟩ (.int .i64 0)).cell? ⟨R, 2, none⟩ = some (.int .i64 0) := hs.c2
          have y3 : (((((((w2.setCell ⟨R, 0, none⟩ (.int .i64 0)).setCell ⟨R, 1, none⟩ (.int .i64 0)).setCell ⟨R, 2, none⟩ (.int .i64 0)).setCell ⟨R, 3, none⟩ (.int .i64 0)).setCell ⟨R, 4, none⟩ (.int .i64 0)).setCell ⟨R, 5, none⟩ (.int .i64 0)).setCell ⟨R, 6, none⟩ (.int .i64 0)).cell? ⟨R, 3, none⟩ = some (.int .i64 0) := hs.c3
          have y4 : (((((((w2.setCell ⟨R, 0, none⟩ (.int .i64 0)).setCell ⟨R, 1, none⟩ (.int .i64 0)).setCell ⟨R, 2, none⟩ (.int .i64 0)).setCell ⟨R, 3, none⟩ (.int .i64 0)).setCell ⟨R, 4, none⟩ (.int .i64 0)).setCell ⟨R, 5, none⟩ (.int .i64 0)).setCell ⟨R, 6, none⟩ (.int .i64 0)).cell? ⟨R, 4, none⟩ = some (.int .i64 0) := hs.c4
          have y5 : (((((((w2.setCell ⟨R, 0, none⟩ (.int .i64 0)).setCell ⟨R, 1, none⟩ (.int .i64 0)).setCell ⟨R, 2, none⟩ (.int .i64 0)).setCell ⟨R, 3, none⟩ (.int .i64 0)).setCell ⟨R, 4, none⟩ (.int .i64 0)).setCell ⟨R, 5, none⟩ (.int .i64 0)).setCell ⟨R, 6, none⟩ (.int .i64 0)).cell? ⟨R, 5, none⟩ = some (.int .i64 0) := hs.c5
          have y6 : (((((((w2.setCell ⟨R, 0, none⟩ (.int .i64 0)).setCell ⟨R, 1, none⟩ (.int .i64 0)).setCell ⟨R, 2, none⟩ (.int .i64 0)).setCell ⟨R, 3, none⟩ (.int .i64 0)).setCell ⟨R, 4, none⟩ (.int .i64 0)).setCell ⟨R, 5, none⟩ (.int .i64 0)).setCell ⟨R, 6, none⟩ (.int .i64 0)).cell? ⟨R, 6, none⟩ = some (.int .i64 0) := hs.c6
          (try simp only [Exit.inBlock, Exit.then])
          refine bodyPost_ret (by simp [results, Tryz.results19, go_sem, y0, y1, y2, y3, y4, y5, y6]; try rfl) rfl ?_
          first | exact ⟨by rw [HE.out]; rfl, setU_below HB2.out HN.out 0 0 0 0 0 0 0⟩ | exact ⟨by rw [HE.out]; rfl, (setU_below HB2.out HN.out 0 0 0 0 0 0 0).drew⟩
      · have HE := Lib.hid (show X = (zeroU, 11) from HX.out.2.1 HEa.out.symm HEb.out.symm (.inl hu))
        have tu : (uo != 0) = true := by simpa using hu
        clear hu
        obtain ⟨a0, a1, a2, a3, a4, a5, a6, az⟩ := HU2.out
        obtain ⟨b0, b1, b2, b3, b4, b5, b6, bz⟩ := HV2.out
        obtain ⟨r0, r1, r2, r3, r4, r5, r6, rz⟩ := HR2.out
        go_wp2_with fail
        have hs := (HR2.out).set 0 0 0 0 0 0 0
        have y0 : (((((((w2.setCell ⟨R, 0, none⟩ (.int .i64 0)).setCell ⟨R, 1, none⟩ (.int .i64 0)).setCell ⟨R, 2, none⟩ (.int .i64 0)).setCell ⟨R, 3, none⟩ (.int .i64 0)).setCell ⟨R, 4, none⟩ (.int .i64 0)).setCell ⟨R, 5, none⟩ (.int .i64 0)).setCell ⟨R, 6, none⟩ (.int .i64 0)).cell? ⟨R, 0, none⟩ = some (.int .i64 0) := hs.c0
        have y1 : (((((((w2.setCell ⟨R, 0, none⟩ (.int .i64 0)).setCell ⟨R, 1, none⟩ (.int .i64 0)).setCell ⟨R, 2, none⟩ (.int .i64 0)).setCell ⟨R, 3, none⟩ (.int .i64 0)).setCell ⟨R, 4, none⟩ (.int .i64 0)).setCell ⟨R, 5, none⟩ (.int .i64 0)).setCell ⟨R, 6, none⟩ (.int .i64 0)).cell? ⟨R, 1, none⟩ = some (.int .i64 0) := hs.c1
        have y2 : (((((((w2.setCell ⟨R, 0, none⟩ (.int .i64 0)).setCell ⟨R, 1, none⟩ (.int .i64 0)).setCell ⟨R, 2, none⟩ (.int .i64 0)).setCell ⟨R, 3, none⟩ (.int .i64 0)).setCell ⟨R, 4, none⟩ (.int .i64 0)).setCell ⟨R, 5, none⟩ (.int .i64 0)).setCell ⟨R, 6, none⟩ (.int .i64 0)).cell? ⟨R, 2, none⟩ = some (.int .i64 0) := hs.c2
        have y3 : (((((((w2.setCell ⟨R, 0, none⟩ (.int .i64 0)).setCell ⟨R, 1, none⟩ (.int .i64 0)).setCell ⟨R, 2, none⟩ (.int .i64 0)).setCell ⟨R, 3, none⟩ (.int .i64 0)).setCell ⟨R, 4, none⟩ (.int .i64 0)).setCell ⟨R, 5, none⟩ (.int .i64 0)).setCell ⟨R, 6, none⟩ (.int .i64 0)).cell? ⟨R, 3, none⟩ = some (.int .i64 0) := hs.c3
        have y4 : (((((((w2.setCell ⟨R, 0, none⟩ (.int .i64 0)).setCell ⟨R, 1, none⟩ (.int .i64 0)).setCell ⟨R, 2, none⟩ (.int .i64 0)).setCell ⟨R, 3, none⟩ (.int .i64 0)).setCell ⟨R, 4, none⟩ (.int .i64 0)).setCell ⟨R, 5, none⟩ (.int .i64 0)).setCell ⟨R, 6, none⟩ (.int .i64 0)).cell? ⟨R, 4, none⟩ = some (.int .i64 0) := hs.c4
        have y5 : (((((((w2.setCell ⟨R, 0, none⟩ (.int .i64 0)).setCell ⟨R, 1, none⟩ (.int .i64 0)).setCell ⟨R, 2, none⟩ (.int .i64 0)).setCell ⟨R, 3, none⟩ (.int .i64 0)).setCell ⟨R, 4, none⟩ (.int .i64 0)).setCell ⟨R, 5, none⟩ (.int .i64 0)).setCell ⟨R, 6, none⟩ (.int .i64 0)).cell? ⟨R, 5, none⟩ = some (.int .i64 0) := hs.c5
        have y6 : (((((((w2.setCell ⟨R, 0, none⟩ (.int .i64 0)).setCell ⟨R, 1, none⟩ (.int .i64 0)).setCell ⟨R, 2, none⟩ (.int .i64 0)).setCell ⟨R, 3, none⟩ (.int .i64 0)).setCell ⟨R, 4, none⟩ (.int .i64 0)).setCell ⟨R, 5, none⟩ (.int .i64 0)).setCell ⟨R, 6, none⟩ (.int .i64 0)).cell? ⟨R, 6, none⟩ = some (.int .i64 0) := hs.c6
        (try simp only [Exit.inBlock, Exit.then])
        refine bodyPost_ret (by simp [results, Tryz.results19, go_sem, y0, y1, y2, y3, y4, y5, y6]; try rfl) rfl ?_
        first | exact ⟨by rw [HE.out]; rfl, setU_below HB2.out HN.out 0 0 0 0 0 0 0⟩ | exact ⟨by rw [HE.out]; rfl, (setU_below HB2.out HN.out 0 0 0 0 0 0 0).drew⟩

theorem combX_gen (u v Pr : UnitD) (f : UnitD × Int) (hf : f = if checkFE u v = 0 then (if validB Pr = true then (Pr, 0) else (zeroU, 6)) else (zeroU, checkFE u v)) : CombX u v Pr f := by
  subst hf
  refine ⟨fun h => ?_, fun h1 h2 h => ?_, fun h1 h2 h3 h4 => ?_⟩
  · have c : checkFE u v = 1 := by unfold checkFE; rw [if_pos h]
    rw [c, if_neg (by decide)]
  · have n : ¬ (validB u = false ∨ validB v = false) := by rw [h1, h2]; simp
    have c : checkFE u v = 11 := by unfold checkFE; rw [if_neg n, if_pos h]
    rw [c, if_neg (by decide)]
  · rw [checkFE_zero h1 h2 h3 h4, if_pos rfl]
theorem rComb_pos (u v : UnitD) (w : World) : Calls Tryz.prog 19 #[unitV u, unitV v, .int .i64 1] w fun e w' => e = .returned (pairU (mulR u v)) ∧ Below w.heap.size w w' :=
  rComb_core u.e0 u.e1 u.e2 u.e3 u.n u.d u.o v.e0 v.e1 v.e2 v.e3 v.n v.d v.o 1 (prodU u v) (mulR u v) w (Lib.hid (combX_gen u v _ _ rfl))
    (Lib.hid fun h1 h2 w => rcombine_pos u.e0 u.e1 u.e2 u.e3 u.n u.d u.o v.e0 v.e1 v.e2 v.e3 v.n v.d v.o 1 w rfl h1 h2)
theorem rComb_neg (u v : UnitD) (w : World) : Calls Tryz.prog 19 #[unitV u, unitV v, .int .i64 (-1)] w fun e w' => e = .returned (pairU (divR u v)) ∧ Below w.heap.size w w' :=
  rComb_core u.e0 u.e1 u.e2 u.e3 u.n u.d u.o v.e0 v.e1 v.e2 v.e3 v.n v.d v.o (-1) (prodU u (invU v)) (divR u v) w (Lib.hid (combX_gen u v _ _ rfl))
    (Lib.hid fun h1 h2 w => rcombine_neg u.e0 u.e1 u.e2 u.e3 u.n u.d u.o v.e0 v.e1 v.e2 v.e3 v.n v.d v.o (-1) w rfl h1 h2)
end Go.Proofs.YtjkdcbkfcmaadaaGreatDoor
