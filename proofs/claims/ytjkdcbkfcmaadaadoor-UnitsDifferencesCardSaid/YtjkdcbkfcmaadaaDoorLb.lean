/- The law UnitsBack. -/
import Derived.Test.YtjkdcbkfcmaadaaDoorLm
namespace Go.Proofs.YtjkdcbkfcmaadaaDoor
open Go.RowKit Go.Shelf

theorem conv_exps {x y : Int} {u v : UnitD} (h : convR x u v = (y, 0)) : u.e0 = v.e0 ∧ u.e1 = v.e1 ∧ u.e2 = v.e2 ∧ u.e3 = v.e3 := by
  unfold convR at h
  split at h
  · injection h with _ h; cases h
  · split at h
    · injection h with _ h; cases h
    · rename_i h2; exact Classical.not_not.1 h2
theorem conv_range {x y e : Int} {u v : UnitD} (h : convR x u v = (y, e)) (he : e ≠ 0) (hu : validB u = true) (hv : validB v = true) (hx : clampI x = x) (hexp : v.e0 = u.e0 ∧ v.e1 = u.e1 ∧ v.e2 = u.e2 ∧ v.e3 = u.e3) : e = 6 := by
  unfold convR at h
  rw [if_neg (by rw [hu, hv, hx]; simp), if_neg (by simp [hexp.1, hexp.2.1, hexp.2.2.1, hexp.2.2.2])] at h
  split at h
  · injection h with _ h; exact absurd h.symm he
  · injection h with _ h; exact h.symm
theorem conv_rng {x y : Int} {u v : UnitD} (h : convR x u v = (y, 0)) : -1000000000000 ≤ y ∧ y ≤ 1000000000000 := by
  have h1 := (conv_ok h).2.2.2.2
  have h2 := clampI_range y
  rw [h1] at h2
  exact h2
set_option maxRecDepth 100000 in
set_option maxHeartbeats 4000000 in
theorem back_law (n : Int) (u0 u1 u2 u3 un ud uo v0 v1 v2 v3 vn vd vo : Int) (w : World) (hg : Gu w) : Calls Tryd.prog 5 #[.int .i64 n, .agg #[.int .i64 u0, .int .i64 u1, .int .i64 u2, .int .i64 u3, .int .i64 un, .int .i64 ud, .int .i64 uo], .agg #[.int .i64 v0, .int .i64 v1, .int .i64 v2, .int .i64 v3, .int .i64 vn, .int .i64 vd, .int .i64 vo]] w fun e w' => e = .returned (.bool true) ∧ Below w.heap.size w w' := by
  obtain ⟨Ba, hBa⟩ : ∃ V, V = validB ⟨u0, u1, u2, u3, un, ud, uo⟩ := ⟨_, rfl⟩
  obtain ⟨Bb, hBb⟩ : ∃ V, V = validB ⟨v0, v1, v2, v3, vn, vd, vo⟩ := ⟨_, rfl⟩
  have hva := fun w => valid_any u0 u1 u2 u3 un ud uo w
  have hvb := fun w => valid_any v0 v1 v2 v3 vn vd vo w
  rw [← hBa] at hva
  rw [← hBb] at hvb
  have HVa := Lib.hid hva
  have HVb := Lib.hid hvb
  have HEa := Lib.hid hBa
  have HEb := Lib.hid hBb
  have HA := Lib.hid awake_yes
  clear hva hvb hBa hBb
  go_enter Tryd.func5, Tryd.ntmps5
  go_wp2_with fail
  obtain ⟨W, g, h, hW, hg0, hh0, U1, V1, B1, sz⟩ := two_boxes w 24 u0 u1 u2 u3 un ud uo v0 v1 v2 v3 vn vd vo
  rw [← hW]
  try rw [← hh0]
  try rw [← hg0]
  obtain ⟨a0, a1, a2, a3, a4, a5, a6, az⟩ := U1
  obtain ⟨b0, b1, b2, b3, b4, b5, b6, bz⟩ := V1
  have hgl : g < W.heap.size := by omega
  have hhl : h < W.heap.size := by omega
  clear hW hg0 hh0 sz
  have HB1 := Lib.hid B1
  have HG := Lib.hid hg
  clear B1 hg
  go_region_held3 (fun w' => w'.cell? ⟨g, 0, none⟩ = some (.int .i64 u0) ∧ w'.cell? ⟨g, 1, none⟩ = some (.int .i64 u1) ∧ w'.cell? ⟨g, 2, none⟩ = some (.int .i64 u2) ∧ w'.cell? ⟨g, 3, none⟩ = some (.int .i64 u3) ∧ w'.cell? ⟨g, 4, none⟩ = some (.int .i64 un) ∧ w'.cell? ⟨g, 5, none⟩ = some (.int .i64 ud) ∧ w'.cell? ⟨g, 6, none⟩ = some (.int .i64 uo) ∧ w'.cell? ⟨h, 0, none⟩ = some (.int .i64 v0) ∧ w'.cell? ⟨h, 1, none⟩ = some (.int .i64 v1) ∧ w'.cell? ⟨h, 2, none⟩ = some (.int .i64 v2) ∧ w'.cell? ⟨h, 3, none⟩ = some (.int .i64 v3) ∧ w'.cell? ⟨h, 4, none⟩ = some (.int .i64 vn) ∧ w'.cell? ⟨h, 5, none⟩ = some (.int .i64 vd) ∧ w'.cell? ⟨h, 6, none⟩ = some (.int .i64 vo)) (first | go_keep) ((fail))
  all_goals
    rename_i hHeld
    clear hHeld a0 a1 a2 a3 a4 a5 a6 az b0 b1 b2 b3 b4 b5 b6 bz
  case' refine_2.refine_3.refine_3.refine_1.refine_2.refine_1.refine_2.refine_1.refine_2.refine_1.refine_2 =>
    obtain ⟨W2, p, q, hW2, hp, hq, U2, V2, B2, sz2⟩ := two_boxes W 25 u0 u1 u2 u3 un ud uo v0 v1 v2 v3 vn vd vo
  case' refine_2.refine_3.refine_3.refine_2.refine_1.refine_2.refine_1.refine_2.refine_1.refine_2.refine_1.refine_2 =>
    obtain ⟨W2, q, p, hW2, hq, hp, V2, U2, B2, sz2⟩ := two_boxes W 25 v0 v1 v2 v3 vn vd vo u0 u1 u2 u3 un ud uo
  all_goals
    rw [← hW2]
    first | rw [← hq, ← hp] | rw [← hp, ← hq]
    have U3 : UnitAt W2.drew p u0 u1 u2 u3 un ud uo := U2.drew
    have V3 : UnitAt W2.drew q v0 v1 v2 v3 vn vd vo := V2.drew
    have B3 : Below W.heap.size W W2.drew := B2.drew
    obtain ⟨W3, hW3⟩ : ∃ x, x = W2.drew := ⟨_, rfl⟩
    rw [← hW3] at U3 V3 B3 ⊢
    have HU := Lib.hid U3
    have HV := Lib.hid V3
    have HB := Lib.hid (HB1.out.trans (B3.mono HB1.out.size))
    clear hW2 hp hq U2 V2 B2 sz2 hW3 U3 V3 B3 hgl hhl HB1
    obtain ⟨ux0, ux1, ux2, ux3, ux4, ux5, ux6, uxz⟩ := HU.out
    go_wp2_with fail
    refine (HVa.out _).mono ?_
    rintro e w1 ⟨rfl, hb⟩
    clear ux0 ux1 ux2 ux3 ux4 ux5 ux6 uxz
    have HU1 := Lib.hid (HU.out.keep hb)
    have HV1 := Lib.hid (HV.out.keep hb)
    have HB1 := Lib.hid (HB.out.trans (hb.mono HB.out.size))
    clear hb HU HV HB
    cases Ba
    · go_wp2_with fail
      refine (HA.out _ (HG.out.below HB1.out)).mono ?_
      rintro e w2 ⟨rfl, hb⟩
      have HB2 := Lib.hid (HB1.out.trans (hb.mono HB1.out.size))
      clear hb HU1 HV1 HB1
      go_wp2_with fail
      go_ret
      exact ⟨rfl, HB2.out⟩
    · obtain ⟨vx0, vx1, vx2, vx3, vx4, vx5, vx6, vxz⟩ := HV1.out
      go_wp2_with fail
      refine (HVb.out _).mono ?_
      rintro e w2 ⟨rfl, hb⟩
      clear vx0 vx1 vx2 vx3 vx4 vx5 vx6 vxz
      have HU2 := Lib.hid (HU1.out.keep hb)
      have HV2 := Lib.hid (HV1.out.keep hb)
      have HB2 := Lib.hid (HB1.out.trans (hb.mono HB1.out.size))
      clear hb HU1 HV1 HB1
      cases Bb
      · go_wp2_with fail
        refine (HA.out _ (HG.out.below HB2.out)).mono ?_
        rintro e w3 ⟨rfl, hb⟩
        have HB3 := Lib.hid (HB2.out.trans (hb.mono HB2.out.size))
        clear hb HU2 HV2 HB2
        go_wp2_with fail
        go_ret
        exact ⟨rfl, HB3.out⟩
      · obtain ⟨⟨a1, a2⟩, ⟨a3, a4⟩⟩ := scaleR (u := ⟨u0, u1, u2, u3, un, ud, uo⟩) HEa.out.symm
        obtain ⟨⟨b1, b2⟩, ⟨b3, b4⟩⟩ := scaleR (u := ⟨v0, v1, v2, v3, vn, vd, vo⟩) HEb.out.symm
        have a1 : 1 ≤ un := a1
        have a2 : un ≤ 100000000000 := a2
        have a3 : 1 ≤ ud := a3
        have a4 : ud ≤ 100000000000 := a4
        have b1 : 1 ≤ vn := b1
        have b2 : vn ≤ 100000000000 := b2
        have b3 : 1 ≤ vd := b3
        have b4 : vd ≤ 100000000000 := b4
        by_cases hc : 1000000 < un
        · obtain ⟨ux0, ux1, ux2, ux3, ux4, ux5, ux6, uxz⟩ := HU2.out
          obtain ⟨vx0, vx1, vx2, vx3, vx4, vx5, vx6, vxz⟩ := HV2.out
          go_wp2_with fail
          refine (HA.out _ (HG.out.below HB2.out)).mono ?_
          rintro e w3 ⟨rfl, hb⟩
          have HB3 := Lib.hid (HB2.out.trans (hb.mono HB2.out.size))
          clear hb HU2 HV2 HB2
          go_wp2_with fail
          go_ret
          exact ⟨rfl, HB3.out⟩
        · have hun : un ≤ 1000000 := by omega
          clear hc
          by_cases hc : 1000000 < ud
          · obtain ⟨ux0, ux1, ux2, ux3, ux4, ux5, ux6, uxz⟩ := HU2.out
            obtain ⟨vx0, vx1, vx2, vx3, vx4, vx5, vx6, vxz⟩ := HV2.out
            go_wp2_with fail
            refine (HA.out _ (HG.out.below HB2.out)).mono ?_
            rintro e w3 ⟨rfl, hb⟩
            have HB3 := Lib.hid (HB2.out.trans (hb.mono HB2.out.size))
            clear hb HU2 HV2 HB2
            go_wp2_with fail
            go_ret
            exact ⟨rfl, HB3.out⟩
          · have hud : ud ≤ 1000000 := by omega
            clear hc
            by_cases hc : 1000000 < vn
            · obtain ⟨ux0, ux1, ux2, ux3, ux4, ux5, ux6, uxz⟩ := HU2.out
              obtain ⟨vx0, vx1, vx2, vx3, vx4, vx5, vx6, vxz⟩ := HV2.out
              go_wp2_with fail
              refine (HA.out _ (HG.out.below HB2.out)).mono ?_
              rintro e w3 ⟨rfl, hb⟩
              have HB3 := Lib.hid (HB2.out.trans (hb.mono HB2.out.size))
              clear hb HU2 HV2 HB2
              go_wp2_with fail
              go_ret
              exact ⟨rfl, HB3.out⟩
            · have hvn : vn ≤ 1000000 := by omega
              clear hc
              by_cases hc : 1000000 < vd
              · obtain ⟨ux0, ux1, ux2, ux3, ux4, ux5, ux6, uxz⟩ := HU2.out
                obtain ⟨vx0, vx1, vx2, vx3, vx4, vx5, vx6, vxz⟩ := HV2.out
                go_wp2_with fail
                refine (HA.out _ (HG.out.below HB2.out)).mono ?_
                rintro e w3 ⟨rfl, hb⟩
                have HB3 := Lib.hid (HB2.out.trans (hb.mono HB2.out.size))
                clear hb HU2 HV2 HB2
                go_wp2_with fail
                go_ret
                exact ⟨rfl, HB3.out⟩
              · have hvd : vd ≤ 1000000 := by omega
                clear hc
                have m1 : 0 ≤ vn * ud := Int.mul_nonneg (by omega) (by omega)
                have m2 : vn * ud ≤ 1000000 * 1000000 := Int.mul_le_mul (by omega) (by omega) (by omega) (by omega)
                have m3 : 0 ≤ un * vd := Int.mul_nonneg (by omega) (by omega)
                have m4 : un * vd ≤ 1000000 * 1000000 := Int.mul_le_mul (by omega) (by omega) (by omega) (by omega)
                obtain ⟨P, hP⟩ : ∃ P, vn * ud = P := ⟨_, rfl⟩
                obtain ⟨Q, hQ⟩ : ∃ Q, un * vd = Q := ⟨_, rfl⟩
                have HPe := Lib.hid hP
                have HQe := Lib.hid hQ
                rw [hP] at m1 m2
                rw [hQ] at m3 m4
                have r1 : IntKind.i64.wrap (vn * ud) = P := by rw [hP]; exact IntWalk.i64_in _ ⟨by omega, by omega⟩
                have r2 : IntKind.i64.wrap (un * vd) = Q := by rw [hQ]; exact IntWalk.i64_in _ ⟨by omega, by omega⟩
                have r3 : wrap64 P = P := IntWalk.wrap64_in _ ⟨by omega, by omega⟩
                have r4 : wrap64 Q = Q := IntWalk.wrap64_in _ ⟨by omega, by omega⟩
                clear a1 a2 a3 a4 b1 b2 b3 b4 m1 m2 m3 m4
                by_cases hPQ : Q < P
                · obtain ⟨ux0, ux1, ux2, ux3, ux4, ux5, ux6, uxz⟩ := HU2.out
                  obtain ⟨vx0, vx1, vx2, vx3, vx4, vx5, vx6, vxz⟩ := HV2.out
                  go_wp2_with fail
                  refine (HA.out _ (HG.out.below HB2.out)).mono ?_
                  rintro e w3 ⟨rfl, hb⟩
                  have HB3 := Lib.hid (HB2.out.trans (hb.mono HB2.out.size))
                  clear hb HU2 HV2 HB2
                  go_wp2_with fail
                  go_ret
                  exact ⟨rfl, HB3.out⟩
                · have hPQ : P ≤ Q := by omega
                  obtain ⟨⟨X, E1⟩, hx1⟩ : ∃ r, r = convR n ⟨u0, u1, u2, u3, un, ud, uo⟩ ⟨v0, v1, v2, v3, vn, vd, vo⟩ := ⟨_, rfl⟩
                  have c1 := fun w => convert_any n ⟨u0, u1, u2, u3, un, ud, uo⟩ ⟨v0, v1, v2, v3, vn, vd, vo⟩ w
                  rw [← hx1] at c1
                  have HC1 := Lib.hid c1
                  have HX1 := Lib.hid hx1.symm
                  clear c1 hx1
                  obtain ⟨⟨Y, E2⟩, hx2⟩ : ∃ r, r = convR X ⟨v0, v1, v2, v3, vn, vd, vo⟩ ⟨u0, u1, u2, u3, un, ud, uo⟩ := ⟨_, rfl⟩
                  have c2 := fun w => convert_any X ⟨v0, v1, v2, v3, vn, vd, vo⟩ ⟨u0, u1, u2, u3, un, ud, uo⟩ w
                  rw [← hx2] at c2
                  have HC2 := Lib.hid c2
                  have HX2 := Lib.hid hx2.symm
                  clear c2 hx2
                  have HPQ := Lib.hid hPQ
                  obtain ⟨ux0, ux1, ux2, ux3, ux4, ux5, ux6, uxz⟩ := HU2.out
                  obtain ⟨vx0, vx1, vx2, vx3, vx4, vx5, vx6, vxz⟩ := HV2.out
                  go_wp2_with fail
                  refine (HC1.out _).mono ?_
                  rintro e w3 ⟨rfl, hb⟩
                  clear ux0 ux1 ux2 ux3 ux4 ux5 ux6 uxz
                  clear vx0 vx1 vx2 vx3 vx4 vx5 vx6 vxz
                  have HU3 := Lib.hid (HU2.out.keep hb)
                  have HV3 := Lib.hid (HV2.out.keep hb)
                  have HB3 := Lib.hid (HB2.out.trans (hb.mono HB2.out.size))
                  clear hb HU2 HV2 HB2
                  by_cases hE1 : E1 = 0
                  · subst hE1
                    obtain ⟨ux0, ux1, ux2, ux3, ux4, ux5, ux6, uxz⟩ := HU3.out
                    obtain ⟨vx0, vx1, vx2, vx3, vx4, vx5, vx6, vxz⟩ := HV3.out
                    go_wp2_with fail
                    refine (HC2.out _).mono ?_
                    rintro e w4 ⟨rfl, hb⟩
                    clear ux0 ux1 ux2 ux3 ux4 ux5 ux6 uxz
                    clear vx0 vx1 vx2 vx3 vx4 vx5 vx6 vxz
                    have HB4 := Lib.hid (HB3.out.trans (hb.mono HB3.out.size))
                    clear hb HU3 HV3 HB3
                    by_cases hE2 : E2 = 0
                    · subst hE2
                      obtain ⟨d1, d2⟩ := conv_back HX1.out HX2.out (by show vn * ud ≤ un * vd; rw [HPe.out, HQe.out]; exact HPQ.out)
                      have r5 := conv_rng HX2.out
                      have w1 : wrap64 (Y - n) = Y - n := IntWalk.wrap64_in _ ⟨by omega, by omega⟩
                      have w2 : wrap64 (n - Y) = n - Y := IntWalk.wrap64_in _ ⟨by omega, by omega⟩
                      go_wp2_with fail
                      refine (HA.out _ (HG.out.below HB4.out)).mono ?_
                      rintro e w5 ⟨rfl, hb⟩
                      have HB5 := Lib.hid (HB4.out.trans (hb.mono HB4.out.size))
                      clear hb  HB4
                      go_wp2_with fail
                      go_ret
                      exact ⟨rfl, HB5.out⟩
                    · have h6 : E2 = 6 := by
                        have hi := conv_ok HX1.out
                        exact conv_range HX2.out hE2 hi.2.1 hi.1 hi.2.2.2.2 (conv_exps HX1.out)
                      have h2 : (E2 != 0) = true := by simpa using hE2
                      clear hE2
                      subst h6
                      go_wp2_with fail
                      refine (HA.out _ (HG.out.below HB4.out)).mono ?_
                      rintro e w5 ⟨rfl, hb⟩
                      have HB5 := Lib.hid (HB4.out.trans (hb.mono HB4.out.size))
                      clear hb  HB4
                      go_wp2_with fail
                      go_ret
                      exact ⟨rfl, HB5.out⟩
                  · have h1 : (E1 != 0) = true := by simpa using hE1
                    clear hE1
                    go_wp2_with fail
                    refine (HA.out _ (HG.out.below HB3.out)).mono ?_
                    rintro e w4 ⟨rfl, hb⟩
                    have HB4 := Lib.hid (HB3.out.trans (hb.mono HB3.out.size))
                    clear hb HU3 HV3 HB3
                    go_wp2_with fail
                    go_ret
                    exact ⟨rfl, HB4.out⟩

end Go.Proofs.YtjkdcbkfcmaadaaDoor
