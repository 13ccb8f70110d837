/- The law UnitsDifferences. -/
import Derived.Test.YtjkdcbkfcmaadaaDoorLb
namespace Go.Proofs.YtjkdcbkfcmaadaaDoor
open Go.RowKit Go.Shelf

def deltaU (x : UnitD) : UnitD × Int := if validB x = true then (noOff x, 0) else (zeroU, 1)
theorem delta_pair (x : UnitD) (w : World) : Calls Tryd.prog 13 #[unitV x] w fun e w' => e = .returned (pairU (deltaU x)) ∧ Below w.heap.size w w' := by
  refine (delta_any x.e0 x.e1 x.e2 x.e3 x.n x.d x.o w).mono fun e w' h => ⟨h.1.trans ?_, h.2⟩
  unfold deltaU
  rw [show validB ⟨x.e0, x.e1, x.e2, x.e3, x.n, x.d, x.o⟩ = validB x from rfl]
  cases validB x <;> rfl
theorem noOff_valid {u : UnitD} (h : validB u = true) : validB (noOff u) = true := by
  unfold validB at h ⊢
  simp only [noOff, Bool.and_eq_true] at h ⊢
  exact ⟨⟨h.1.1, by simp⟩, by simp⟩
set_option maxRecDepth 100000 in
set_option maxHeartbeats 4000000 in
theorem diff_law (n m : Int) (u0 u1 u2 u3 un ud uo v0 v1 v2 v3 vn vd vo : Int) (w : World) (hg : Gu w) : Calls Tryd.prog 6 #[.int .i64 n, .int .i64 m, .agg #[.int .i64 u0, .int .i64 u1, .int .i64 u2, .int .i64 u3, .int .i64 un, .int .i64 ud, .int .i64 uo], .agg #[.int .i64 v0, .int .i64 v1, .int .i64 v2, .int .i64 v3, .int .i64 vn, .int .i64 vd, .int .i64 vo]] w fun e w' => e = .returned (.bool true) ∧ Below w.heap.size w w' := by
  have HA := Lib.hid awake_yes
  go_enter Tryd.func6, Tryd.ntmps6
  go_wp2_with fail
  obtain ⟨W, g, h, hW, hg0, hh0, U1, V1, B1, sz⟩ := two_boxes w 24 u0 u1 u2 u3 un ud uo v0 v1 v2 v3 vn vd vo
  rw [← hW]
  try rw [← hh0]
  try rw [← hg0]
  obtain ⟨a0, a1, a2, a3, a4, a5, a6, az⟩ := U1
  obtain ⟨b0, b1, b2, b3, b4, b5, b6, bz⟩ := V1
  have hgl : g < W.heap.size := by omega
  have hhl : h < W.heap.size := by omega
  clear hW hg0 hh0 sz
  have HB1 := Lib.hid B1
  have HG := Lib.hid hg
  clear B1 hg
  go_region_held3 (fun w' => w'.cell? ⟨g, 0, none⟩ = some (.int .i64 u0) ∧ w'.cell? ⟨g, 1, none⟩ = some (.int .i64 u1) ∧ w'.cell? ⟨g, 2, none⟩ = some (.int .i64 u2) ∧ w'.cell? ⟨g, 3, none⟩ = some (.int .i64 u3) ∧ w'.cell? ⟨g, 4, none⟩ = some (.int .i64 un) ∧ w'.cell? ⟨g, 5, none⟩ = some (.int .i64 ud) ∧ w'.cell? ⟨g, 6, none⟩ = some (.int .i64 uo) ∧ w'.cell? ⟨h, 0, none⟩ = some (.int .i64 v0) ∧ w'.cell? ⟨h, 1, none⟩ = some (.int .i64 v1) ∧ w'.cell? ⟨h, 2, none⟩ = some (.int .i64 v2) ∧ w'.cell? ⟨h, 3, none⟩ = some (.int .i64 v3) ∧ w'.cell? ⟨h, 4, none⟩ = some (.int .i64 vn) ∧ w'.cell? ⟨h, 5, none⟩ = some (.int .i64 vd) ∧ w'.cell? ⟨h, 6, none⟩ = some (.int .i64 vo)) (first | go_keep) ((fail))
  all_goals
    rename_i hHeld
    clear hHeld a0 a1 a2 a3 a4 a5 a6 az b0 b1 b2 b3 b4 b5 b6 bz
  case' refine_2.refine_3.refine_3.refine_1.refine_2.refine_1.refine_2.refine_1.refine_2.refine_1.refine_2 =>
    obtain ⟨W2, p, q, hW2, hp, hq, U2, V2, B2, sz2⟩ := two_boxes W 25 u0 u1 u2 u3 un ud uo v0 v1 v2 v3 vn vd vo
  case' refine_2.refine_3.refine_3.refine_2.refine_1.refine_2.refine_1.refine_2.refine_1.refine_2.refine_1.refine_2 =>
    obtain ⟨W2, q, p, hW2, hq, hp, V2, U2, B2, sz2⟩ := two_boxes W 25 v0 v1 v2 v3 vn vd vo u0 u1 u2 u3 un ud uo
  all_goals
    rw [← hW2]
    first | rw [← hq, ← hp] | rw [← hp, ← hq]
    have U3 : UnitAt W2.drew p u0 u1 u2 u3 un ud uo := U2.drew
    have V3 : UnitAt W2.drew q v0 v1 v2 v3 vn vd vo := V2.drew
    have B3 : Below W.heap.size W W2.drew := B2.drew
    obtain ⟨W3, hW3⟩ : ∃ x, x = W2.drew := ⟨_, rfl⟩
    rw [← hW3] at U3 V3 B3 ⊢
    have HU := Lib.hid U3
    have HV := Lib.hid V3
    have HB := Lib.hid (HB1.out.trans (B3.mono HB1.out.size))
    clear hW2 hp hq U2 V2 B2 sz2 hW3 U3 V3 B3 hgl hhl HB1
    by_cases hc : n < -1000000000
    · go_wp2_with fail
      refine (HA.out _ (HG.out.below HB.out)).mono ?_
      rintro e w1 ⟨rfl, hb⟩
      have HB1 := Lib.hid (HB.out.trans (hb.mono HB.out.size))
      clear hb HU HV HB
      go_wp2_with fail
      go_ret
      exact ⟨rfl, HB1.out⟩
    · have hn0 : ¬ (n < -1000000000) := hc
      clear hc
      by_cases hc : 1000000000 < n
      · go_wp2_with fail
        refine (HA.out _ (HG.out.below HB.out)).mono ?_
        rintro e w1 ⟨rfl, hb⟩
        have HB1 := Lib.hid (HB.out.trans (hb.mono HB.out.size))
        clear hb HU HV HB
        go_wp2_with fail
        go_ret
        exact ⟨rfl, HB1.out⟩
      · have hn1 : ¬ (1000000000 < n) := hc
        clear hc
        by_cases hc : m < -1000000000
        · go_wp2_with fail
          refine (HA.out _ (HG.out.below HB.out)).mono ?_
          rintro e w1 ⟨rfl, hb⟩
          have HB1 := Lib.hid (HB.out.trans (hb.mono HB.out.size))
          clear hb HU HV HB
          go_wp2_with fail
          go_ret
          exact ⟨rfl, HB1.out⟩
        · have hm0 : ¬ (m < -1000000000) := hc
          clear hc
          by_cases hc : 1000000000 < m
          · go_wp2_with fail
            refine (HA.out _ (HG.out.below HB.out)).mono ?_
            rintro e w1 ⟨rfl, hb⟩
            have HB1 := Lib.hid (HB.out.trans (hb.mono HB.out.size))
            clear hb HU HV HB
            go_wp2_with fail
            go_ret
            exact ⟨rfl, HB1.out⟩
          · have hm1 : ¬ (1000000000 < m) := hc
            clear hc
            obtain ⟨⟨X, E1⟩, hx1⟩ : ∃ r, r = convR n ⟨u0, u1, u2, u3, un, ud, uo⟩ ⟨v0, v1, v2, v3, vn, vd, vo⟩ := ⟨_, rfl⟩
            obtain ⟨⟨Y, E2⟩, hx2⟩ : ∃ r, r = convR m ⟨u0, u1, u2, u3, un, ud, uo⟩ ⟨v0, v1, v2, v3, vn, vd, vo⟩ := ⟨_, rfl⟩
            obtain ⟨⟨⟨c0, c1, c2, c3, cn, cd, co⟩, E3⟩, hx3⟩ : ∃ r, r = deltaU ⟨u0, u1, u2, u3, un, ud, uo⟩ := ⟨_, rfl⟩
            obtain ⟨⟨⟨k0, k1, k2, k3, kn, kd, ko⟩, E4⟩, hx4⟩ : ∃ r, r = deltaU ⟨v0, v1, v2, v3, vn, vd, vo⟩ := ⟨_, rfl⟩
            have kk1 := fun w => convert_any n ⟨u0, u1, u2, u3, un, ud, uo⟩ ⟨v0, v1, v2, v3, vn, vd, vo⟩ w
            have kk2 := fun w => convert_any m ⟨u0, u1, u2, u3, un, ud, uo⟩ ⟨v0, v1, v2, v3, vn, vd, vo⟩ w
            have kk3 := fun w => delta_pair ⟨u0, u1, u2, u3, un, ud, uo⟩ w
            have kk4 := fun w => delta_pair ⟨v0, v1, v2, v3, vn, vd, vo⟩ w
            rw [← hx1] at kk1
            rw [← hx2] at kk2
            rw [← hx3] at kk3
            rw [← hx4] at kk4
            have HK1 := Lib.hid kk1
            have HK2 := Lib.hid kk2
            have HK3 := Lib.hid kk3
            have HK4 := Lib.hid kk4
            have HX1 := Lib.hid hx1.symm
            have HX2 := Lib.hid hx2.symm
            have HX3 := Lib.hid hx3.symm
            have HX4 := Lib.hid hx4.symm
            clear kk1 kk2 kk3 kk4 hx1 hx2 hx3 hx4
            obtain ⟨ux0, ux1, ux2, ux3, ux4, ux5, ux6, uxz⟩ := HU.out
            obtain ⟨vx0, vx1, vx2, vx3, vx4, vx5, vx6, vxz⟩ := HV.out
            go_wp2_with fail
            refine (HK1.out _).mono ?_
            rintro e w1 ⟨rfl, hb⟩
            clear ux0 ux1 ux2 ux3 ux4 ux5 ux6 uxz
            clear vx0 vx1 vx2 vx3 vx4 vx5 vx6 vxz
            have HU1 := Lib.hid (HU.out.keep hb)
            have HV1 := Lib.hid (HV.out.keep hb)
            have HB1 := Lib.hid (HB.out.trans (hb.mono HB.out.size))
            clear hb HU HV HB
            obtain ⟨ux0, ux1, ux2, ux3, ux4, ux5, ux6, uxz⟩ := HU1.out
            obtain ⟨vx0, vx1, vx2, vx3, vx4, vx5, vx6, vxz⟩ := HV1.out
            go_wp2_with fail
            refine (HK2.out _).mono ?_
            rintro e w2 ⟨rfl, hb⟩
            clear ux0 ux1 ux2 ux3 ux4 ux5 ux6 uxz
            clear vx0 vx1 vx2 vx3 vx4 vx5 vx6 vxz
            have HU2 := Lib.hid (HU1.out.keep hb)
            have HV2 := Lib.hid (HV1.out.keep hb)
            have HB2 := Lib.hid (HB1.out.trans (hb.mono HB1.out.size))
            clear hb HU1 HV1 HB1
            obtain ⟨ux0, ux1, ux2, ux3, ux4, ux5, ux6, uxz⟩ := HU2.out
            go_wp2_with fail
            refine (HK3.out _).mono ?_
            rintro e w3 ⟨rfl, hb⟩
            clear ux0 ux1 ux2 ux3 ux4 ux5 ux6 uxz
            have hk := hb.alloc hb.size (Obj.cells #[.int .i64 c0, .int .i64 c1, .int .i64 c2, .int .i64 c3, .int .i64 cn, .int .i64 cd, .int .i64 co] 25)
            have HV3 := Lib.hid (HV2.out.keep hk)
            have HC3 := Lib.hid (unit_freshT w3 25 c0 c1 c2 c3 cn cd co)
            have HB3 := Lib.hid (HB2.out.trans (hk.mono HB2.out.size))
            clear hb hk HU2 HV2 HB2
            obtain ⟨vx0, vx1, vx2, vx3, vx4, vx5, vx6, vxz⟩ := HV3.out
            go_wp2_with fail
            refine (HK4.out _).mono ?_
            rintro e w4 ⟨rfl, hb⟩
            clear vx0 vx1 vx2 vx3 vx4 vx5 vx6 vxz
            have hk := hb.alloc hb.size (Obj.cells #[.int .i64 k0, .int .i64 k1, .int .i64 k2, .int .i64 k3, .int .i64 kn, .int .i64 kd, .int .i64 ko] 25)
            have HC4 := Lib.hid (HC3.out.keep hk)
            have HD4 := Lib.hid (unit_freshT w4 25 k0 k1 k2 k3 kn kd ko)
            have HB4 := Lib.hid (HB3.out.trans (hk.mono HB3.out.size))
            clear hb hk HV3 HC3 HB3
            by_cases hE : E1 = 0
            · subst hE
              by_cases hE : E2 = 0
              · subst hE
                have hu := (conv_ok HX1.out).1
                have hv := (conv_ok HX1.out).2.1
                have g3 := HX3.out
                have g4 := HX4.out
                unfold deltaU at g3 g4
                rw [if_pos hu] at g3
                rw [if_pos hv] at g4
                injection g3 with g3 g3'
                injection g4 with g4 g4'
                injection g3 with e0 e1 e2 e3 e4 e5 e6
                injection g4 with f0 f1 f2 f3 f4 f5 f6
                subst e0 e1 e2 e3 e4 e5 e6 f0 f1 f2 f3 f4 f5 f6 g3' g4'
                have HVu := Lib.hid hu
                have HVv := Lib.hid hv
                clear hu hv
                obtain ⟨⟨Z, E5⟩, hx5⟩ : ∃ r, r = convR (n - m) (noOff ⟨u0, u1, u2, u3, un, ud, uo⟩) (noOff ⟨v0, v1, v2, v3, vn, vd, vo⟩) := ⟨_, rfl⟩
                have kk5 := fun w => convert_any (n - m) (noOff ⟨u0, u1, u2, u3, un, ud, uo⟩) (noOff ⟨v0, v1, v2, v3, vn, vd, vo⟩) w
                rw [← hx5] at kk5
                have HK5 := Lib.hid kk5
                have HX5 := Lib.hid hx5.symm
                clear kk5 hx5
                have w0 : wrap64 (n - m) = n - m := IntWalk.wrap64_in _ ⟨by omega, by omega⟩
                obtain ⟨cx0, cx1, cx2, cx3, cx4, cx5, cx6, cxz⟩ := HC4.out
                obtain ⟨dx0, dx1, dx2, dx3, dx4, dx5, dx6, dxz⟩ := HD4.out
                go_wp2_with fail
                refine (HK5.out _).mono ?_
                rintro e w5 ⟨rfl, hb⟩
                clear cx0 cx1 cx2 cx3 cx4 cx5 cx6 cxz
                clear dx0 dx1 dx2 dx3 dx4 dx5 dx6 dxz
                have HB5 := Lib.hid (HB4.out.trans (hb.mono HB4.out.size))
                clear hb HC4 HD4 HB4
                by_cases hE : E5 = 0
                · subst hE
                  obtain ⟨d1, d2⟩ := conv_diff HX1.out HX2.out HX5.out
                  have r1 := conv_rng HX1.out
                  have r2 := conv_rng HX2.out
                  have r3 := conv_rng HX5.out
                  have w1 : wrap64 (X - Y) = X - Y := IntWalk.wrap64_in _ ⟨by omega, by omega⟩
                  have w2 : wrap64 (X - Y - Z) = X - Y - Z := IntWalk.wrap64_in _ ⟨by omega, by omega⟩
                  have w3 : wrap64 (Z - X) = Z - X := IntWalk.wrap64_in _ ⟨by omega, by omega⟩
                  have w4 : wrap64 (Z - X + Y) = Z - X + Y := IntWalk.wrap64_in _ ⟨by omega, by omega⟩
                  have d3 : X - Y - Z ≤ 2 := by omega
                  have d4 : Z - X + Y ≤ 2 := by omega
                  clear d1 d2
                  go_wp2_with fail
                  refine (HA.out _ (HG.out.below HB5.out)).mono ?_
                  rintro e w6 ⟨rfl, hb⟩
                  have HB6 := Lib.hid (HB5.out.trans (hb.mono HB5.out.size))
                  clear hb  HB5
                  go_wp2_with fail
                  go_ret
                  exact ⟨rfl, HB6.out⟩
                · have h6 : E5 = 6 := conv_range HX5.out hE (noOff_valid HVu.out) (noOff_valid HVv.out) (clampI_in _ (by omega) (by omega)) (by obtain ⟨i0, i1, i2, i3⟩ := conv_exps HX1.out; exact ⟨i0.symm, i1.symm, i2.symm, i3.symm⟩)
                  clear hE
                  subst h6
                  go_wp2_with fail
                  refine (HA.out _ (HG.out.below HB5.out)).mono ?_
                  rintro e w6 ⟨rfl, hb⟩
                  have HB6 := Lib.hid (HB5.out.trans (hb.mono HB5.out.size))
                  clear hb  HB5
                  go_wp2_with fail
                  go_ret
                  exact ⟨rfl, HB6.out⟩
              · have h2 : (E2 != 0) = true := by simpa using hE
                clear hE
                go_wp2_with fail
                refine (HA.out _ (HG.out.below HB4.out)).mono ?_
                rintro e w5 ⟨rfl, hb⟩
                have HB5 := Lib.hid (HB4.out.trans (hb.mono HB4.out.size))
                clear hb HC4 HD4 HB4
                go_wp2_with fail
                go_ret
                exact ⟨rfl, HB5.out⟩
            · have h1 : (E1 != 0) = true := by simpa using hE
              clear hE
              go_wp2_with fail
              refine (HA.out _ (HG.out.below HB4.out)).mono ?_
              rintro e w5 ⟨rfl, hb⟩
              have HB5 := Lib.hid (HB4.out.trans (hb.mono HB4.out.size))
              clear hb HC4 HD4 HB4
              go_wp2_with fail
              go_ret
              exact ⟨rfl, HB5.out⟩

end Go.Proofs.YtjkdcbkfcmaadaaDoor
