/- The law UnitsCombines. -/
import Derived.Test.YtjkdcbkfcmaadaaGreatDoorRe
import Derived.Test.YtjkdcbkfcmaadaaGreatDoorVu
namespace Go.Proofs.YtjkdcbkfcmaadaaGreatDoor
open Go.RowKit Go.Shelf

theorem eq_runit (a0 a1 a2 a3 an ad ao b0 b1 b2 b3 bn bd bo : Int) (w : World) : (Op.equalIn 10000 29 (.agg #[.int .i64 a0, .int .i64 a1, .int .i64 a2, .int .i64 a3, .int .i64 an, .int .i64 ad, .int .i64 ao]) (.agg #[.int .i64 b0, .int .i64 b1, .int .i64 b2, .int .i64 b3, .int .i64 bn, .int .i64 bd, .int .i64 bo])).run Tryz.prog w = .ok (decide (a0 = b0 ∧ a1 = b1 ∧ a2 = b2 ∧ a3 = b3 ∧ an = bn ∧ ad = bd ∧ ao = bo)) w := by
  rw [show (10000 : Nat) = 9997 + 2 + 1 from rfl, Op.equalIn]
  have hA := eq_arr 9997 a0 a1 a2 a3 b0 b1 b2 b3
  have hI := fun a b w => eq_int64 9998 a b w
  simp only [Sem.run_bind, run_underlying Tryz.underlying29, Result.andThen_ok]
  go_simp
  by_cases h0 : a0 = b0
  case neg => simp [h0]
  by_cases h1 : a1 = b1
  case neg => simp [h0, h1]
  by_cases h2 : a2 = b2
  case neg => simp [h0, h1, h2]
  by_cases h3 : a3 = b3
  case neg => simp [h0, h1, h2, h3]
  by_cases h4 : an = bn
  case neg => simp [h0, h1, h2, h3, h4]
  by_cases h5 : ad = bd
  case neg => simp [h0, h1, h2, h3, h4, h5]
  by_cases h6 : ao = bo
  case neg => simp [h0, h1, h2, h3, h4, h5, h6]
  simp [h0, h1, h2, h3, h4, h5, h6]
theorem delta_pair (x : UnitD) (w : World) : Calls Tryz.prog 21 #[unitV x] w fun e w' => e = .returned (pairU (rdeltaU x)) ∧ Below w.heap.size w w' := by
  refine (delta_any x.e0 x.e1 x.e2 x.e3 x.n x.d x.o w).mono fun e w' h => ⟨h.1.trans ?_, h.2⟩
  unfold rdeltaU
  rw [show validB ⟨x.e0, x.e1, x.e2, x.e3, x.n, x.d, x.o⟩ = validB x from rfl]
  cases validB x <;> rfl
structure AC (w : World) (g h a b c d e f : Nat) (u0 u1 u2 u3 un ud uo v0 v1 v2 v3 vn vd vo p0 p1 p2 p3 pn pd po q0 q1 q2 q3 qn qd qo k0 k1 k2 k3 kn kd ko : Int) (w' : World) : Prop where
  U : UnitAt w' g u0 u1 u2 u3 un ud uo
  V : UnitAt w' h v0 v1 v2 v3 vn vd vo
  P : UnitAt w' a p0 p1 p2 p3 pn pd po
  O : UnitAt w' b p0 p1 p2 p3 pn pd po
  Q : UnitAt w' c q0 q1 q2 q3 qn qd qo
  R : UnitAt w' d q0 q1 q2 q3 qn qd qo
  D : UnitAt w' e k0 k1 k2 k3 kn kd ko
  E : UnitAt w' f k0 k1 k2 k3 kn kd ko
  bel : Below w.heap.size w w'
section
variable {w w' w2 : World} {g h a b c d e f : Nat} {u0 u1 u2 u3 un ud uo v0 v1 v2 v3 vn vd vo p0 p1 p2 p3 pn pd po q0 q1 q2 q3 qn qd qo k0 k1 k2 k3 kn kd ko : Int}
theorem AC.keep (t : AC w g h a b c d e f u0 u1 u2 u3 un ud uo v0 v1 v2 v3 vn vd vo p0 p1 p2 p3 pn pd po q0 q1 q2 q3 qn qd qo k0 k1 k2 k3 kn kd ko w') (hb : Below w'.heap.size w' w2) : AC w g h a b c d e f u0 u1 u2 u3 un ud uo v0 v1 v2 v3 vn vd vo p0 p1 p2 p3 pn pd po q0 q1 q2 q3 qn qd qo k0 k1 k2 k3 kn kd ko w2 := ⟨t.U.keep hb, t.V.keep hb, t.P.keep hb, t.O.keep hb, t.Q.keep hb, t.R.keep hb, t.D.keep hb, t.E.keep hb, t.bel.trans (hb.mono t.bel.size)⟩
theorem AC.drew (t : AC w g h a b c d e f u0 u1 u2 u3 un ud uo v0 v1 v2 v3 vn vd vo p0 p1 p2 p3 pn pd po q0 q1 q2 q3 qn qd qo k0 k1 k2 k3 kn kd ko w') : AC w g h a b c d e f u0 u1 u2 u3 un ud uo v0 v1 v2 v3 vn vd vo p0 p1 p2 p3 pn pd po q0 q1 q2 q3 qn qd qo k0 k1 k2 k3 kn kd ko w'.drew := ⟨t.U.drew, t.V.drew, t.P.drew, t.O.drew, t.Q.drew, t.R.drew, t.D.drew, t.E.drew, t.bel.drew⟩
end
abbrev A56 (w : World) (g h a b c d e f : Nat) (u0 u1 u2 u3 un ud uo v0 v1 v2 v3 vn vd vo p0 p1 p2 p3 pn pd po q0 q1 q2 q3 qn qd qo k0 k1 k2 k3 kn kd ko : Int) (w' : World) : Prop := w'.cell? ⟨g, 0, none⟩ = some (.int .i64 u0) ∧ w'.cell? ⟨g, 1, none⟩ = some (.int .i64 u1) ∧ w'.cell? ⟨g, 2, none⟩ = some (.int .i64 u2) ∧ w'.cell? ⟨g, 3, none⟩ = some (.int .i64 u3) ∧ w'.cell? ⟨g, 4, none⟩ = some (.int .i64 un) ∧ w'.cell? ⟨g, 5, none⟩ = some (.int .i64 ud) ∧ w'.cell? ⟨g, 6, none⟩ = some (.int .i64 uo) ∧ w'.cell? ⟨h, 0, none⟩ = some (.int .i64 v0) ∧ w'.cell? ⟨h, 1, none⟩ = some (.int .i64 v1) ∧ w'.cell? ⟨h, 2, none⟩ = some (.int .i64 v2) ∧ w'.cell? ⟨h, 3, none⟩ = some (.int .i64 v3) ∧ w'.cell? ⟨h, 4, none⟩ = some (.int .i64 vn) ∧ w'.cell? ⟨h, 5, none⟩ = some (.int .i64 vd) ∧ w'.cell? ⟨h, 6, none⟩ = some (.int .i64 vo) ∧ w'.cell? ⟨a, 0, none⟩ = some (.int .i64 p0) ∧ w'.cell? ⟨a, 1, none⟩ = some (.int .i64 p1) ∧ w'.cell? ⟨a, 2, none⟩ = some (.int .i64 p2) ∧ w'.cell? ⟨a, 3, none⟩ = some (.int .i64 p3) ∧ w'.cell? ⟨a, 4, none⟩ = some (.int .i64 pn) ∧ w'.cell? ⟨a, 5, none⟩ = some (.int .i64 pd) ∧ w'.cell? ⟨a, 6, none⟩ = some (.int .i64 po) ∧ w'.cell? ⟨b, 0, none⟩ = some (.int .i64 p0) ∧ w'.cell? ⟨b, 1, none⟩ = some (.int .i64 p1) ∧ w'.cell? ⟨b, 2, none⟩ = some (.int .i64 p2) ∧ w'.cell? ⟨b, 3, none⟩ = some (.int .i64 p3) ∧ w'.cell? ⟨b, 4, none⟩ = some (.int .i64 pn) ∧ w'.cell? ⟨b, 5, none⟩ = some (.int .i64 pd) ∧ w'.cell? ⟨b, 6, none⟩ = some (.int .i64 po) ∧ w'.cell? ⟨c, 0, none⟩ = some (.int .i64 q0) ∧ w'.cell? ⟨c, 1, none⟩ = some (.int .i64 q1) ∧ w'.cell? ⟨c, 2, none⟩ = some (.int .i64 q2) ∧ w'.cell? ⟨c, 3, none⟩ = some (.int .i64 q3) ∧ w'.cell? ⟨c, 4, none⟩ = some (.int .i64 qn) ∧ w'.cell? ⟨c, 5, none⟩ = some (.int .i64 qd) ∧ w'.cell? ⟨c, 6, none⟩ = some (.int .i64 qo) ∧ w'.cell? ⟨d, 0, none⟩ = some (.int .i64 q0) ∧ w'.cell? ⟨d, 1, none⟩ = some (.int .i64 q1) ∧ w'.cell? ⟨d, 2, none⟩ = some (.int .i64 q2) ∧ w'.cell? ⟨d, 3, none⟩ = some (.int .i64 q3) ∧ w'.cell? ⟨d, 4, none⟩ = some (.int .i64 qn) ∧ w'.cell? ⟨d, 5, none⟩ = some (.int .i64 qd) ∧ w'.cell? ⟨d, 6, none⟩ = some (.int .i64 qo) ∧ w'.cell? ⟨e, 0, none⟩ = some (.int .i64 k0) ∧ w'.cell? ⟨e, 1, none⟩ = some (.int .i64 k1) ∧ w'.cell? ⟨e, 2, none⟩ = some (.int .i64 k2) ∧ w'.cell? ⟨e, 3, none⟩ = some (.int .i64 k3) ∧ w'.cell? ⟨e, 4, none⟩ = some (.int .i64 kn) ∧ w'.cell? ⟨e, 5, none⟩ = some (.int .i64 kd) ∧ w'.cell? ⟨e, 6, none⟩ = some (.int .i64 ko) ∧ w'.cell? ⟨f, 0, none⟩ = some (.int .i64 k0) ∧ w'.cell? ⟨f, 1, none⟩ = some (.int .i64 k1) ∧ w'.cell? ⟨f, 2, none⟩ = some (.int .i64 k2) ∧ w'.cell? ⟨f, 3, none⟩ = some (.int .i64 k3) ∧ w'.cell? ⟨f, 4, none⟩ = some (.int .i64 kn) ∧ w'.cell? ⟨f, 5, none⟩ = some (.int .i64 kd) ∧ w'.cell? ⟨f, 6, none⟩ = some (.int .i64 ko) ∧ AC w g h a b c d e f u0 u1 u2 u3 un ud uo v0 v1 v2 v3 vn vd vo p0 p1 p2 p3 pn pd po q0 q1 q2 q3 qn qd qo k0 k1 k2 k3 kn kd ko w'
section
variable {w w' w2 : World} {g h a b c d e f : Nat} {u0 u1 u2 u3 un ud uo v0 v1 v2 v3 vn vd vo p0 p1 p2 p3 pn pd po q0 q1 q2 q3 qn qd qo k0 k1 k2 k3 kn kd ko : Int}
theorem ac_of (t : AC w g h a b c d e f u0 u1 u2 u3 un ud uo v0 v1 v2 v3 vn vd vo p0 p1 p2 p3 pn pd po q0 q1 q2 q3 qn qd qo k0 k1 k2 k3 kn kd ko w') : A56 w g h a b c d e f u0 u1 u2 u3 un ud uo v0 v1 v2 v3 vn vd vo p0 p1 p2 p3 pn pd po q0 q1 q2 q3 qn qd qo k0 k1 k2 k3 kn kd ko w' := ⟨t.U.c0, t.U.c1, t.U.c2, t.U.c3, t.U.c4, t.U.c5, t.U.c6, t.V.c0, t.V.c1, t.V.c2, t.V.c3, t.V.c4, t.V.c5, t.V.c6, t.P.c0, t.P.c1, t.P.c2, t.P.c3, t.P.c4, t.P.c5, t.P.c6, t.O.c0, t.O.c1, t.O.c2, t.O.c3, t.O.c4, t.O.c5, t.O.c6, t.Q.c0, t.Q.c1, t.Q.c2, t.Q.c3, t.Q.c4, t.Q.c5, t.Q.c6, t.R.c0, t.R.c1, t.R.c2, t.R.c3, t.R.c4, t.R.c5, t.R.c6, t.D.c0, t.D.c1, t.D.c2, t.D.c3, t.D.c4, t.D.c5, t.D.c6, t.E.c0, t.E.c1, t.E.c2, t.E.c3, t.E.c4, t.E.c5, t.E.c6, t⟩
theorem A56.ac (cc : A56 w g h a b c d e f u0 u1 u2 u3 un ud uo v0 v1 v2 v3 vn vd vo p0 p1 p2 p3 pn pd po q0 q1 q2 q3 qn qd qo k0 k1 k2 k3 kn kd ko w') : AC w g h a b c d e f u0 u1 u2 u3 un ud uo v0 v1 v2 v3 vn vd vo p0 p1 p2 p3 pn pd po q0 q1 q2 q3 qn qd qo k0 k1 k2 k3 kn kd ko w' := cc.2.2.2.2.2.2.2.2.2.2.2.2.2.2.2.2.2.2.2.2.2.2.2.2.2.2.2.2.2.2.2.2.2.2.2.2.2.2.2.2.2.2.2.2.2.2.2.2.2.2.2.2.2.2.2.2
theorem ac_keep (hb : Below w'.heap.size w' w2) (cc : A56 w g h a b c d e f u0 u1 u2 u3 un ud uo v0 v1 v2 v3 vn vd vo p0 p1 p2 p3 pn pd po q0 q1 q2 q3 qn qd qo k0 k1 k2 k3 kn kd ko w') : A56 w g h a b c d e f u0 u1 u2 u3 un ud uo v0 v1 v2 v3 vn vd vo p0 p1 p2 p3 pn pd po q0 q1 q2 q3 qn qd qo k0 k1 k2 k3 kn kd ko w2 := ac_of (cc.ac.keep hb)
theorem ac_drew (cc : A56 w g h a b c d e f u0 u1 u2 u3 un ud uo v0 v1 v2 v3 vn vd vo p0 p1 p2 p3 pn pd po q0 q1 q2 q3 qn qd qo k0 k1 k2 k3 kn kd ko w') : A56 w g h a b c d e f u0 u1 u2 u3 un ud uo v0 v1 v2 v3 vn vd vo p0 p1 p2 p3 pn pd po q0 q1 q2 q3 qn qd qo k0 k1 k2 k3 kn kd ko w'.drew := ac_of cc.ac.drew
theorem ac_bel (cc : A56 w g h a b c d e f u0 u1 u2 u3 un ud uo v0 v1 v2 v3 vn vd vo p0 p1 p2 p3 pn pd po q0 q1 q2 q3 qn qd qo k0 k1 k2 k3 kn kd ko w') : Below w.heap.size w w' := cc.ac.bel
end
set_option maxRecDepth 100000 in
set_option maxHeartbeats 8000000 in
theorem comb_law (u0 u1 u2 u3 un ud uo v0 v1 v2 v3 vn vd vo : Int) (w : World) (hg : Gu w) : Calls Tryz.prog 5 #[.agg #[.int .i64 u0, .int .i64 u1, .int .i64 u2, .int .i64 u3, .int .i64 un, .int .i64 ud, .int .i64 uo], .agg #[.int .i64 v0, .int .i64 v1, .int .i64 v2, .int .i64 v3, .int .i64 vn, .int .i64 vd, .int .i64 vo]] w fun e w' => e = .returned (.bool true) ∧ Below w.heap.size w w' := by
  have HA := Lib.hid awake_yes
  obtain ⟨⟨⟨p0, p1, p2, p3, pn, pd, po⟩, E1⟩, hx1⟩ : ∃ r, r = mulR ⟨u0, u1, u2, u3, un, ud, uo⟩ ⟨v0, v1, v2, v3, vn, vd, vo⟩ := ⟨_, rfl⟩
  obtain ⟨⟨⟨q0, q1, q2, q3, qn, qd, qo⟩, E2⟩, hx2⟩ : ∃ r, r = divR ⟨u0, u1, u2, u3, un, ud, uo⟩ ⟨v0, v1, v2, v3, vn, vd, vo⟩ := ⟨_, rfl⟩
  obtain ⟨⟨⟨k0, k1, k2, k3, kn, kd, ko⟩, E3⟩, hx3⟩ : ∃ r, r = rdeltaU ⟨u0, u1, u2, u3, un, ud, uo⟩ := ⟨_, rfl⟩
  obtain ⟨Cm, hcm⟩ : ∃ r, r = compB ⟨u0, u1, u2, u3, un, ud, uo⟩ ⟨v0, v1, v2, v3, vn, vd, vo⟩ := ⟨_, rfl⟩
  have kk1 := fun w => mul_any ⟨u0, u1, u2, u3, un, ud, uo⟩ ⟨v0, v1, v2, v3, vn, vd, vo⟩ w
  have kk2 := fun w => rComb_pos ⟨u0, u1, u2, u3, un, ud, uo⟩ ⟨v0, v1, v2, v3, vn, vd, vo⟩ w
  have kk3 := fun w => div_any ⟨u0, u1, u2, u3, un, ud, uo⟩ ⟨v0, v1, v2, v3, vn, vd, vo⟩ w
  have kk4 := fun w => rComb_neg ⟨u0, u1, u2, u3, un, ud, uo⟩ ⟨v0, v1, v2, v3, vn, vd, vo⟩ w
  have kk5 := fun w => delta_pair ⟨u0, u1, u2, u3, un, ud, uo⟩ w
  have kk6 := fun w => rdelta_any u0 u1 u2 u3 un ud uo w
  have kk7 := fun w => compat_any u0 u1 u2 u3 un ud uo v0 v1 v2 v3 vn vd vo w
  have kk8 := fun w => rcompat_any u0 u1 u2 u3 un ud uo v0 v1 v2 v3 vn vd vo w
  rw [← hx1] at kk1 kk2
  rw [← hx2] at kk3 kk4
  rw [← hx3] at kk5 kk6
  rw [← hcm] at kk7 kk8
  have HK1 := Lib.hid kk1
  have HK2 := Lib.hid kk2
  have HK3 := Lib.hid kk3
  have HK4 := Lib.hid kk4
  have HK5 := Lib.hid kk5
  have HK6 := Lib.hid kk6
  have HK7 := Lib.hid kk7
  have HK8 := Lib.hid kk8
  clear kk1 kk2 kk3 kk4 kk5 kk6 kk7 kk8 hx1 hx2 hx3 hcm
  have HG := Lib.hid hg
  clear hg
  go_enter Tryz.func5, Tryz.ntmps5
  go_upto_region 1 with fail
  obtain ⟨W, g, h, hW, hg0, hh0, U1, V1, B1, sz⟩ := two_boxes w 29 u0 u1 u2 u3 un ud uo v0 v1 v2 v3 vn vd vo
  rw [← hW]
  try rw [← hh0]
  try rw [← hg0]
  have HU := Lib.hid U1
  have HV := Lib.hid V1
  have HB := Lib.hid B1
  clear hW hg0 hh0 sz U1 V1 B1
  obtain ⟨ux0, ux1, ux2, ux3, ux4, ux5, ux6, uxz⟩ := HU.out
  obtain ⟨vx0, vx1, vx2, vx3, vx4, vx5, vx6, vxz⟩ := HV.out
  go_wp2_with fail
  refine (HK1.out _).mono ?_
  rintro e w1 ⟨rfl, hb⟩
  clear ux0 ux1 ux2 ux3 ux4 ux5 ux6 uxz
  clear vx0 vx1 vx2 vx3 vx4 vx5 vx6 vxz
  have hk := hb.alloc hb.size (Obj.cells #[.int .i64 p0, .int .i64 p1, .int .i64 p2, .int .i64 p3, .int .i64 pn, .int .i64 pd, .int .i64 po] 25)
  have HU1 := Lib.hid (HU.out.keep hk)
  have HV1 := Lib.hid (HV.out.keep hk)
  have HP1 := Lib.hid (unit_freshT w1 25 p0 p1 p2 p3 pn pd po)
  have HB1 := Lib.hid (HB.out.trans (hk.mono HB.out.size))
  clear hb hk HU HV HB
  obtain ⟨ux0, ux1, ux2, ux3, ux4, ux5, ux6, uxz⟩ := HU1.out
  obtain ⟨vx0, vx1, vx2, vx3, vx4, vx5, vx6, vxz⟩ := HV1.out
  go_wp2_with fail
  refine (HK2.out _).mono ?_
  rintro e w2 ⟨rfl, hb⟩
  clear ux0 ux1 ux2 ux3 ux4 ux5 ux6 uxz
  clear vx0 vx1 vx2 vx3 vx4 vx5 vx6 vxz
  have hk := hb.alloc hb.size (Obj.cells #[.int .i64 p0, .int .i64 p1, .int .i64 p2, .int .i64 p3, .int .i64 pn, .int .i64 pd, .int .i64 po] 29)
  have HU2 := Lib.hid (HU1.out.keep hk)
  have HV2 := Lib.hid (HV1.out.keep hk)
  have HP2 := Lib.hid (HP1.out.keep hk)
  have HO2 := Lib.hid (unit_freshT w2 29 p0 p1 p2 p3 pn pd po)
  have HB2 := Lib.hid (HB1.out.trans (hk.mono HB1.out.size))
  clear hb hk HU1 HV1 HP1 HB1
  obtain ⟨ux0, ux1, ux2, ux3, ux4, ux5, ux6, uxz⟩ := HU2.out
  obtain ⟨vx0, vx1, vx2, vx3, vx4, vx5, vx6, vxz⟩ := HV2.out
  go_wp2_with fail
  refine (HK3.out _).mono ?_
  rintro e w3 ⟨rfl, hb⟩
  clear ux0 ux1 ux2 ux3 ux4 ux5 ux6 uxz
  clear vx0 vx1 vx2 vx3 vx4 vx5 vx6 vxz
  have hk := hb.alloc hb.size (Obj.cells #[.int .i64 q0, .int .i64 q1, .int .i64 q2, .int .i64 q3, .int .i64 qn, .int .i64 qd, .int .i64 qo] 25)
  have HU3 := Lib.hid (HU2.out.keep hk)
  have HV3 := Lib.hid (HV2.out.keep hk)
  have HP3 := Lib.hid (HP2.out.keep hk)
  have HO3 := Lib.hid (HO2.out.keep hk)
  have HQ3 := Lib.hid (unit_freshT w3 25 q0 q1 q2 q3 qn qd qo)
  have HB3 := Lib.hid (HB2.out.trans (hk.mono HB2.out.size))
  clear hb hk HU2 HV2 HP2 HO2 HB2
  obtain ⟨ux0, ux1, ux2, ux3, ux4, ux5, ux6, uxz⟩ := HU3.out
  obtain ⟨vx0, vx1, vx2, vx3, vx4, vx5, vx6, vxz⟩ := HV3.out
  go_wp2_with fail
  refine (HK4.out _).mono ?_
  rintro e w4 ⟨rfl, hb⟩
  clear ux0 ux1 ux2 ux3 ux4 ux5 ux6 uxz
  clear vx0 vx1 vx2 vx3 vx4 vx5 vx6 vxz
  have hk := hb.alloc hb.size (Obj.cells #[.int .i64 q0, .int .i64 q1, .int .i64 q2, .int .i64 q3, .int .i64 qn, .int .i64 qd, .int .i64 qo] 29)
  have HU4 := Lib.hid (HU3.out.keep hk)
  have HV4 := Lib.hid (HV3.out.keep hk)
  have HP4 := Lib.hid (HP3.out.keep hk)
  have HO4 := Lib.hid (HO3.out.keep hk)
  have HQ4 := Lib.hid (HQ3.out.keep hk)
  have HR4 := Lib.hid (unit_freshT w4 29 q0 q1 q2 q3 qn qd qo)
  have HB4 := Lib.hid (HB3.out.trans (hk.mono HB3.out.size))
  clear hb hk HU3 HV3 HP3 HO3 HQ3 HB3
  obtain ⟨ux0, ux1, ux2, ux3, ux4, ux5, ux6, uxz⟩ := HU4.out
  go_wp2_with fail
  refine (HK5.out _).mono ?_
  rintro e w5 ⟨rfl, hb⟩
  clear ux0 ux1 ux2 ux3 ux4 ux5 ux6 uxz
  have hk := hb.alloc hb.size (Obj.cells #[.int .i64 k0, .int .i64 k1, .int .i64 k2, .int .i64 k3, .int .i64 kn, .int .i64 kd, .int .i64 ko] 25)
  have HU5 := Lib.hid (HU4.out.keep hk)
  have HV5 := Lib.hid (HV4.out.keep hk)
  have HP5 := Lib.hid (HP4.out.keep hk)
  have HO5 := Lib.hid (HO4.out.keep hk)
  have HQ5 := Lib.hid (HQ4.out.keep hk)
  have HR5 := Lib.hid (HR4.out.keep hk)
  have HD5 := Lib.hid (unit_freshT w5 25 k0 k1 k2 k3 kn kd ko)
  have HB5 := Lib.hid (HB4.out.trans (hk.mono HB4.out.size))
  clear hb hk HU4 HV4 HP4 HO4 HQ4 HR4 HB4
  obtain ⟨ux0, ux1, ux2, ux3, ux4, ux5, ux6, uxz⟩ := HU5.out
  go_wp2_with fail
  refine (HK6.out _).mono ?_
  rintro e w6 ⟨rfl, hb⟩
  clear ux0 ux1 ux2 ux3 ux4 ux5 ux6 uxz
  have hk := hb.alloc hb.size (Obj.cells #[.int .i64 k0, .int .i64 k1, .int .i64 k2, .int .i64 k3, .int .i64 kn, .int .i64 kd, .int .i64 ko] 29)
  have HU6 := Lib.hid (HU5.out.keep hk)
  have HV6 := Lib.hid (HV5.out.keep hk)
  have HP6 := Lib.hid (HP5.out.keep hk)
  have HO6 := Lib.hid (HO5.out.keep hk)
  have HQ6 := Lib.hid (HQ5.out.keep hk)
  have HR6 := Lib.hid (HR5.out.keep hk)
  have HD6 := Lib.hid (HD5.out.keep hk)
  have HE6 := Lib.hid (unit_freshT w6 29 k0 k1 k2 k3 kn kd ko)
  have HB6 := Lib.hid (HB5.out.trans (hk.mono HB5.out.size))
  clear hb hk HU5 HV5 HP5 HO5 HQ5 HR5 HD5 HB5
  go_wp2_with fail
  obtain ⟨W7, hW7⟩ : ∃ x, x = w6.alloc (Obj.cells #[.int .i64 k0, .int .i64 k1, .int .i64 k2, .int .i64 k3, .int .i64 kn, .int .i64 kd, .int .i64 ko] 29) := ⟨_, rfl⟩
  obtain ⟨f, hf⟩ : ∃ x, x = w6.heap.size := ⟨_, rfl⟩
  obtain ⟨e, he⟩ : ∃ x, x = w5.heap.size := ⟨_, rfl⟩
  obtain ⟨d, hd⟩ : ∃ x, x = w4.heap.size := ⟨_, rfl⟩
  obtain ⟨c, hc⟩ : ∃ x, x = w3.heap.size := ⟨_, rfl⟩
  obtain ⟨b, hb⟩ : ∃ x, x = w2.heap.size := ⟨_, rfl⟩
  obtain ⟨a, ha⟩ : ∃ x, x = w1.heap.size := ⟨_, rfl⟩
  rw [← hW7]
  try rw [← hf]
  try rw [← he]
  try rw [← hd]
  try rw [← hc]
  try rw [← hb]
  try rw [← ha]
  have HF := Lib.hid (show AC w g h a b c d e f u0 u1 u2 u3 un ud uo v0 v1 v2 v3 vn vd vo p0 p1 p2 p3 pn pd po q0 q1 q2 q3 qn qd qo k0 k1 k2 k3 kn kd ko W7 from ⟨by rw [hW7]; exact HU6.out, by rw [hW7]; exact HV6.out, by rw [hW7, ha]; exact HP6.out, by rw [hW7, hb]; exact HO6.out, by rw [hW7, hc]; exact HQ6.out, by rw [hW7, hd]; exact HR6.out, by rw [hW7, he]; exact HD6.out, by rw [hW7, hf]; exact HE6.out, by rw [hW7]; exact HB6.out⟩)
  clear hW7 hf he hd hc hb ha HU6 HV6 HP6 HO6 HQ6 HR6 HD6 HE6 HB6
  have HD := Lib.hid (ac_of HF.out)
  have HDD := Lib.hid (ac_of HF.out.drew)
  unfold A56 at HD HDD
  have e1 := fun w => (eq_runit p0 p1 p2 p3 pn pd po p0 p1 p2 p3 pn pd po w).trans (show _ = Result.ok true w by simp)
  have e2 := fun w => (eq_runit q0 q1 q2 q3 qn qd qo q0 q1 q2 q3 qn qd qo w).trans (show _ = Result.ok true w by simp)
  have e3 := fun w => (eq_runit k0 k1 k2 k3 kn kd ko k0 k1 k2 k3 kn kd ko w).trans (show _ = Result.ok true w by simp)
  go_region_held3 (fun w' => w'.cell? ⟨g, 0, none⟩ = some (.int .i64 u0) ∧ w'.cell? ⟨g, 1, none⟩ = some (.int .i64 u1) ∧ w'.cell? ⟨g, 2, none⟩ = some (.int .i64 u2) ∧ w'.cell? ⟨g, 3, none⟩ = some (.int .i64 u3) ∧ w'.cell? ⟨g, 4, none⟩ = some (.int .i64 un) ∧ w'.cell? ⟨g, 5, none⟩ = some (.int .i64 ud) ∧ w'.cell? ⟨g, 6, none⟩ = some (.int .i64 uo) ∧ w'.cell? ⟨h, 0, none⟩ = some (.int .i64 v0) ∧ w'.cell? ⟨h, 1, none⟩ = some (.int .i64 v1) ∧ w'.cell? ⟨h, 2, none⟩ = some (.int .i64 v2) ∧ w'.cell? ⟨h, 3, none⟩ = some (.int .i64 v3) ∧ w'.cell? ⟨h, 4, none⟩ = some (.int .i64 vn) ∧ w'.cell? ⟨h, 5, none⟩ = some (.int .i64 vd) ∧ w'.cell? ⟨h, 6, none⟩ = some (.int .i64 vo) ∧ w'.cell? ⟨a, 0, none⟩ = some (.int .i64 p0) ∧ w'.cell? ⟨a, 1, none⟩ = some (.int .i64 p1) ∧ w'.cell? ⟨a, 2, none⟩ = some (.int .i64 p2) ∧ w'.cell? ⟨a, 3, none⟩ = some (.int .i64 p3) ∧ w'.cell? ⟨a, 4, none⟩ = some (.int .i64 pn) ∧ w'.cell? ⟨a, 5, none⟩ = some (.int .i64 pd) ∧ w'.cell? ⟨a, 6, none⟩ = some (.int .i64 po) ∧ w'.cell? ⟨b, 0, none⟩ = some (.int .i64 p0) ∧ w'.cell? ⟨b, 1, none⟩ = some (.int .i64 p1) ∧ w'.cell? ⟨b, 2, none⟩ = some (.int .i64 p2) ∧ w'.cell? ⟨b, 3, none⟩ = some (.int .i64 p3) ∧ w'.cell? ⟨b, 4, none⟩ = some (.int .i64 pn) ∧ w'.cell? ⟨b, 5, none⟩ = some (.int .i64 pd) ∧ w'.cell? ⟨b, 6, none⟩ = some (.int .i64 po) ∧ w'.cell? ⟨c, 0, none⟩ = some (.int .i64 q0) ∧ w'.cell? ⟨c, 1, none⟩ = some (.int .i64 q1) ∧ w'.cell? ⟨c, 2, none⟩ = some (.int .i64 q2) ∧ w'.cell? ⟨c, 3, none⟩ = some (.int .i64 q3) ∧ w'.cell? ⟨c, 4, none⟩ = some (.int .i64 qn) ∧ w'.cell? ⟨c, 5, none⟩ = some (.int .i64 qd) ∧ w'.cell? ⟨c, 6, none⟩ = some (.int .i64 qo) ∧ w'.cell? ⟨d, 0, none⟩ = some (.int .i64 q0) ∧ w'.cell? ⟨d, 1, none⟩ = some (.int .i64 q1) ∧ w'.cell? ⟨d, 2, none⟩ = some (.int .i64 q2) ∧ w'.cell? ⟨d, 3, none⟩ = some (.int .i64 q3) ∧ w'.cell? ⟨d, 4, none⟩ = some (.int .i64 qn) ∧ w'.cell? ⟨d, 5, none⟩ = some (.int .i64 qd) ∧ w'.cell? ⟨d, 6, none⟩ = some (.int .i64 qo) ∧ w'.cell? ⟨e, 0, none⟩ = some (.int .i64 k0) ∧ w'.cell? ⟨e, 1, none⟩ = some (.int .i64 k1) ∧ w'.cell? ⟨e, 2, none⟩ = some (.int .i64 k2) ∧ w'.cell? ⟨e, 3, none⟩ = some (.int .i64 k3) ∧ w'.cell? ⟨e, 4, none⟩ = some (.int .i64 kn) ∧ w'.cell? ⟨e, 5, none⟩ = some (.int .i64 kd) ∧ w'.cell? ⟨e, 6, none⟩ = some (.int .i64 ko) ∧ w'.cell? ⟨f, 0, none⟩ = some (.int .i64 k0) ∧ w'.cell? ⟨f, 1, none⟩ = some (.int .i64 k1) ∧ w'.cell? ⟨f, 2, none⟩ = some (.int .i64 k2) ∧ w'.cell? ⟨f, 3, none⟩ = some (.int .i64 k3) ∧ w'.cell? ⟨f, 4, none⟩ = some (.int .i64 kn) ∧ w'.cell? ⟨f, 5, none⟩ = some (.int .i64 kd) ∧ w'.cell? ⟨f, 6, none⟩ = some (.int .i64 ko) ∧ AC w g h a b c d e f u0 u1 u2 u3 un ud uo v0 v1 v2 v3 vn vd vo p0 p1 p2 p3 pn pd po q0 q1 q2 q3 qn qd qo k0 k1 k2 k3 kn kd ko w')
    (first | (with_reducible exact HD.out) | (with_reducible exact HDD.out) | (with_reducible exact ac_keep hb2 (by assumption)) | (with_reducible exact ac_drew (by assumption)) | go_keep)
    (first | (go_at_call 7; refine (HA.out _ (HG.out.below (ac_bel (by assumption)))).mono ?_; rintro e x1 ⟨rfl, hb2⟩; have HS1 : Hid (A56 w g h a b c d e f u0 u1 u2 u3 un ud uo v0 v1 v2 v3 vn vd vo p0 p1 p2 p3 pn pd po q0 q1 q2 q3 qn qd qo k0 k1 k2 k3 kn kd ko x1) := ac_keep hb2 ‹_›) | (go_at_call 23; refine (HK7.out _).mono ?_; rintro e x2 ⟨rfl, hb2⟩; have HS2 : Hid (A56 w g h a b c d e f u0 u1 u2 u3 un ud uo v0 v1 v2 v3 vn vd vo p0 p1 p2 p3 pn pd po q0 q1 q2 q3 qn qd qo k0 k1 k2 k3 kn kd ko x2) := ac_keep hb2 ‹_›) | (go_at_call 24; refine (HK8.out _).mono ?_; rintro e x3 ⟨rfl, hb2⟩; have HS3 : Hid (A56 w g h a b c d e f u0 u1 u2 u3 un ud uo v0 v1 v2 v3 vn vd vo p0 p1 p2 p3 pn pd po q0 q1 q2 q3 qn qd qo k0 k1 k2 k3 kn kd ko x3) := ac_keep hb2 ‹_›))
  rename_i hHeld
  clear hHeld
  have hB := HS3.out.ac.bel
  go_wp2_with fail
  go_ret
  first | exact ⟨rfl, hB⟩ | exact ⟨rfl, hB.drew⟩ | exact ⟨by simp, hB⟩ | exact ⟨by simp, hB.drew⟩

end Go.Proofs.YtjkdcbkfcmaadaaGreatDoor
