/- The law UnitsAlgebra. -/
import Derived.Test.YtjkdcbkfcmaadaaDoorLm
import Derived.Test.YtjkdcbkfcmaadaaDoorPc
import Derived.Deep.Cut
namespace Go.Proofs.YtjkdcbkfcmaadaaDoor
open Go.RowKit Go.Shelf

theorem three_boxes (w : World) (t : TypeId) (u0 u1 u2 u3 un ud uo v0 v1 v2 v3 vn vd vo z0 z1 z2 z3 zn zd zo : Int) : ∃ (W : World) (g h f : Nat), W = ((w.alloc (Obj.cells #[.int .i64 u0, .int .i64 u1, .int .i64 u2, .int .i64 u3, .int .i64 un, .int .i64 ud, .int .i64 uo] t)).alloc (Obj.cells #[.int .i64 v0, .int .i64 v1, .int .i64 v2, .int .i64 v3, .int .i64 vn, .int .i64 vd, .int .i64 vo] t)).alloc (Obj.cells #[.int .i64 z0, .int .i64 z1, .int .i64 z2, .int .i64 z3, .int .i64 zn, .int .i64 zd, .int .i64 zo] t) ∧ g = w.heap.size ∧ h = w.heap.size + 1 ∧ f = w.heap.size + 2 ∧ UnitAt W g u0 u1 u2 u3 un ud uo ∧ UnitAt W h v0 v1 v2 v3 vn vd vo ∧ UnitAt W f z0 z1 z2 z3 zn zd zo ∧ Below w.heap.size w W ∧ W.heap.size = w.heap.size + 3 := by
  obtain ⟨W, g, h, hW, hg, hh, U, V, B, sz⟩ := two_boxes w t u0 u1 u2 u3 un ud uo v0 v1 v2 v3 vn vd vo
  have a := unit_freshT W t z0 z1 z2 z3 zn zd zo
  rw [sz] at a
  have b1 := (Below.refl W.heap.size W).alloc (Nat.le_refl _) (Obj.cells #[.int .i64 z0, .int .i64 z1, .int .i64 z2, .int .i64 z3, .int .i64 zn, .int .i64 zd, .int .i64 zo] t)
  exact ⟨_, g, h, _, by rw [← hW], hg, hh, rfl, U.keep b1, V.keep b1, a, B.alloc B.size _, by rw [World.size_alloc, sz]⟩
theorem boxes3 (w : World) (t : TypeId) (u0 u1 u2 u3 un ud uo v0 v1 v2 v3 vn vd vo z0 z1 z2 z3 zn zd zo : Int) : UnitAt (((w.alloc (Obj.cells #[.int .i64 u0, .int .i64 u1, .int .i64 u2, .int .i64 u3, .int .i64 un, .int .i64 ud, .int .i64 uo] t)).alloc (Obj.cells #[.int .i64 v0, .int .i64 v1, .int .i64 v2, .int .i64 v3, .int .i64 vn, .int .i64 vd, .int .i64 vo] t)).alloc (Obj.cells #[.int .i64 z0, .int .i64 z1, .int .i64 z2, .int .i64 z3, .int .i64 zn, .int .i64 zd, .int .i64 zo] t)) w.heap.size u0 u1 u2 u3 un ud uo ∧ UnitAt (((w.alloc (Obj.cells #[.int .i64 u0, .int .i64 u1, .int .i64 u2, .int .i64 u3, .int .i64 un, .int .i64 ud, .int .i64 uo] t)).alloc (Obj.cells #[.int .i64 v0, .int .i64 v1, .int .i64 v2, .int .i64 v3, .int .i64 vn, .int .i64 vd, .int .i64 vo] t)).alloc (Obj.cells #[.int .i64 z0, .int .i64 z1, .int .i64 z2, .int .i64 z3, .int .i64 zn, .int .i64 zd, .int .i64 zo] t)) (w.heap.size + 1) v0 v1 v2 v3 vn vd vo ∧ UnitAt (((w.alloc (Obj.cells #[.int .i64 u0, .int .i64 u1, .int .i64 u2, .int .i64 u3, .int .i64 un, .int .i64 ud, .int .i64 uo] t)).alloc (Obj.cells #[.int .i64 v0, .int .i64 v1, .int .i64 v2, .int .i64 v3, .int .i64 vn, .int .i64 vd, .int .i64 vo] t)).alloc (Obj.cells #[.int .i64 z0, .int .i64 z1, .int .i64 z2, .int .i64 z3, .int .i64 zn, .int .i64 zd, .int .i64 zo] t)) (w.heap.size + 1 + 1) z0 z1 z2 z3 zn zd zo ∧ Below w.heap.size w (((w.alloc (Obj.cells #[.int .i64 u0, .int .i64 u1, .int .i64 u2, .int .i64 u3, .int .i64 un, .int .i64 ud, .int .i64 uo] t)).alloc (Obj.cells #[.int .i64 v0, .int .i64 v1, .int .i64 v2, .int .i64 v3, .int .i64 vn, .int .i64 vd, .int .i64 vo] t)).alloc (Obj.cells #[.int .i64 z0, .int .i64 z1, .int .i64 z2, .int .i64 z3, .int .i64 zn, .int .i64 zd, .int .i64 zo] t)) := by
  obtain ⟨W, g, h, f, hW, rfl, rfl, rfl, U, V, Z, B, _⟩ := three_boxes w t u0 u1 u2 u3 un ud uo v0 v1 v2 v3 vn vd vo z0 z1 z2 z3 zn zd zo
  rw [← hW]
  exact ⟨U, V, Z, B⟩
def T3 (g h f : Nat) (u0 u1 u2 u3 un ud uo v0 v1 v2 v3 vn vd vo z0 z1 z2 z3 zn zd zo : Int) (w' : World) : Prop := UnitAt w' g u0 u1 u2 u3 un ud uo ∧ UnitAt w' h v0 v1 v2 v3 vn vd vo ∧ UnitAt w' f z0 z1 z2 z3 zn zd zo
section
variable {g h f : Nat} {u0 u1 u2 u3 un ud uo v0 v1 v2 v3 vn vd vo z0 z1 z2 z3 zn zd zo : Int} {w' : World}
theorem t3_cells (t : T3 g h f u0 u1 u2 u3 un ud uo v0 v1 v2 v3 vn vd vo z0 z1 z2 z3 zn zd zo w') : w'.cell? ⟨g, 0, none⟩ = some (.int .i64 u0) ∧ w'.cell? ⟨g, 1, none⟩ = some (.int .i64 u1) ∧ w'.cell? ⟨g, 2, none⟩ = some (.int .i64 u2) ∧ w'.cell? ⟨g, 3, none⟩ = some (.int .i64 u3) ∧ w'.cell? ⟨g, 4, none⟩ = some (.int .i64 un) ∧ w'.cell? ⟨g, 5, none⟩ = some (.int .i64 ud) ∧ w'.cell? ⟨g, 6, none⟩ = some (.int .i64 uo) ∧ w'.cell? ⟨h, 0, none⟩ = some (.int .i64 v0) ∧ w'.cell? ⟨h, 1, none⟩ = some (.int .i64 v1) ∧ w'.cell? ⟨h, 2, none⟩ = some (.int .i64 v2) ∧ w'.cell? ⟨h, 3, none⟩ = some (.int .i64 v3) ∧ w'.cell? ⟨h, 4, none⟩ = some (.int .i64 vn) ∧ w'.cell? ⟨h, 5, none⟩ = some (.int .i64 vd) ∧ w'.cell? ⟨h, 6, none⟩ = some (.int .i64 vo) ∧ w'.cell? ⟨f, 0, none⟩ = some (.int .i64 z0) ∧ w'.cell? ⟨f, 1, none⟩ = some (.int .i64 z1) ∧ w'.cell? ⟨f, 2, none⟩ = some (.int .i64 z2) ∧ w'.cell? ⟨f, 3, none⟩ = some (.int .i64 z3) ∧ w'.cell? ⟨f, 4, none⟩ = some (.int .i64 zn) ∧ w'.cell? ⟨f, 5, none⟩ = some (.int .i64 zd) ∧ w'.cell? ⟨f, 6, none⟩ = some (.int .i64 zo) :=
  ⟨t.1.c0, t.1.c1, t.1.c2, t.1.c3, t.1.c4, t.1.c5, t.1.c6, t.2.1.c0, t.2.1.c1, t.2.1.c2, t.2.1.c3, t.2.1.c4, t.2.1.c5, t.2.1.c6, t.2.2.c0, t.2.2.c1, t.2.2.c2, t.2.2.c3, t.2.2.c4, t.2.2.c5, t.2.2.c6⟩
theorem t3_drew (t : T3 g h f u0 u1 u2 u3 un ud uo v0 v1 v2 v3 vn vd vo z0 z1 z2 z3 zn zd zo w') : T3 g h f u0 u1 u2 u3 un ud uo v0 v1 v2 v3 vn vd vo z0 z1 z2 z3 zn zd zo w'.drew := ⟨t.1.drew, t.2.1.drew, t.2.2.drew⟩
theorem t3_alloc {o : Obj} (t : T3 g h f u0 u1 u2 u3 un ud uo v0 v1 v2 v3 vn vd vo z0 z1 z2 z3 zn zd zo w') : T3 g h f u0 u1 u2 u3 un ud uo v0 v1 v2 v3 vn vd vo z0 z1 z2 z3 zn zd zo (w'.alloc o) := by
  have hk := (Below.refl w'.heap.size w').alloc (Nat.le_refl _) o
  exact ⟨t.1.keep hk, t.2.1.keep hk, t.2.2.keep hk⟩
theorem UnitAt.set1 {b k : Nat} {c : Nat} {x : Value} {p0 p1 p2 p3 p4 p5 p6 : Int} (t : UnitAt w' b p0 p1 p2 p3 p4 p5 p6) (hne : c ≠ b) : UnitAt (w'.setCell ⟨c, k, none⟩ x) b p0 p1 p2 p3 p4 p5 p6 := by
  have h : ∀ j, (w'.setCell ⟨c, k, none⟩ x).cell? ⟨b, j, none⟩ = w'.cell? ⟨b, j, none⟩ := fun j => World.cell?_setCell_other _ _ _ _ (fun e => hne (congrArg Addr.block e))
  exact ⟨(h 0).trans t.c0, (h 1).trans t.c1, (h 2).trans t.c2, (h 3).trans t.c3, (h 4).trans t.c4, (h 5).trans t.c5, (h 6).trans t.c6, fun o => by rw [World.frozen?_setCell]; exact t.fz o⟩
theorem t3_set {b k : Nat} {x : Value} (t : T3 g h f u0 u1 u2 u3 un ud uo v0 v1 v2 v3 vn vd vo z0 z1 z2 z3 zn zd zo w') (hb : g ≠ b ∧ h ≠ b ∧ f ≠ b) : T3 g h f u0 u1 u2 u3 un ud uo v0 v1 v2 v3 vn vd vo z0 z1 z2 z3 zn zd zo (w'.setCell ⟨b, k, none⟩ x) :=
  ⟨t.1.set1 hb.1.symm, t.2.1.set1 hb.2.1.symm, t.2.2.set1 hb.2.2.symm⟩
end
structure AF (w : World) (p q r b s o : Nat) (u0 u1 u2 u3 un ud uo v0 v1 v2 v3 vn vd vo z0 z1 z2 z3 zn zd zo j0 j1 j2 j3 jn jd jo : Int) (w' : World) : Prop where
  U : UnitAt w' p u0 u1 u2 u3 un ud uo
  V : UnitAt w' q v0 v1 v2 v3 vn vd vo
  Z : UnitAt w' r z0 z1 z2 z3 zn zd zo
  P : UnitAt w' s j0 j1 j2 j3 jn jd jo
  B : UnitAt w' b u0 u1 u2 u3 un ud uo
  O : UnitAt w' o 0 0 0 0 1 1 0
  bel : Below w.heap.size w w'
section
variable {w w' w2 : World} {p q r b s o : Nat} {u0 u1 u2 u3 un ud uo v0 v1 v2 v3 vn vd vo z0 z1 z2 z3 zn zd zo j0 j1 j2 j3 jn jd jo : Int}
theorem AF.keep (t : AF w p q r b s o u0 u1 u2 u3 un ud uo v0 v1 v2 v3 vn vd vo z0 z1 z2 z3 zn zd zo j0 j1 j2 j3 jn jd jo w') (hb : Below w'.heap.size w' w2) : AF w p q r b s o u0 u1 u2 u3 un ud uo v0 v1 v2 v3 vn vd vo z0 z1 z2 z3 zn zd zo j0 j1 j2 j3 jn jd jo w2 :=
  ⟨t.U.keep hb, t.V.keep hb, t.Z.keep hb, t.P.keep hb, t.B.keep hb, t.O.keep hb, t.bel.trans (hb.mono t.bel.size)⟩
theorem AF.drew (t : AF w p q r b s o u0 u1 u2 u3 un ud uo v0 v1 v2 v3 vn vd vo z0 z1 z2 z3 zn zd zo j0 j1 j2 j3 jn jd jo w') : AF w p q r b s o u0 u1 u2 u3 un ud uo v0 v1 v2 v3 vn vd vo z0 z1 z2 z3 zn zd zo j0 j1 j2 j3 jn jd jo w'.drew := ⟨t.U.drew, t.V.drew, t.Z.drew, t.P.drew, t.B.drew, t.O.drew, t.bel.drew⟩
end
abbrev A10 (w : World) (p q r b s o : Nat) (u0 u1 u2 u3 un ud uo v0 v1 v2 v3 vn vd vo z0 z1 z2 z3 zn zd zo j0 j1 j2 j3 jn jd jo : Int) (w' : World) : Prop := w'.cell? ⟨b, 0, none⟩ = some (.int .i64 u0) ∧ w'.cell? ⟨b, 1, none⟩ = some (.int .i64 u1) ∧ w'.cell? ⟨b, 2, none⟩ = some (.int .i64 u2) ∧ w'.cell? ⟨b, 3, none⟩ = some (.int .i64 u3) ∧ w'.cell? ⟨b, 4, none⟩ = some (.int .i64 un) ∧ w'.cell? ⟨b, 5, none⟩ = some (.int .i64 ud) ∧ w'.cell? ⟨b, 6, none⟩ = some (.int .i64 uo) ∧ w'.cell? ⟨p, 0, none⟩ = some (.int .i64 u0) ∧ w'.cell? ⟨p, 1, none⟩ = some (.int .i64 u1) ∧ w'.cell? ⟨p, 2, none⟩ = some (.int .i64 u2) ∧ w'.cell? ⟨p, 3, none⟩ = some (.int .i64 u3) ∧ w'.cell? ⟨p, 4, none⟩ = some (.int .i64 un) ∧ w'.cell? ⟨p, 5, none⟩ = some (.int .i64 ud) ∧ w'.cell? ⟨p, 6, none⟩ = some (.int .i64 uo) ∧ w'.cell? ⟨o, 0, none⟩ = some (.int .i64 0) ∧ w'.cell? ⟨o, 1, none⟩ = some (.int .i64 0) ∧ w'.cell? ⟨o, 2, none⟩ = some (.int .i64 0) ∧ w'.cell? ⟨o, 3, none⟩ = some (.int .i64 0) ∧ w'.cell? ⟨o, 4, none⟩ = some (.int .i64 1) ∧ w'.cell? ⟨o, 5, none⟩ = some (.int .i64 1) ∧ w'.cell? ⟨o, 6, none⟩ = some (.int .i64 0) ∧ AF w p q r b s o u0 u1 u2 u3 un ud uo v0 v1 v2 v3 vn vd vo z0 z1 z2 z3 zn zd zo j0 j1 j2 j3 jn jd jo w'
section
variable {w w' w2 : World} {p q r b s o : Nat} {u0 u1 u2 u3 un ud uo v0 v1 v2 v3 vn vd vo z0 z1 z2 z3 zn zd zo j0 j1 j2 j3 jn jd jo : Int}
theorem a10_of (t : AF w p q r b s o u0 u1 u2 u3 un ud uo v0 v1 v2 v3 vn vd vo z0 z1 z2 z3 zn zd zo j0 j1 j2 j3 jn jd jo w') : A10 w p q r b s o u0 u1 u2 u3 un ud uo v0 v1 v2 v3 vn vd vo z0 z1 z2 z3 zn zd zo j0 j1 j2 j3 jn jd jo w' :=
  ⟨t.B.c0, t.B.c1, t.B.c2, t.B.c3, t.B.c4, t.B.c5, t.B.c6, t.U.c0, t.U.c1, t.U.c2, t.U.c3, t.U.c4, t.U.c5, t.U.c6, t.O.c0, t.O.c1, t.O.c2, t.O.c3, t.O.c4, t.O.c5, t.O.c6, t⟩
theorem A10.af (c : A10 w p q r b s o u0 u1 u2 u3 un ud uo v0 v1 v2 v3 vn vd vo z0 z1 z2 z3 zn zd zo j0 j1 j2 j3 jn jd jo w') : AF w p q r b s o u0 u1 u2 u3 un ud uo v0 v1 v2 v3 vn vd vo z0 z1 z2 z3 zn zd zo j0 j1 j2 j3 jn jd jo w' := c.2.2.2.2.2.2.2.2.2.2.2.2.2.2.2.2.2.2.2.2.2
theorem a10_keep (hb : Below w'.heap.size w' w2) (c : A10 w p q r b s o u0 u1 u2 u3 un ud uo v0 v1 v2 v3 vn vd vo z0 z1 z2 z3 zn zd zo j0 j1 j2 j3 jn jd jo w') : A10 w p q r b s o u0 u1 u2 u3 un ud uo v0 v1 v2 v3 vn vd vo z0 z1 z2 z3 zn zd zo j0 j1 j2 j3 jn jd jo w2 := a10_of (c.af.keep hb)
theorem a10_drew (c : A10 w p q r b s o u0 u1 u2 u3 un ud uo v0 v1 v2 v3 vn vd vo z0 z1 z2 z3 zn zd zo j0 j1 j2 j3 jn jd jo w') : A10 w p q r b s o u0 u1 u2 u3 un ud uo v0 v1 v2 v3 vn vd vo z0 z1 z2 z3 zn zd zo j0 j1 j2 j3 jn jd jo w'.drew := a10_of c.af.drew
end
set_option maxRecDepth 100000 in
set_option maxHeartbeats 8000000 in
theorem alg_law (u0 u1 u2 u3 un ud uo v0 v1 v2 v3 vn vd vo z0 z1 z2 z3 zn zd zo : Int) (w : World) (hg : Gu w) : Calls Tryd.prog 3 #[.agg #[.int .i64 u0, .int .i64 u1, .int .i64 u2, .int .i64 u3, .int .i64 un, .int .i64 ud, .int .i64 uo], .agg #[.int .i64 v0, .int .i64 v1, .int .i64 v2, .int .i64 v3, .int .i64 vn, .int .i64 vd, .int .i64 vo], .agg #[.int .i64 z0, .int .i64 z1, .int .i64 z2, .int .i64 z3, .int .i64 zn, .int .i64 zd, .int .i64 zo]] w fun e w' => e = .returned (.bool true) ∧ Below w.heap.size w w' := by
  have HA := Lib.hid awake_yes
  have HNo := Lib.hid none_any
  obtain ⟨⟨⟨j0, j1, j2, j3, jn, jd, jo⟩, E1⟩, hx1⟩ : ∃ r, r = mulR ⟨u0, u1, u2, u3, un, ud, uo⟩ ⟨v0, v1, v2, v3, vn, vd, vo⟩ := ⟨_, rfl⟩
  have kk1 := fun w => mul_any ⟨u0, u1, u2, u3, un, ud, uo⟩ ⟨v0, v1, v2, v3, vn, vd, vo⟩ w
  have kk2 := fun w => mul_any ⟨v0, v1, v2, v3, vn, vd, vo⟩ ⟨u0, u1, u2, u3, un, ud, uo⟩ w
  rw [← hx1] at kk1
  rw [← mulR_comm, ← hx1] at kk2
  have HC1 := Lib.hid kk1
  have HC2 := Lib.hid kk2
  have HX1 := Lib.hid hx1.symm
  clear kk1 kk2 hx1
  go_enter Tryd.func3, Tryd.ntmps3
  go_wp2_with fail
  obtain ⟨W, g, h, f, hW, hg0, hh0, hf0, U1, V1, Z1, B1, sz⟩ := three_boxes w 24 u0 u1 u2 u3 un ud uo v0 v1 v2 v3 vn vd vo z0 z1 z2 z3 zn zd zo
  rw [← hW]
  try rw [← hf0]
  try rw [← hh0]
  try rw [← hg0]
  have HT := Lib.hid (show T3 g h f u0 u1 u2 u3 un ud uo v0 v1 v2 v3 vn vd vo z0 z1 z2 z3 zn zd zo W from ⟨U1, V1, Z1⟩)
  obtain ⟨a0, a1, a2, a3, a4, a5, a6, az⟩ := U1
  obtain ⟨b0, b1, b2, b3, b4, b5, b6, bz⟩ := V1
  obtain ⟨c0, c1, c2, c3, c4, c5, c6, cz⟩ := Z1
  have hgl : g < W.heap.size := by omega
  have hhl : h < W.heap.size := by omega
  have hfl : f < W.heap.size := by omega
  clear hW hg0 hh0 hf0 sz
  have HB1 := Lib.hid B1
  have HG := Lib.hid hg
  clear B1 hg
  go_cut [7, 8, 9] from 24 (fun s7 s8 s9 wc => ∃ p q r : Nat, s7 = .pointer (some ⟨p, 0, none⟩) ∧ s8 = .pointer (some ⟨q, 0, none⟩) ∧ s9 = .pointer (some ⟨r, 0, none⟩) ∧ Hid (UnitAt wc p u0 u1 u2 u3 un ud uo ∧ UnitAt wc q v0 v1 v2 v3 vn vd vo ∧ UnitAt wc r z0 z1 z2 z3 zn zd zo ∧ Below w.heap.size w wc))
  case first =>
    go_region_held3 (fun w' => w'.cell? ⟨g, 0, none⟩ = some (.int .i64 u0) ∧ w'.cell? ⟨g, 1, none⟩ = some (.int .i64 u1) ∧ w'.cell? ⟨g, 2, none⟩ = some (.int .i64 u2) ∧ w'.cell? ⟨g, 3, none⟩ = some (.int .i64 u3) ∧ w'.cell? ⟨g, 4, none⟩ = some (.int .i64 un) ∧ w'.cell? ⟨g, 5, none⟩ = some (.int .i64 ud) ∧ w'.cell? ⟨g, 6, none⟩ = some (.int .i64 uo) ∧ w'.cell? ⟨h, 0, none⟩ = some (.int .i64 v0) ∧ w'.cell? ⟨h, 1, none⟩ = some (.int .i64 v1) ∧ w'.cell? ⟨h, 2, none⟩ = some (.int .i64 v2) ∧ w'.cell? ⟨h, 3, none⟩ = some (.int .i64 v3) ∧ w'.cell? ⟨h, 4, none⟩ = some (.int .i64 vn) ∧ w'.cell? ⟨h, 5, none⟩ = some (.int .i64 vd) ∧ w'.cell? ⟨h, 6, none⟩ = some (.int .i64 vo) ∧ w'.cell? ⟨f, 0, none⟩ = some (.int .i64 z0) ∧ w'.cell? ⟨f, 1, none⟩ = some (.int .i64 z1) ∧ w'.cell? ⟨f, 2, none⟩ = some (.int .i64 z2) ∧ w'.cell? ⟨f, 3, none⟩ = some (.int .i64 z3) ∧ w'.cell? ⟨f, 4, none⟩ = some (.int .i64 zn) ∧ w'.cell? ⟨f, 5, none⟩ = some (.int .i64 zd) ∧ w'.cell? ⟨f, 6, none⟩ = some (.int .i64 zo)) (exact t3_cells (by repeat (first | (with_reducible exact HT.out) | (with_reducible apply t3_drew) | (with_reducible apply t3_alloc) | (refine t3_set ?_ (by (try simp only [World.size_alloc, World.size_drew]); omega))))) ((fail))
    all_goals
      rename_i hHeld
      clear hHeld a0 a1 a2 a3 a4 a5 a6 az b0 b1 b2 b3 b4 b5 b6 bz c0 c1 c2 c3 c4 c5 c6 cz
      go_wp2_with fail
      go_meet
    all_goals first | exact ⟨_, _, _, rfl, rfl, rfl, Lib.hid ⟨(boxes3 W 25 u0 u1 u2 u3 un ud uo v0 v1 v2 v3 vn vd vo z0 z1 z2 z3 zn zd zo).1.drew, (boxes3 W 25 u0 u1 u2 u3 un ud uo v0 v1 v2 v3 vn vd vo z0 z1 z2 z3 zn zd zo).2.1.drew, (boxes3 W 25 u0 u1 u2 u3 un ud uo v0 v1 v2 v3 vn vd vo z0 z1 z2 z3 zn zd zo).2.2.1.drew, HB1.out.trans ((boxes3 W 25 u0 u1 u2 u3 un ud uo v0 v1 v2 v3 vn vd vo z0 z1 z2 z3 zn zd zo).2.2.2.drew.mono HB1.out.size)⟩⟩ | exact ⟨_, _, _, rfl, rfl, rfl, Lib.hid ⟨(boxes3 W 25 u0 u1 u2 u3 un ud uo z0 z1 z2 z3 zn zd zo v0 v1 v2 v3 vn vd vo).1.drew, (boxes3 W 25 u0 u1 u2 u3 un ud uo z0 z1 z2 z3 zn zd zo v0 v1 v2 v3 vn vd vo).2.2.1.drew, (boxes3 W 25 u0 u1 u2 u3 un ud uo z0 z1 z2 z3 zn zd zo v0 v1 v2 v3 vn vd vo).2.1.drew, HB1.out.trans ((boxes3 W 25 u0 u1 u2 u3 un ud uo z0 z1 z2 z3 zn zd zo v0 v1 v2 v3 vn vd vo).2.2.2.drew.mono HB1.out.size)⟩⟩ | exact ⟨_, _, _, rfl, rfl, rfl, Lib.hid ⟨(boxes3 W 25 v0 v1 v2 v3 vn vd vo u0 u1 u2 u3 un ud uo z0 z1 z2 z3 zn zd zo).2.1.drew, (boxes3 W 25 v0 v1 v2 v3 vn vd vo u0 u1 u2 u3 un ud uo z0 z1 z2 z3 zn zd zo).1.drew, (boxes3 W 25 v0 v1 v2 v3 vn vd vo u0 u1 u2 u3 un ud uo z0 z1 z2 z3 zn zd zo).2.2.1.drew, HB1.out.trans ((boxes3 W 25 v0 v1 v2 v3 vn vd vo u0 u1 u2 u3 un ud uo z0 z1 z2 z3 zn zd zo).2.2.2.drew.mono HB1.out.size)⟩⟩ | exact ⟨_, _, _, rfl, rfl, rfl, Lib.hid ⟨(boxes3 W 25 v0 v1 v2 v3 vn vd vo z0 z1 z2 z3 zn zd zo u0 u1 u2 u3 un ud uo).2.2.1.drew, (boxes3 W 25 v0 v1 v2 v3 vn vd vo z0 z1 z2 z3 zn zd zo u0 u1 u2 u3 un ud uo).1.drew, (boxes3 W 25 v0 v1 v2 v3 vn vd vo z0 z1 z2 z3 zn zd zo u0 u1 u2 u3 un ud uo).2.1.drew, HB1.out.trans ((boxes3 W 25 v0 v1 v2 v3 vn vd vo z0 z1 z2 z3 zn zd zo u0 u1 u2 u3 un ud uo).2.2.2.drew.mono HB1.out.size)⟩⟩ | exact ⟨_, _, _, rfl, rfl, rfl, Lib.hid ⟨(boxes3 W 25 z0 z1 z2 z3 zn zd zo u0 u1 u2 u3 un ud uo v0 v1 v2 v3 vn vd vo).2.1.drew, (boxes3 W 25 z0 z1 z2 z3 zn zd zo u0 u1 u2 u3 un ud uo v0 v1 v2 v3 vn vd vo).2.2.1.drew, (boxes3 W 25 z0 z1 z2 z3 zn zd zo u0 u1 u2 u3 un ud uo v0 v1 v2 v3 vn vd vo).1.drew, HB1.out.trans ((boxes3 W 25 z0 z1 z2 z3 zn zd zo u0 u1 u2 u3 un ud uo v0 v1 v2 v3 vn vd vo).2.2.2.drew.mono HB1.out.size)⟩⟩ | exact ⟨_, _, _, rfl, rfl, rfl, Lib.hid ⟨(boxes3 W 25 z0 z1 z2 z3 zn zd zo v0 v1 v2 v3 vn vd vo u0 u1 u2 u3 un ud uo).2.2.1.drew, (boxes3 W 25 z0 z1 z2 z3 zn zd zo v0 v1 v2 v3 vn vd vo u0 u1 u2 u3 un ud uo).2.1.drew, (boxes3 W 25 z0 z1 z2 z3 zn zd zo v0 v1 v2 v3 vn vd vo u0 u1 u2 u3 un ud uo).1.drew, HB1.out.trans ((boxes3 W 25 z0 z1 z2 z3 zn zd zo v0 v1 v2 v3 vn vd vo u0 u1 u2 u3 un ud uo).2.2.2.drew.mono HB1.out.size)⟩⟩
  case rest =>
    obtain ⟨p, q, r, rfl, rfl, rfl, HH⟩ := hcut
    have HU := Lib.hid HH.out.1
    have HV := Lib.hid HH.out.2.1
    have HZ := Lib.hid HH.out.2.2.1
    have HB := Lib.hid HH.out.2.2.2
    clear HH HB1 HT
    obtain ⟨ux0, ux1, ux2, ux3, ux4, ux5, ux6, uxz⟩ := HU.out
    obtain ⟨vx0, vx1, vx2, vx3, vx4, vx5, vx6, vxz⟩ := HV.out
    go_wp2_with fail
    refine (HC1.out _).mono ?_
    rintro e w1 ⟨rfl, hb⟩
    clear ux0 ux1 ux2 ux3 ux4 ux5 ux6 uxz
    clear vx0 vx1 vx2 vx3 vx4 vx5 vx6 vxz
    have hk := hb.alloc hb.size (Obj.cells #[.int .i64 j0, .int .i64 j1, .int .i64 j2, .int .i64 j3, .int .i64 jn, .int .i64 jd, .int .i64 jo] 25)
    have HU1 := Lib.hid (HU.out.keep hk)
    have HV1 := Lib.hid (HV.out.keep hk)
    have HZ1 := Lib.hid (HZ.out.keep hk)
    have HP1 := Lib.hid (unit_freshT w1 25 j0 j1 j2 j3 jn jd jo)
    have HB1 := Lib.hid (HB.out.trans (hk.mono HB.out.size))
    clear hb hk HU HV HZ HB
    obtain ⟨ux0, ux1, ux2, ux3, ux4, ux5, ux6, uxz⟩ := HU1.out
    obtain ⟨vx0, vx1, vx2, vx3, vx4, vx5, vx6, vxz⟩ := HV1.out
    go_wp2_with fail
    refine (HC2.out _).mono ?_
    rintro e w2 ⟨rfl, hb⟩
    clear ux0 ux1 ux2 ux3 ux4 ux5 ux6 uxz
    clear vx0 vx1 vx2 vx3 vx4 vx5 vx6 vxz
    have hk := hb.alloc hb.size (Obj.cells #[.int .i64 j0, .int .i64 j1, .int .i64 j2, .int .i64 j3, .int .i64 jn, .int .i64 jd, .int .i64 jo] 25)
    have HU2 := Lib.hid (HU1.out.keep hk)
    have HV2 := Lib.hid (HV1.out.keep hk)
    have HZ2 := Lib.hid (HZ1.out.keep hk)
    have HP2 := Lib.hid (HP1.out.keep hk)
    have HQ2 := Lib.hid (unit_freshT w2 25 j0 j1 j2 j3 jn jd jo)
    have HB2 := Lib.hid (HB1.out.trans (hk.mono HB1.out.size))
    clear hb hk HU1 HV1 HZ1 HP1 HB1
    obtain ⟨px0, px1, px2, px3, px4, px5, px6, pxz⟩ := HP2.out
    obtain ⟨qx0, qx1, qx2, qx3, qx4, qx5, qx6, qxz⟩ := HQ2.out
    have e1 := fun w => (eq_unit j0 j1 j2 j3 jn jd jo j0 j1 j2 j3 jn jd jo w).trans (show _ = Result.ok true w by simp)
    by_cases hE : E1 = 0
    · subst hE
      obtain ⟨va, vb, oa, ob, vp, ep⟩ := mulR_ok HX1.out
      have kk3 := fun w => div_any ⟨j0, j1, j2, j3, jn, jd, jo⟩ ⟨v0, v1, v2, v3, vn, vd, vo⟩ w
      rw [div_undoes HX1.out] at kk3
      have kk4 := fun w => div_any ⟨u0, u1, u2, u3, un, ud, uo⟩ ⟨u0, u1, u2, u3, un, ud, uo⟩ w
      rw [div_self va oa] at kk4
      have HC3 := Lib.hid kk3
      have HC4 := Lib.hid kk4
      clear kk3 kk4 va vb oa ob vp ep
      obtain ⟨px0, px1, px2, px3, px4, px5, px6, pxz⟩ := HP2.out
      obtain ⟨vx0, vx1, vx2, vx3, vx4, vx5, vx6, vxz⟩ := HV2.out
      go_wp2_with fail
      refine (HC3.out _).mono ?_
      rintro e w3 ⟨rfl, hb⟩
      clear px0 px1 px2 px3 px4 px5 px6 pxz
      clear vx0 vx1 vx2 vx3 vx4 vx5 vx6 vxz
      clear qx0 qx1 qx2 qx3 qx4 qx5 qx6 qxz e1
      have hk := hb.alloc hb.size (Obj.cells #[.int .i64 u0, .int .i64 u1, .int .i64 u2, .int .i64 u3, .int .i64 un, .int .i64 ud, .int .i64 uo] 25)
      have HU3 := Lib.hid (HU2.out.keep hk)
      have HV3 := Lib.hid (HV2.out.keep hk)
      have HZ3 := Lib.hid (HZ2.out.keep hk)
      have HP3 := Lib.hid (HP2.out.keep hk)
      have HK3 := Lib.hid (unit_freshT w3 25 u0 u1 u2 u3 un ud uo)
      have HB3 := Lib.hid (HB2.out.trans (hk.mono HB2.out.size))
      clear hb hk HU2 HV2 HZ2 HP2 HQ2 HB2
      obtain ⟨ux0, ux1, ux2, ux3, ux4, ux5, ux6, uxz⟩ := HU3.out
      go_wp2_with fail
      refine (HC4.out _).mono ?_
      rintro e w4 ⟨rfl, hb⟩
      clear ux0 ux1 ux2 ux3 ux4 ux5 ux6 uxz
      have hk := hb.alloc hb.size (Obj.cells #[.int .i64 0, .int .i64 0, .int .i64 0, .int .i64 0, .int .i64 1, .int .i64 1, .int .i64 0] 25)
      have HU4 := Lib.hid (HU3.out.keep hk)
      have HV4 := Lib.hid (HV3.out.keep hk)
      have HZ4 := Lib.hid (HZ3.out.keep hk)
      have HP4 := Lib.hid (HP3.out.keep hk)
      have HK4 := Lib.hid (HK3.out.keep hk)
      have HO4 := Lib.hid (unit_freshT w4 25 0 0 0 0 1 1 0)
      have HB4 := Lib.hid (HB3.out.trans (hk.mono HB3.out.size))
      clear hb hk HU3 HV3 HZ3 HP3 HK3 HB3
      go_wp2_with fail
      obtain ⟨W5, hW5⟩ : ∃ x, x = w4.alloc (Obj.cells #[.int .i64 0, .int .i64 0, .int .i64 0, .int .i64 0, .int .i64 1, .int .i64 1, .int .i64 0] 25) := ⟨_, rfl⟩
      obtain ⟨o, ho⟩ : ∃ x, x = w4.heap.size := ⟨_, rfl⟩
      obtain ⟨b, hbk⟩ : ∃ x, x = w3.heap.size := ⟨_, rfl⟩
      obtain ⟨s, hs⟩ : ∃ x, x = w1.heap.size := ⟨_, rfl⟩
      rw [← hW5]
      try rw [← ho]
      try rw [← hbk]
      try rw [← hs]
      have HF := Lib.hid (show AF w p q r b s o u0 u1 u2 u3 un ud uo v0 v1 v2 v3 vn vd vo z0 z1 z2 z3 zn zd zo j0 j1 j2 j3 jn jd jo W5 from ⟨by rw [hW5]; exact HU4.out, by rw [hW5]; exact HV4.out, by rw [hW5]; exact HZ4.out, by rw [hW5, hs]; exact HP4.out, by rw [hW5, hbk]; exact HK4.out, by rw [hW5, ho]; exact HO4.out, by rw [hW5]; exact HB4.out⟩)
      clear hW5 ho hbk hs HU4 HV4 HZ4 HP4 HK4 HO4 HB4
      have HD := Lib.hid (a10_of HF.out)
      have HDD := Lib.hid (a10_of HF.out.drew)
      unfold A10 at HD HDD
      have e1 := fun w => (eq_unit u0 u1 u2 u3 un ud uo u0 u1 u2 u3 un ud uo w).trans (show _ = Result.ok true w by simp)
      have e2 := fun w => (eq_unit 0 0 0 0 1 1 0 0 0 0 0 1 1 0 w).trans (show _ = Result.ok true w from rfl)
      go_region_held3 (fun w' => w'.cell? ⟨b, 0, none⟩ = some (.int .i64 u0) ∧ w'.cell? ⟨b, 1, none⟩ = some (.int .i64 u1) ∧ w'.cell? ⟨b, 2, none⟩ = some (.int .i64 u2) ∧ w'.cell? ⟨b, 3, none⟩ = some (.int .i64 u3) ∧ w'.cell? ⟨b, 4, none⟩ = some (.int .i64 un) ∧ w'.cell? ⟨b, 5, none⟩ = some (.int .i64 ud) ∧ w'.cell? ⟨b, 6, none⟩ = some (.int .i64 uo) ∧ w'.cell? ⟨p, 0, none⟩ = some (.int .i64 u0) ∧ w'.cell? ⟨p, 1, none⟩ = some (.int .i64 u1) ∧ w'.cell? ⟨p, 2, none⟩ = some (.int .i64 u2) ∧ w'.cell? ⟨p, 3, none⟩ = some (.int .i64 u3) ∧ w'.cell? ⟨p, 4, none⟩ = some (.int .i64 un) ∧ w'.cell? ⟨p, 5, none⟩ = some (.int .i64 ud) ∧ w'.cell? ⟨p, 6, none⟩ = some (.int .i64 uo) ∧ w'.cell? ⟨o, 0, none⟩ = some (.int .i64 0) ∧ w'.cell? ⟨o, 1, none⟩ = some (.int .i64 0) ∧ w'.cell? ⟨o, 2, none⟩ = some (.int .i64 0) ∧ w'.cell? ⟨o, 3, none⟩ = some (.int .i64 0) ∧ w'.cell? ⟨o, 4, none⟩ = some (.int .i64 1) ∧ w'.cell? ⟨o, 5, none⟩ = some (.int .i64 1) ∧ w'.cell? ⟨o, 6, none⟩ = some (.int .i64 0) ∧ AF w p q r b s o u0 u1 u2 u3 un ud uo v0 v1 v2 v3 vn vd vo z0 z1 z2 z3 zn zd zo j0 j1 j2 j3 jn jd jo w')
        (first | (with_reducible exact HD.out) | (with_reducible exact HDD.out) | (with_reducible exact a10_keep hb2 (by assumption)) | (with_reducible exact a10_drew (by assumption)) | go_keep)
        (first | (go_at_call 10; refine (HNo.out _).mono ?_; rintro e x1 ⟨rfl, hb2⟩; have HS1 : Hid (A10 w p q r b s o u0 u1 u2 u3 un ud uo v0 v1 v2 v3 vn vd vo z0 z1 z2 z3 zn zd zo j0 j1 j2 j3 jn jd jo x1) := a10_keep hb2 ‹_›))
      rename_i hHeld
      clear hHeld HF HD HDD e1 e2
      have HU5 := Lib.hid HS1.out.af.U
      have HV5 := Lib.hid HS1.out.af.V
      have HZ5 := Lib.hid HS1.out.af.Z
      have HP5 := Lib.hid HS1.out.af.P
      have HB5 := Lib.hid HS1.out.af.bel
      clear HS1 hb2
      obtain ⟨⟨⟨l0, l1, l2, l3, ln, ld, lo⟩, E3⟩, hx3⟩ : ∃ r, r = mulR ⟨j0, j1, j2, j3, jn, jd, jo⟩ ⟨z0, z1, z2, z3, zn, zd, zo⟩ := ⟨_, rfl⟩
      obtain ⟨⟨⟨y0, y1, y2, y3, yn, yd, yo⟩, E4⟩, hx4⟩ : ∃ r, r = mulR ⟨v0, v1, v2, v3, vn, vd, vo⟩ ⟨z0, z1, z2, z3, zn, zd, zo⟩ := ⟨_, rfl⟩
      obtain ⟨⟨⟨m0, m1, m2, m3, mn, md, mo⟩, E5⟩, hx5⟩ : ∃ r, r = mulR ⟨u0, u1, u2, u3, un, ud, uo⟩ ⟨y0, y1, y2, y3, yn, yd, yo⟩ := ⟨_, rfl⟩
      have kk3 := fun w => mul_any ⟨j0, j1, j2, j3, jn, jd, jo⟩ ⟨z0, z1, z2, z3, zn, zd, zo⟩ w
      have kk4 := fun w => mul_any ⟨v0, v1, v2, v3, vn, vd, vo⟩ ⟨z0, z1, z2, z3, zn, zd, zo⟩ w
      have kk5 := fun w => mul_any ⟨u0, u1, u2, u3, un, ud, uo⟩ ⟨y0, y1, y2, y3, yn, yd, yo⟩ w
      rw [← hx3] at kk3
      rw [← hx4] at kk4
      rw [← hx5] at kk5
      have HK3 := Lib.hid kk3
      have HK4 := Lib.hid kk4
      have HK5 := Lib.hid kk5
      have HX3 := Lib.hid hx3.symm
      have HX4 := Lib.hid hx4.symm
      have HX5 := Lib.hid hx5.symm
      clear kk3 kk4 kk5 hx3 hx4 hx5
      obtain ⟨px0, px1, px2, px3, px4, px5, px6, pxz⟩ := HP5.out
      obtain ⟨zx0, zx1, zx2, zx3, zx4, zx5, zx6, zxz⟩ := HZ5.out
      go_wp2_with fail
      refine (HK3.out _).mono ?_
      rintro e w6 ⟨rfl, hb⟩
      clear px0 px1 px2 px3 px4 px5 px6 pxz
      clear zx0 zx1 zx2 zx3 zx4 zx5 zx6 zxz
      have hk := hb.alloc hb.size (Obj.cells #[.int .i64 l0, .int .i64 l1, .int .i64 l2, .int .i64 l3, .int .i64 ln, .int .i64 ld, .int .i64 lo] 25)
      have HU6 := Lib.hid (HU5.out.keep hk)
      have HV6 := Lib.hid (HV5.out.keep hk)
      have HZ6 := Lib.hid (HZ5.out.keep hk)
      have HL6 := Lib.hid (unit_freshT w6 25 l0 l1 l2 l3 ln ld lo)
      have HB6 := Lib.hid (HB5.out.trans (hk.mono HB5.out.size))
      clear hb hk HU5 HV5 HZ5 HP5 HB5
      obtain ⟨vx0, vx1, vx2, vx3, vx4, vx5, vx6, vxz⟩ := HV6.out
      obtain ⟨zx0, zx1, zx2, zx3, zx4, zx5, zx6, zxz⟩ := HZ6.out
      go_wp2_with fail
      refine (HK4.out _).mono ?_
      rintro e w7 ⟨rfl, hb⟩
      clear vx0 vx1 vx2 vx3 vx4 vx5 vx6 vxz
      clear zx0 zx1 zx2 zx3 zx4 zx5 zx6 zxz
      have hk := hb.alloc hb.size (Obj.cells #[.int .i64 y0, .int .i64 y1, .int .i64 y2, .int .i64 y3, .int .i64 yn, .int .i64 yd, .int .i64 yo] 25)
      have HU7 := Lib.hid (HU6.out.keep hk)
      have HL7 := Lib.hid (HL6.out.keep hk)
      have HY7 := Lib.hid (unit_freshT w7 25 y0 y1 y2 y3 yn yd yo)
      have HB7 := Lib.hid (HB6.out.trans (hk.mono HB6.out.size))
      clear hb hk HU6 HV6 HZ6 HL6 HB6
      obtain ⟨ux0, ux1, ux2, ux3, ux4, ux5, ux6, uxz⟩ := HU7.out
      obtain ⟨yx0, yx1, yx2, yx3, yx4, yx5, yx6, yxz⟩ := HY7.out
      go_wp2_with fail
      refine (HK5.out _).mono ?_
      rintro e w8 ⟨rfl, hb⟩
      clear ux0 ux1 ux2 ux3 ux4 ux5 ux6 uxz
      clear yx0 yx1 yx2 yx3 yx4 yx5 yx6 yxz
      have hk := hb.alloc hb.size (Obj.cells #[.int .i64 m0, .int .i64 m1, .int .i64 m2, .int .i64 m3, .int .i64 mn, .int .i64 md, .int .i64 mo] 25)
      have HL8 := Lib.hid (HL7.out.keep hk)
      have HM8 := Lib.hid (unit_freshT w8 25 m0 m1 m2 m3 mn md mo)
      have HB8 := Lib.hid (HB7.out.trans (hk.mono HB7.out.size))
      clear hb hk HU7 HL7 HY7 HB7
      go_wp2_with fail
      refine (HA.out _ (HG.out.below HB8.out)).mono ?_
      rintro e w9 ⟨rfl, hb⟩
      have HL9 := Lib.hid (HL8.out.keep hb)
      have HM9 := Lib.hid (HM8.out.keep hb)
      have HB9 := Lib.hid (HB8.out.trans (hb.mono HB8.out.size))
      clear hb HL8 HM8 HB8
      by_cases hE : E3 = 0
      · subst hE
        by_cases hE : E4 = 0
        · subst hE
          by_cases hE : E5 = 0
          · subst hE
            have hlm := mulR_assoc HX1.out HX3.out HX4.out HX5.out
            injection hlm with q0 q1 q2 q3 q4 q5 q6
            subst q0 q1 q2 q3 q4 q5 q6
            have e1 := fun w => (eq_unit l0 l1 l2 l3 ln ld lo l0 l1 l2 l3 ln ld lo w).trans (show _ = Result.ok true w by simp)
            obtain ⟨lx0, lx1, lx2, lx3, lx4, lx5, lx6, lxz⟩ := HL9.out
            obtain ⟨mx0, mx1, mx2, mx3, mx4, mx5, mx6, mxz⟩ := HM9.out
            go_wp2_with fail
            go_ret
            exact ⟨rfl, HB9.out⟩
          · have h1 : (E5 != 0) = true := by simpa using hE
            clear hE
            obtain ⟨lx0, lx1, lx2, lx3, lx4, lx5, lx6, lxz⟩ := HL9.out
            obtain ⟨mx0, mx1, mx2, mx3, mx4, mx5, mx6, mxz⟩ := HM9.out
            go_wp2_with fail
            all_goals
              go_ret
              exact ⟨rfl, HB9.out⟩
        · have h1 : (E4 != 0) = true := by simpa using hE
          clear hE
          obtain ⟨lx0, lx1, lx2, lx3, lx4, lx5, lx6, lxz⟩ := HL9.out
          obtain ⟨mx0, mx1, mx2, mx3, mx4, mx5, mx6, mxz⟩ := HM9.out
          go_wp2_with fail
          all_goals
            go_ret
            exact ⟨rfl, HB9.out⟩
      · have h1 : (E3 != 0) = true := by simpa using hE
        clear hE
        obtain ⟨lx0, lx1, lx2, lx3, lx4, lx5, lx6, lxz⟩ := HL9.out
        obtain ⟨mx0, mx1, mx2, mx3, mx4, mx5, mx6, mxz⟩ := HM9.out
        go_wp2_with fail
        all_goals
          go_ret
          exact ⟨rfl, HB9.out⟩
    · have h1 : (E1 != 0) = true := by simpa using hE
      clear hE
      go_wp2_with fail
      refine (HA.out _ (HG.out.below HB2.out)).mono ?_
      rintro e w3 ⟨rfl, hb⟩
      have HB3 := Lib.hid (HB2.out.trans (hb.mono HB2.out.size))
      clear hb HU2 HV2 HZ2 HP2 HQ2 HB2
      go_wp2_with fail
      go_ret
      exact ⟨rfl, HB3.out⟩

end Go.Proofs.YtjkdcbkfcmaadaaDoor
