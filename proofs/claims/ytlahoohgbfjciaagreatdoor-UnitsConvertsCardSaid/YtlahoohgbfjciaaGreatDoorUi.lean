/- Contracts of units.inverse, Mul, Div. -/
import Derived.Test.YtlahoohgbfjciaaGreatDoorUp
namespace Go.Proofs.YtlahoohgbfjciaaGreatDoor
open Go.RowKit Go.Shelf

def invU (u : UnitD) : UnitD := ⟨-u.e0, -u.e1, -u.e2, -u.e3, u.d, u.n, u.o⟩
theorem inv_valid {u : UnitD} (h : validB u = true) (h0 : u.o = 0) : validB (invU u) = true := by
  obtain ⟨u0, u1, u2, u3, un, ud, uo⟩ := u
  show validB ⟨-u0, -u1, -u2, -u3, ud, un, uo⟩ = true
  have h0 : uo = 0 := h0
  unfold validB expB inScaleB at h ⊢
  simp only [Bool.and_eq_true, decide_eq_true_eq, Bool.or_eq_true, beq_iff_eq] at h ⊢
  obtain ⟨⟨⟨⟨⟨⟨h1, h2⟩, h3⟩, h4⟩, ⟨h5, h6⟩, h7⟩, h8⟩, h9⟩ := h
  rw [Nat.gcd_comm] at h7
  exact ⟨⟨⟨⟨⟨⟨by omega, by omega⟩, by omega⟩, by omega⟩, ⟨h6, h5⟩, h7⟩, h8⟩, .inl h0⟩

set_option maxRecDepth 100000 in
set_option maxHeartbeats 4000000 in
theorem inverse_main (u0 u1 u2 u3 un ud uo : Int) (w : World) (h1 : validB ⟨u0, u1, u2, u3, un, ud, uo⟩ = true) :
    Calls Tryz.prog 62 #[.agg #[.int .i64 u0, .int .i64 u1, .int .i64 u2, .int .i64 u3, .int .i64 un, .int .i64 ud, .int .i64 uo]] w fun e w' => e = .returned (.agg #[.int .i64 (-u0), .int .i64 (-u1), .int .i64 (-u2), .int .i64 (-u3), .int .i64 ud, .int .i64 un, .int .i64 uo]) ∧ Below w.heap.size w w' := by
  obtain ⟨e0, e1, e2, e3, e4, e5, e6, e7⟩ := exp_ranges h1
  obtain ⟨n0, hn0⟩ : ∃ t, t = -u0 := ⟨_, rfl⟩
  have k0 : IntKind.i64.wrap (-u0) = n0 := by rw [hn0]; exact IntWalk.i64_in _ ⟨by omega, by omega⟩
  have l0 : wrap64 n0 = n0 := IntWalk.wrap64_in _ ⟨by omega, by omega⟩
  have m0 : -u0 = n0 := hn0.symm
  obtain ⟨n1, hn1⟩ : ∃ t, t = -u1 := ⟨_, rfl⟩
  have k1 : IntKind.i64.wrap (-u1) = n1 := by rw [hn1]; exact IntWalk.i64_in _ ⟨by omega, by omega⟩
  have l1 : wrap64 n1 = n1 := IntWalk.wrap64_in _ ⟨by omega, by omega⟩
  have m1 : -u1 = n1 := hn1.symm
  obtain ⟨n2, hn2⟩ : ∃ t, t = -u2 := ⟨_, rfl⟩
  have k2 : IntKind.i64.wrap (-u2) = n2 := by rw [hn2]; exact IntWalk.i64_in _ ⟨by omega, by omega⟩
  have l2 : wrap64 n2 = n2 := IntWalk.wrap64_in _ ⟨by omega, by omega⟩
  have m2 : -u2 = n2 := hn2.symm
  obtain ⟨n3, hn3⟩ : ∃ t, t = -u3 := ⟨_, rfl⟩
  have k3 : IntKind.i64.wrap (-u3) = n3 := by rw [hn3]; exact IntWalk.i64_in _ ⟨by omega, by omega⟩
  have l3 : wrap64 n3 = n3 := IntWalk.wrap64_in _ ⟨by omega, by omega⟩
  have m3 : -u3 = n3 := hn3.symm
  rw [m0, m1, m2, m3]
  clear hn0 hn1 hn2 hn3 e0 e1 e2 e3 e4 e5 e6 e7 h1
  go_enter Tryz.func62, Tryz.ntmps62
  go_wp2_with fail
  obtain ⟨W, g, R, hW, hg, hR, hgR, hwg, hwR, U1, R1, B1⟩ := two_units w u0 u1 u2 u3 un ud uo 0 0 0 0 0 0 0
  rw [← hW]
  try rw [← hR]
  try rw [← hg]
  have HU1 := Lib.hid U1
  have HR1 := Lib.hid R1
  have HB1 := Lib.hid B1
  clear hW hg hR U1 R1 B1
  go_loopw [4] (fun i wr => (i = .int .i64 0 ∧ Hid (UnitAt wr g u0 u1 u2 u3 un ud uo ∧ UnitAt wr R 0 0 0 0 0 0 0 ∧ Below w.heap.size w wr)) ∨ (i = .int .i64 1 ∧ Hid (UnitAt wr g n0 u1 u2 u3 un ud uo ∧ UnitAt wr R 0 0 0 0 0 0 0 ∧ Below w.heap.size w wr)) ∨ (i = .int .i64 2 ∧ Hid (UnitAt wr g n0 n1 u2 u3 un ud uo ∧ UnitAt wr R 0 0 0 0 0 0 0 ∧ Below w.heap.size w wr)) ∨ (i = .int .i64 3 ∧ Hid (UnitAt wr g n0 n1 n2 u3 un ud uo ∧ UnitAt wr R 0 0 0 0 0 0 0 ∧ Below w.heap.size w wr)) ∨ (i = .int .i64 4 ∧ Hid (UnitAt wr g n0 n1 n2 n3 un ud uo ∧ UnitAt wr R 0 0 0 0 0 0 0 ∧ Below w.heap.size w wr))) (fun i _ => 4 - (intOf i).toNat)
  case atStart => exact .inl ⟨rfl, Lib.hid ⟨HU1.out, HR1.out, HB1.out⟩⟩
  case round =>
    rcases hrel with ⟨rfl, HH⟩ | ⟨rfl, HH⟩ | ⟨rfl, HH⟩ | ⟨rfl, HH⟩ | ⟨rfl, HH⟩
    · obtain ⟨hu, hr, hb⟩ := HH.out
      have HU := Lib.hid hu
      have HR := Lib.hid hr
      have HB := Lib.hid hb
      clear hu hr hb HH
      have p0 := HU.out.c0
      have p3 := HU.out.fz
      go_wp2_with fail
      go_roundw
      case rel => exact .inr (.inl ⟨rfl, Lib.hid ⟨HU.out.put_0 _, HR.out.other1 hgR, HB.out.setCell hwg _⟩⟩)
      case measure => simp [intOf]
    · obtain ⟨hu, hr, hb⟩ := HH.out
      have HU := Lib.hid hu
      have HR := Lib.hid hr
      have HB := Lib.hid hb
      clear hu hr hb HH
      have p0 := HU.out.c1
      have p3 := HU.out.fz
      go_wp2_with fail
      go_roundw
      case rel => exact .inr (.inr (.inl ⟨rfl, Lib.hid ⟨HU.out.put_1 _, HR.out.other1 hgR, HB.out.setCell hwg _⟩⟩))
      case measure => simp [intOf]
    · obtain ⟨hu, hr, hb⟩ := HH.out
      have HU := Lib.hid hu
      have HR := Lib.hid hr
      have HB := Lib.hid hb
      clear hu hr hb HH
      have p0 := HU.out.c2
      have p3 := HU.out.fz
      go_wp2_with fail
      go_roundw
      case rel => exact .inr (.inr (.inr (.inl ⟨rfl, Lib.hid ⟨HU.out.put_2 _, HR.out.other1 hgR, HB.out.setCell hwg _⟩⟩)))
      case measure => simp [intOf]
    · obtain ⟨hu, hr, hb⟩ := HH.out
      have HU := Lib.hid hu
      have HR := Lib.hid hr
      have HB := Lib.hid hb
      clear hu hr hb HH
      have p0 := HU.out.c3
      have p3 := HU.out.fz
      go_wp2_with fail
      go_roundw
      case rel => exact .inr (.inr (.inr (.inr (⟨rfl, Lib.hid ⟨HU.out.put_3 _, HR.out.other1 hgR, HB.out.setCell hwg _⟩⟩))))
      case measure => simp [intOf]
    · obtain ⟨hu, hr, hb⟩ := HH.out
      have HU := Lib.hid hu
      have HR := Lib.hid hr
      have HB := Lib.hid hb
      clear hu hr hb HH HU1 HR1 HB1
      obtain ⟨p0, p1, p2, p3, p4, p5, p6, pz⟩ := HU.out
      obtain ⟨r0, r1, r2, r3, r4, r5, r6, rz⟩ := HR.out
      go_wp2_with fail
      have hs := (((HR.out.other1 (k := 4) (x := .int .i64 ud) hgR).other1 (k := 5) (x := .int .i64 un) hgR)).set n0 n1 n2 n3 ud un uo
      have y0 : (((((((((wr.setCell ⟨g, 4, none⟩ (.int .i64 ud)).setCell ⟨g, 5, none⟩ (.int .i64 un)).setCell ⟨R, 0, none⟩ (.int .i64 n0)).setCell ⟨R, 1, none⟩ (.int .i64 n1)).setCell ⟨R, 2, none⟩ (.int .i64 n2)).setCell ⟨R, 3, none⟩ (.int .i64 n3)).setCell ⟨R, 4, none⟩ (.int .i64 ud)).setCell ⟨R, 5, none⟩ (.int .i64 un)).setCell ⟨R, 6, none⟩ (.int .i64 uo)).cell? ⟨R, 0, none⟩ = some (.int .i64 n0) := hs.c0
      have y1 : (((((((((wr.setCell ⟨g, 4, none⟩ (.int .i64 ud)).setCell ⟨g, 5, none⟩ (.int .i64 un)).setCell ⟨R, 0, none⟩ (.int .i64 n0)).setCell ⟨R, 1, none⟩ (.int .i64 n1)).setCell ⟨R, 2, none⟩ (.int .i64 n2)).setCell ⟨R, 3, none⟩ (.int .i64 n3)).setCell ⟨R, 4, none⟩ (.int .i64 ud)).setCell ⟨R, 5, none⟩ (.int .i64 un)).setCell ⟨R, 6, none⟩ (.int .i64 uo)).cell? ⟨R, 1, none⟩ = some (.int .i64 n1) := hs.c1
      have y2 : (((((((((wr.setCell ⟨g, 4, none⟩ (.int .i64 ud)).setCell ⟨g, 5, none⟩ (.int .i64 un)).setCell ⟨R, 0, none⟩ (.int .i64 n0)).setCell ⟨R, 1, none⟩ (.int .i64 n1)).setCell ⟨R, 2, none⟩ (.int .i64 n2)).setCell ⟨R, 3, none⟩ (.int .i64 n3)).setCell ⟨R, 4, none⟩ (.int .i64 ud)).setCell ⟨R, 5, none⟩ (.int .i64 un)).setCell ⟨R, 6, none⟩ (.int .i64 uo)).cell? ⟨R, 2, none⟩ = some (.int .i64 n2) := hs.c2
      have y3 : (((((((((wr.setCell ⟨g, 4, none⟩ (.int .i64 ud)).setCell ⟨g, 5, none⟩ (.int .i64 un)).setCell ⟨R, 0, none⟩ (.int .i64 n0)).setCell ⟨R, 1, none⟩ (.int .i64 n1)).setCell ⟨R, 2, none⟩ (.int .i64 n2)).setCell ⟨R, 3, none⟩ (.int .i64 n3)).setCell ⟨R, 4, none⟩ (.int .i64 ud)).setCell ⟨R, 5, none⟩ (.int .i64 un)).setCell ⟨R, 6, none⟩ (.int .i64 uo)).cell? ⟨R, 3, none⟩ = some (.int .i64 n3) := hs.c3
      have y4 : (((((((((wr.setCell ⟨g, 4, none⟩ (.int .i64 ud)).setCell ⟨g, 5, none⟩ (.int .i64 un)).setCell ⟨R, 0, none⟩ (.int .i64 n0)).setCell ⟨R, 1, none⟩ (.int .i64 n1)).setCell ⟨R, 2, none⟩ (.int .i64 n2)).setCell ⟨R, 3, none⟩ (.int .i64 n3)).setCell ⟨R, 4, none⟩ (.int .i64 ud)).setCell ⟨R, 5, none⟩ (.int .i64 un)).setCell ⟨R, 6, none⟩ (.int .i64 uo)).cell? ⟨R, 4, none⟩ = some (.int .i64 ud) := hs.c4
      have y5 : (((((((((wr.setCell ⟨g, 4, none⟩ (.int .i64 ud)).setCell ⟨g, 5, none⟩ (.int .i64 un)).setCell ⟨R, 0, none⟩ (.int .i64 n0)).setCell ⟨R, 1, none⟩ (.int .i64 n1)).setCell ⟨R, 2, none⟩ (.int .i64 n2)).setCell ⟨R, 3, none⟩ (.int .i64 n3)).setCell ⟨R, 4, none⟩ (.int .i64 ud)).setCell ⟨R, 5, none⟩ (.int .i64 un)).setCell ⟨R, 6, none⟩ (.int .i64 uo)).cell? ⟨R, 5, none⟩ = some (.int .i64 un) := hs.c5
      have y6 : (((((((((wr.setCell ⟨g, 4, none⟩ (.int .i64 ud)).setCell ⟨g, 5, none⟩ (.int .i64 un)).setCell ⟨R, 0, none⟩ (.int .i64 n0)).setCell ⟨R, 1, none⟩ (.int .i64 n1)).setCell ⟨R, 2, none⟩ (.int .i64 n2)).setCell ⟨R, 3, none⟩ (.int .i64 n3)).setCell ⟨R, 4, none⟩ (.int .i64 ud)).setCell ⟨R, 5, none⟩ (.int .i64 un)).setCell ⟨R, 6, none⟩ (.int .i64 uo)).cell? ⟨R, 6, none⟩ = some (.int .i64 uo) := hs.c6
      (try simp only [Exit.inBlock, Exit.then])
      refine bodyPost_ret (by simp [results, Tryz.results62, go_sem, y0, y1, y2, y3, y4, y5, y6]; try rfl) rfl ?_
      exact ⟨rfl, setU_below ((HB.out.setCell hwg _).setCell hwg _) hwR n0 n1 n2 n3 ud un uo⟩

theorem three_units (w : World) (u0 u1 u2 u3 un ud uo v0 v1 v2 v3 vn vd vo : Int) : ∃ (W : World) (g h R : Nat), W = (((w.alloc (Obj.cells #[.int .i64 u0, .int .i64 u1, .int .i64 u2, .int .i64 u3, .int .i64 un, .int .i64 ud, .int .i64 uo] 28)).alloc (Obj.cells #[.int .i64 v0, .int .i64 v1, .int .i64 v2, .int .i64 v3, .int .i64 vn, .int .i64 vd, .int .i64 vo] 28)).alloc (Obj.cells #[.int .i64 0, .int .i64 0, .int .i64 0, .int .i64 0, .int .i64 0, .int .i64 0, .int .i64 0] 28)) ∧ g = w.heap.size ∧ h = w.heap.size + 1 ∧ R = w.heap.size + 2 ∧ R ≠ g ∧ R ≠ h ∧ w.heap.size ≤ R ∧ PR w g h R u0 u1 u2 u3 un ud uo v0 v1 v2 v3 vn vd vo W := by
  obtain ⟨W, g, h, hW, hg, hh, hgh, hwg, hwh, U1, R1, B1⟩ := two_units w u0 u1 u2 u3 un ud uo v0 v1 v2 v3 vn vd vo
  have sz : W.heap.size = w.heap.size + 2 := by rw [hW, World.size_alloc, World.size_alloc]
  have a := unit_fresh W 0 0 0 0 0 0 0
  rw [sz] at a
  have b1 := (Below.refl W.heap.size W).alloc (Nat.le_refl _) (Obj.cells #[.int .i64 0, .int .i64 0, .int .i64 0, .int .i64 0, .int .i64 0, .int .i64 0, .int .i64 0] 28)
  exact ⟨_, g, h, w.heap.size + 2, by rw [← hW], hg, hh, rfl, by omega, by omega, by omega, ⟨⟨U1.keep b1, R1.keep b1, B1.alloc B1.size _⟩, a⟩⟩

set_option maxHeartbeats 2000000 in
theorem mul_bad (C : Int) (u0 u1 u2 u3 un ud uo v0 v1 v2 v3 vn vd vo : Int) (w : World) (HC : Hid (∀ w, Calls Tryz.prog 60 #[.agg #[.int .i64 u0, .int .i64 u1, .int .i64 u2, .int .i64 u3, .int .i64 un, .int .i64 ud, .int .i64 uo], .agg #[.int .i64 v0, .int .i64 v1, .int .i64 v2, .int .i64 v3, .int .i64 vn, .int .i64 vd, .int .i64 vo]] w fun e w' => e = .returned (.int .i64 C) ∧ Below w.heap.size w w')) (hC0 : C ≠ 0) :
    Calls Tryz.prog 49 #[.agg #[.int .i64 u0, .int .i64 u1, .int .i64 u2, .int .i64 u3, .int .i64 un, .int .i64 ud, .int .i64 uo], .agg #[.int .i64 v0, .int .i64 v1, .int .i64 v2, .int .i64 v3, .int .i64 vn, .int .i64 vd, .int .i64 vo]] w fun e w' => e = .returned (.tuple #[.agg #[.int .i64 0, .int .i64 0, .int .i64 0, .int .i64 0, .int .i64 0, .int .i64 0, .int .i64 0], .int .i64 C]) ∧ Below w.heap.size w w' := by
  go_enter Tryz.func49, Tryz.ntmps49
  go_wp2_with fail
  obtain ⟨W, g, h, R, hW, hg, hh, hR, hRg, hRh, hwR, P1⟩ := three_units w u0 u1 u2 u3 un ud uo v0 v1 v2 v3 vn vd vo
  rw [← hW]
  try rw [← hR]
  try rw [← hh]
  try rw [← hg]
  have HP1 := Lib.hid P1
  clear hW hg hh hR P1
  refine (HC.out _).mono ?_
  rintro e w1 ⟨rfl, hb⟩
  have HP2 := Lib.hid (HP1.out.keep hb)
  clear hb HP1
  have t0 : (C != 0) = true := by rw [bne_iff_ne]; exact hC0
  obtain ⟨r0, r1, r2, r3, r4, r5, r6, rz⟩ := HP2.out.r
  go_wp2_with fail
  have hs := (HP2.out.r).set 0 0 0 0 0 0 0
  have y0 : (((((((w1.setCell ⟨R, 0, none⟩ (.int .i64 0)).setCell ⟨R, 1, none⟩ (.int .i64 0)).setCell ⟨R, 2, none⟩ (.int .i64 0)).setCell ⟨R, 3, none⟩ (.int .i64 0)).setCell ⟨R, 4, none⟩ (.int .i64 0)).setCell ⟨R, 5, none⟩ (.int .i64 0)).setCell ⟨R, 6, none⟩ (.int .i64 0)).cell? ⟨R, 0, none⟩ = some (.int .i64 0) := hs.c0
  have y1 : (((((((w1.setCell ⟨R, 0, none⟩ (.int .i64 0)).setCell ⟨R, 1, none⟩ (.int .i64 0)).setCell ⟨R, 2, none⟩ (.int .i64 0)).setCell ⟨R, 3, none⟩ (.int .i64 0)).setCell ⟨R, 4, none⟩ (.int .i64 0)).setCell ⟨R, 5, none⟩ (.int .i64 0)).setCell ⟨R, 6, none⟩ (.int .i64 0)).cell? ⟨R, 1, none⟩ = some (.int .i64 0) := hs.c1
  have y2 : (((((((w1.setCell ⟨R, 0, none⟩ (.int .i64 0)).setCell ⟨R, 1, none⟩ (.int .i64 0)).setCell ⟨R, 2, none⟩ (.int .i64 0)).setCell ⟨R, 3, none⟩ (.int .i64 0)).setCell ⟨R, 4, none⟩ (.int .i64 0)).setCell ⟨R, 5, none⟩ (.int .i64 0)).setCell ⟨R, 6, none⟩ (.int .i64 0)).cell? ⟨R, 2, none⟩ = some (.int .i64 0) := hs.c2
  have y3 : (((((((w1.setCell ⟨R, 0, none⟩ (.int .i64 0)).setCell ⟨R, 1, none⟩ (.int .i64 0)).setCell ⟨R, 2, none⟩ (.int .i64 0)).setCell ⟨R, 3, none⟩ (.int .i64 0)).setCell ⟨R, 4, none⟩ (.int .i64 0)).setCell ⟨R, 5, none⟩ (.int .i64 0)).setCell ⟨R, 6, none⟩ (.int .i64 0)).cell? ⟨R, 3, none⟩ = some (.int .i64 0) := hs.c3
  have y4 : (((((((w1.setCell ⟨R, 0, none⟩ (.int .i64 0)).setCell ⟨R, 1, none⟩ (.int .i64 0)).setCell ⟨R, 2, none⟩ (.int .i64 0)).setCell ⟨R, 3, none⟩ (.int .i64 0)).setCell ⟨R, 4, none⟩ (.int .i64 0)).setCell ⟨R, 5, none⟩ (.int .i64 0)).setCell ⟨R, 6, none⟩ (.int .i64 0)).cell? ⟨R, 4, none⟩ = some (.int .i64 0) := hs.c4
  have y5 : (((((((w1.setCell ⟨R, 0, none⟩ (.int .i64 0)).setCell ⟨R, 1, none⟩ (.int .i64 0)).setCell ⟨R, 2, none⟩ (.int .i64 0)).setCell ⟨R, 3, none⟩ (.int .i64 0)).setCell ⟨R, 4, none⟩ (.int .i64 0)).setCell ⟨R, 5, none⟩ (.int .i64 0)).setCell ⟨R, 6, none⟩ (.int .i64 0)).cell? ⟨R, 5, none⟩ = some (.int .i64 0) := hs.c5
  have y6 : (((((((w1.setCell ⟨R, 0, none⟩ (.int .i64 0)).setCell ⟨R, 1, none⟩ (.int .i64 0)).setCell ⟨R, 2, none⟩ (.int .i64 0)).setCell ⟨R, 3, none⟩ (.int .i64 0)).setCell ⟨R, 4, none⟩ (.int .i64 0)).setCell ⟨R, 5, none⟩ (.int .i64 0)).setCell ⟨R, 6, none⟩ (.int .i64 0)).cell? ⟨R, 6, none⟩ = some (.int .i64 0) := hs.c6
  (try simp only [Exit.inBlock, Exit.then])
  refine bodyPost_ret (by simp [results, Tryz.results49, go_sem, y0, y1, y2, y3, y4, y5, y6]; try rfl) rfl ?_
  exact ⟨rfl, setU_below HP2.out.c.bel hwR 0 0 0 0 0 0 0⟩

set_option maxHeartbeats 2000000 in
theorem mul_good (p0 p1 p2 p3 pn pd po X : Int) (u0 u1 u2 u3 un ud uo v0 v1 v2 v3 vn vd vo : Int) (w : World) (HC : Hid (∀ w, Calls Tryz.prog 60 #[.agg #[.int .i64 u0, .int .i64 u1, .int .i64 u2, .int .i64 u3, .int .i64 un, .int .i64 ud, .int .i64 uo], .agg #[.int .i64 v0, .int .i64 v1, .int .i64 v2, .int .i64 v3, .int .i64 vn, .int .i64 vd, .int .i64 vo]] w fun e w' => e = .returned (.int .i64 0) ∧ Below w.heap.size w w')) (HPr : Hid (∀ w, Calls Tryz.prog 61 #[.agg #[.int .i64 u0, .int .i64 u1, .int .i64 u2, .int .i64 u3, .int .i64 un, .int .i64 ud, .int .i64 uo], .agg #[.int .i64 v0, .int .i64 v1, .int .i64 v2, .int .i64 v3, .int .i64 vn, .int .i64 vd, .int .i64 vo]] w fun e w' => e = .returned (.tuple #[.agg #[.int .i64 p0, .int .i64 p1, .int .i64 p2, .int .i64 p3, .int .i64 pn, .int .i64 pd, .int .i64 po], .int .i64 X]) ∧ Below w.heap.size w w')) :
    Calls Tryz.prog 49 #[.agg #[.int .i64 u0, .int .i64 u1, .int .i64 u2, .int .i64 u3, .int .i64 un, .int .i64 ud, .int .i64 uo], .agg #[.int .i64 v0, .int .i64 v1, .int .i64 v2, .int .i64 v3, .int .i64 vn, .int .i64 vd, .int .i64 vo]] w fun e w' => e = .returned (.tuple #[.agg #[.int .i64 p0, .int .i64 p1, .int .i64 p2, .int .i64 p3, .int .i64 pn, .int .i64 pd, .int .i64 po], .int .i64 X]) ∧ Below w.heap.size w w' := by
  go_enter Tryz.func49, Tryz.ntmps49
  go_wp2_with fail
  obtain ⟨W, g, h, R, hW, hg, hh, hR, hRg, hRh, hwR, P1⟩ := three_units w u0 u1 u2 u3 un ud uo v0 v1 v2 v3 vn vd vo
  rw [← hW]
  try rw [← hR]
  try rw [← hh]
  try rw [← hg]
  have HP1 := Lib.hid P1
  clear hW hg hh hR P1
  refine (HC.out _).mono ?_
  rintro e w1 ⟨rfl, hb⟩
  have HP2 := Lib.hid (HP1.out.keep hb)
  clear hb HP1
  obtain ⟨a0, a1, a2, a3, a4, a5, a6, az⟩ := HP2.out.c.u
  obtain ⟨b0, b1, b2, b3, b4, b5, b6, bz⟩ := HP2.out.c.v
  go_wp2_with fail
  refine (HPr.out _).mono ?_
  rintro e w2 ⟨rfl, hb⟩
  have HP3 := Lib.hid (HP2.out.keep hb)
  clear hb
  clear a0 a1 a2 a3 a4 a5 a6 az b0 b1 b2 b3 b4 b5 b6 bz
  obtain ⟨r0, r1, r2, r3, r4, r5, r6, rz⟩ := HP3.out.r
  go_wp2_with fail
  have hs := (HP3.out.r).set p0 p1 p2 p3 pn pd po
  have y0 : (((((((w2.setCell ⟨R, 0, none⟩ (.int .i64 p0)).setCell ⟨R, 1, none⟩ (.int .i64 p1)).setCell ⟨R, 2, none⟩ (.int .i64 p2)).setCell ⟨R, 3, none⟩ (.int .i64 p3)).setCell ⟨R, 4, none⟩ (.int .i64 pn)).setCell ⟨R, 5, none⟩ (.int .i64 pd)).setCell ⟨R, 6, none⟩ (.int .i64 po)).cell? ⟨R, 0, none⟩ = some (.int .i64 p0) := hs.c0
  have y1 : (((((((w2.setCell ⟨R, 0, none⟩ (.int .i64 p0)).setCell ⟨R, 1, none⟩ (.int .i64 p1)).setCell ⟨R, 2, none⟩ (.int .i64 p2)).setCell ⟨R, 3, none⟩ (.int .i64 p3)).setCell ⟨R, 4, none⟩ (.int .i64 pn)).setCell ⟨R, 5, none⟩ (.int .i64 pd)).setCell ⟨R, 6, none⟩ (.int .i64 po)).cell? ⟨R, 1, none⟩ = some (.int .i64 p1) := hs.c1
  have y2 : (((((((w2.setCell ⟨R, 0, none⟩ (.int .i64 p0)).setCell ⟨R, 1, none⟩ (.int .i64 p1)).setCell ⟨R, 2, none⟩ (.int .i64 p2)).setCell ⟨R, 3, none⟩ (.int .i64 p3)).setCell ⟨R, 4, none⟩ (.int .i64 pn)).setCell ⟨R, 5, none⟩ (.int .i64 pd)).setCell ⟨R, 6, none⟩ (.int .i64 po)).cell? ⟨R, 2, none⟩ = some (.int .i64 p2) := hs.c2
  have y3 : (((((((w2.setCell ⟨R, 0, none⟩ (.int .i64 p0)).setCell ⟨R, 1, none⟩ (.int .i64 p1)).setCell ⟨R, 2, none⟩ (.int .i64 p2)).setCell ⟨R, 3, none⟩ (.int .i64 p3)).setCell ⟨R, 4, none⟩ (.int .i64 pn)).setCell ⟨R, 5, none⟩ (.int .i64 pd)).setCell ⟨R, 6, none⟩ (.int .i64 po)).cell? ⟨R, 3, none⟩ = some (.int .i64 p3) := hs.c3
  have y4 : (((((((w2.setCell ⟨R, 0, none⟩ (.int .i64 p0)).setCell ⟨R, 1, none⟩ (.int .i64 p1)).setCell ⟨R, 2, none⟩ (.int .i64 p2)).setCell ⟨R, 3, none⟩ (.int .i64 p3)).setCell ⟨R, 4, none⟩ (.int .i64 pn)).setCell ⟨R, 5, none⟩ (.int .i64 pd)).setCell ⟨R, 6, none⟩ (.int .i64 po)).cell? ⟨R, 4, none⟩ = some (.int .i64 pn) := hs.c4
  have y5 : (((((((w2.setCell ⟨R, 0, none⟩ (.int .i64 p0)).setCell ⟨R, 1, none⟩ (.int .i64 p1)).setCell ⟨R, 2, none⟩ (.int .i64 p2)).setCell ⟨R, 3, none⟩ (.int .i64 p3)).setCell ⟨R, 4, none⟩ (.int .i64 pn)).setCell ⟨R, 5, none⟩ (.int .i64 pd)).setCell ⟨R, 6, none⟩ (.int .i64 po)).cell? ⟨R, 5, none⟩ = some (.int .i64 pd) := hs.c5
  have y6 : (((((((w2.setCell ⟨R, 0, none⟩ (.int .i64 p0)).setCell ⟨R, 1, none⟩ (.int .i64 p1)).setCell ⟨R, 2, none⟩ (.int .i64 p2)).setCell ⟨R, 3, none⟩ (.int .i64 p3)).setCell ⟨R, 4, none⟩ (.int .i64 pn)).setCell ⟨R, 5, none⟩ (.int .i64 pd)).setCell ⟨R, 6, none⟩ (.int .i64 po)).cell? ⟨R, 6, none⟩ = some (.int .i64 po) := hs.c6
  (try simp only [Exit.inBlock, Exit.then])
  refine bodyPost_ret (by simp [results, Tryz.results49, go_sem, y0, y1, y2, y3, y4, y5, y6]; try rfl) rfl ?_
  exact ⟨rfl, setU_below HP3.out.c.bel hwR p0 p1 p2 p3 pn pd po⟩

set_option maxHeartbeats 2000000 in
theorem div_bad (C : Int) (u0 u1 u2 u3 un ud uo v0 v1 v2 v3 vn vd vo : Int) (w : World) (HC : Hid (∀ w, Calls Tryz.prog 60 #[.agg #[.int .i64 u0, .int .i64 u1, .int .i64 u2, .int .i64 u3, .int .i64 un, .int .i64 ud, .int .i64 uo], .agg #[.int .i64 v0, .int .i64 v1, .int .i64 v2, .int .i64 v3, .int .i64 vn, .int .i64 vd, .int .i64 vo]] w fun e w' => e = .returned (.int .i64 C) ∧ Below w.heap.size w w')) (hC0 : C ≠ 0) :
    Calls Tryz.prog 50 #[.agg #[.int .i64 u0, .int .i64 u1, .int .i64 u2, .int .i64 u3, .int .i64 un, .int .i64 ud, .int .i64 uo], .agg #[.int .i64 v0, .int .i64 v1, .int .i64 v2, .int .i64 v3, .int .i64 vn, .int .i64 vd, .int .i64 vo]] w fun e w' => e = .returned (.tuple #[.agg #[.int .i64 0, .int .i64 0, .int .i64 0, .int .i64 0, .int .i64 0, .int .i64 0, .int .i64 0], .int .i64 C]) ∧ Below w.heap.size w w' := by
  go_enter Tryz.func50, Tryz.ntmps50
  go_wp2_with fail
  obtain ⟨W, g, h, R, hW, hg, hh, hR, hRg, hRh, hwR, P1⟩ := three_units w u0 u1 u2 u3 un ud uo v0 v1 v2 v3 vn vd vo
  rw [← hW]
  try rw [← hR]
  try rw [← hh]
  try rw [← hg]
  have HP1 := Lib.hid P1
  clear hW hg hh hR P1
  refine (HC.out _).mono ?_
  rintro e w1 ⟨rfl, hb⟩
  have HP2 := Lib.hid (HP1.out.keep hb)
  clear hb HP1
  have t0 : (C != 0) = true := by rw [bne_iff_ne]; exact hC0
  obtain ⟨r0, r1, r2, r3, r4, r5, r6, rz⟩ := HP2.out.r
  go_wp2_with fail
  have hs := (HP2.out.r).set 0 0 0 0 0 0 0
  have y0 : (((((((w1.setCell ⟨R, 0, none⟩ (.int .i64 0)).setCell ⟨R, 1, none⟩ (.int .i64 0)).setCell ⟨R, 2, none⟩ (.int .i64 0)).setCell ⟨R, 3, none⟩ (.int .i64 0)).setCell ⟨R, 4, none⟩ (.int .i64 0)).setCell ⟨R, 5, none⟩ (.int .i64 0)).setCell ⟨R, 6, none⟩ (.int .i64 0)).cell? ⟨R, 0, none⟩ = some (.int .i64 0) := hs.c0
  have y1 : (((((((w1.setCell ⟨R, 0, none⟩ (.int .i64 0)).setCell ⟨R, 1, none⟩ (.int .i64 0)).setCell ⟨R, 2, none⟩ (.int .i64 0)).setCell ⟨R, 3, none⟩ (.int .i64 0)).setCell ⟨R, 4, none⟩ (.int .i64 0)).setCell ⟨R, 5, none⟩ (.int .i64 0)).setCell ⟨R, 6, none⟩ (.int .i64 0)).cell? ⟨R, 1, none⟩ = some (.int .i64 0) := hs.c1
  have y2 : (((((((w1.setCell ⟨R, 0, none⟩ (.int .i64 0)).setCell ⟨R, 1, none⟩ (.int .i64 0)).setCell ⟨R, 2, none⟩ (.int .i64 0)).setCell ⟨R, 3, none⟩ (.int .i64 0)).setCell ⟨R, 4, none⟩ (.int .i64 0)).setCell ⟨R, 5, none⟩ (.int .i64 0)).setCell ⟨R, 6, none⟩ (.int .i64 0)).cell? ⟨R, 2, none⟩ = some (.int .i64 0) := hs.c2
  have y3 : (((((((w1.setCell ⟨R, 0, none⟩ (.int .i64 0)).setCell ⟨R, 1, none⟩ (.int .i64 0)).setCell ⟨R, 2, none⟩ (.int .i64 0)).setCell ⟨R, 3, none⟩ (.int .i64 0)).setCell ⟨R, 4, none⟩ (.int .i64 0)).setCell ⟨R, 5, none⟩ (.int .i64 0)).setCell ⟨R, 6, none⟩ (.int .i64 0)).cell? ⟨R, 3, none⟩ = some (.int .i64 0) := hs.c3
  have y4 : (((((((w1.setCell ⟨R, 0, none⟩ (.int .i64 0)).setCell ⟨R, 1, none⟩ (.int .i64 0)).setCell ⟨R, 2, none⟩ (.int .i64 0)).setCell ⟨R, 3, none⟩ (.int .i64 0)).setCell ⟨R, 4, none⟩ (.int .i64 0)).setCell ⟨R, 5, none⟩ (.int .i64 0)).setCell ⟨R, 6, none⟩ (.int .i64 0)).cell? ⟨R, 4, none⟩ = some (.int .i64 0) := hs.c4
  have y5 : (((((((w1.setCell ⟨R, 0, none⟩ (.int .i64 0)).setCell ⟨R, 1, none⟩ (.int .i64 0)).setCell ⟨R, 2, none⟩ (.int .i64 0)).setCell ⟨R, 3, none⟩ (.int .i64 0)).setCell ⟨R, 4, none⟩ (.int .i64 0)).setCell ⟨R, 5, none⟩ (.int .i64 0)).setCell ⟨R, 6, none⟩ (.int .i64 0)).cell? ⟨R, 5, none⟩ = some (.int .i64 0) := hs.c5
  have y6 : (((((((w1.setCell ⟨R, 0, none⟩ (.int .i64 0)).setCell ⟨R, 1, none⟩ (.int .i64 0)).setCell ⟨R, 2, none⟩ (.int .i64 0)).setCell ⟨R, 3, none⟩ (.int .i64 0)).setCell ⟨R, 4, none⟩ (.int .i64 0)).setCell ⟨R, 5, none⟩ (.int .i64 0)).setCell ⟨R, 6, none⟩ (.int .i64 0)).cell? ⟨R, 6, none⟩ = some (.int .i64 0) := hs.c6
  (try simp only [Exit.inBlock, Exit.then])
  refine bodyPost_ret (by simp [results, Tryz.results50, go_sem, y0, y1, y2, y3, y4, y5, y6]; try rfl) rfl ?_
  exact ⟨rfl, setU_below HP2.out.c.bel hwR 0 0 0 0 0 0 0⟩

section
variable {w w' w2 : World} {g h R : Nat} {u0 u1 u2 u3 un ud uo v0 v1 v2 v3 vn vd vo : Int}
abbrev D4 (w : World) (g h : Nat) (u0 u1 u2 u3 un ud uo v0 v1 v2 v3 vn vd vo : Int) (w' : World) : Prop := w'.cell? ⟨g, 0, none⟩ = some (.int .i64 u0) ∧ w'.cell? ⟨g, 1, none⟩ = some (.int .i64 u1) ∧ w'.cell? ⟨g, 2, none⟩ = some (.int .i64 u2) ∧ w'.cell? ⟨g, 3, none⟩ = some (.int .i64 u3) ∧ w'.cell? ⟨g, 4, none⟩ = some (.int .i64 un) ∧ w'.cell? ⟨g, 5, none⟩ = some (.int .i64 ud) ∧ w'.cell? ⟨g, 6, none⟩ = some (.int .i64 uo) ∧ w'.cell? ⟨h, 0, none⟩ = some (.int .i64 v0) ∧ w'.cell? ⟨h, 1, none⟩ = some (.int .i64 v1) ∧ w'.cell? ⟨h, 2, none⟩ = some (.int .i64 v2) ∧ w'.cell? ⟨h, 3, none⟩ = some (.int .i64 v3) ∧ w'.cell? ⟨h, 4, none⟩ = some (.int .i64 vn) ∧ w'.cell? ⟨h, 5, none⟩ = some (.int .i64 vd) ∧ w'.cell? ⟨h, 6, none⟩ = some (.int .i64 vo) ∧ CR w g h u0 u1 u2 u3 un ud uo v0 v1 v2 v3 vn vd vo w'
theorem D4.cr (c : D4 w g h u0 u1 u2 u3 un ud uo v0 v1 v2 v3 vn vd vo w') : CR w g h u0 u1 u2 u3 un ud uo v0 v1 v2 v3 vn vd vo w' := c.2.2.2.2.2.2.2.2.2.2.2.2.2.2
theorem d4_of (c : CR w g h u0 u1 u2 u3 un ud uo v0 v1 v2 v3 vn vd vo w') : D4 w g h u0 u1 u2 u3 un ud uo v0 v1 v2 v3 vn vd vo w' := ⟨c.u.c0, c.u.c1, c.u.c2, c.u.c3, c.u.c4, c.u.c5, c.u.c6, c.v.c0, c.v.c1, c.v.c2, c.v.c3, c.v.c4, c.v.c5, c.v.c6, c⟩
theorem d4_keep (hb : Below w'.heap.size w' w2) (c : D4 w g h u0 u1 u2 u3 un ud uo v0 v1 v2 v3 vn vd vo w') : D4 w g h u0 u1 u2 u3 un ud uo v0 v1 v2 v3 vn vd vo w2 := d4_of (c.cr.keep hb)
theorem d4_drew (c : D4 w g h u0 u1 u2 u3 un ud uo v0 v1 v2 v3 vn vd vo w') : D4 w g h u0 u1 u2 u3 un ud uo v0 v1 v2 v3 vn vd vo w'.drew := d4_of (cr_drew c.cr)
theorem d4_set {e0 e1 e2 e3 e4 e5 e6 : Int} (c : D4 w g h u0 u1 u2 u3 un ud uo v0 v1 v2 v3 vn vd vo w') (h1 : R ≠ g) (h2 : R ≠ h) (hN : w.heap.size ≤ R) : D4 w g h u0 u1 u2 u3 un ud uo v0 v1 v2 v3 vn vd vo ((((((((w'.setCell ⟨R, 0, none⟩ (.int .i64 e0)).setCell ⟨R, 1, none⟩ (.int .i64 e1)).setCell ⟨R, 2, none⟩ (.int .i64 e2)).setCell ⟨R, 3, none⟩ (.int .i64 e3)).setCell ⟨R, 4, none⟩ (.int .i64 e4)).setCell ⟨R, 5, none⟩ (.int .i64 e5)).setCell ⟨R, 6, none⟩ (.int .i64 e6))) :=
  d4_of ⟨c.cr.u.other h1 e0 e1 e2 e3 e4 e5 e6, c.cr.v.other h2 e0 e1 e2 e3 e4 e5 e6, setU_below c.cr.bel hN e0 e1 e2 e3 e4 e5 e6⟩
end
set_option maxRecDepth 100000 in
set_option maxHeartbeats 4000000 in
theorem div_good (p0 p1 p2 p3 pn pd po i0 i1 i2 i3 inn id io X : Int) (u0 u1 u2 u3 un ud uo v0 v1 v2 v3 vn vd vo : Int) (w : World) (HC : Hid (∀ w, Calls Tryz.prog 60 #[.agg #[.int .i64 u0, .int .i64 u1, .int .i64 u2, .int .i64 u3, .int .i64 un, .int .i64 ud, .int .i64 uo], .agg #[.int .i64 v0, .int .i64 v1, .int .i64 v2, .int .i64 v3, .int .i64 vn, .int .i64 vd, .int .i64 vo]] w fun e w' => e = .returned (.int .i64 0) ∧ Below w.heap.size w w')) (HI : Hid (∀ w, Calls Tryz.prog 62 #[.agg #[.int .i64 v0, .int .i64 v1, .int .i64 v2, .int .i64 v3, .int .i64 vn, .int .i64 vd, .int .i64 vo]] w fun e w' => e = .returned (.agg #[.int .i64 i0, .int .i64 i1, .int .i64 i2, .int .i64 i3, .int .i64 inn, .int .i64 id, .int .i64 io]) ∧ Below w.heap.size w w')) (HPr : Hid (∀ w, Calls Tryz.prog 61 #[.agg #[.int .i64 u0, .int .i64 u1, .int .i64 u2, .int .i64 u3, .int .i64 un, .int .i64 ud, .int .i64 uo], .agg #[.int .i64 i0, .int .i64 i1, .int .i64 i2, .int .i64 i3, .int .i64 inn, .int .i64 id, .int .i64 io]] w fun e w' => e = .returned (.tuple #[.agg #[.int .i64 p0, .int .i64 p1, .int .i64 p2, .int .i64 p3, .int .i64 pn, .int .i64 pd, .int .i64 po], .int .i64 X]) ∧ Below w.heap.size w w')) :
    Calls Tryz.prog 50 #[.agg #[.int .i64 u0, .int .i64 u1, .int .i64 u2, .int .i64 u3, .int .i64 un, .int .i64 ud, .int .i64 uo], .agg #[.int .i64 v0, .int .i64 v1, .int .i64 v2, .int .i64 v3, .int .i64 vn, .int .i64 vd, .int .i64 vo]] w fun e w' => e = .returned (.tuple #[.agg #[.int .i64 p0, .int .i64 p1, .int .i64 p2, .int .i64 p3, .int .i64 pn, .int .i64 pd, .int .i64 po], .int .i64 X]) ∧ Below w.heap.size w w' := by
  go_enter Tryz.func50, Tryz.ntmps50
  go_wp2_with fail
  obtain ⟨W, g, h, R, hW, hg, hh, hR, hRg, hRh, hwR, P1⟩ := three_units w u0 u1 u2 u3 un ud uo v0 v1 v2 v3 vn vd vo
  rw [← hW]
  try rw [← hR]
  try rw [← hh]
  try rw [← hg]
  have HP1 := Lib.hid P1
  clear hW hg hh hR P1
  refine (HC.out _).mono ?_
  rintro e w1 ⟨rfl, hb⟩
  have HP2 := Lib.hid (HP1.out.keep hb)
  clear hb HP1
  have HR2 := Lib.hid HP2.out.r
  have HD := Lib.hid (d4_of HP2.out.c)
  have HDD := Lib.hid (d4_of (cr_drew HP2.out.c))
  unfold D4 at HD HDD
  have n0 := HP2.out.r.c0
  have n1 := HP2.out.r.c1
  have n2 := HP2.out.r.c2
  have n3 := HP2.out.r.c3
  have n4 := HP2.out.r.c4
  have n5 := HP2.out.r.c5
  have n6 := HP2.out.r.c6
  have nz := HP2.out.r.fz
  have nn := HP2.out.r
  go_wp2_with fail
  go_region_held3 (fun w' => w'.cell? ⟨g, 0, none⟩ = some (.int .i64 u0) ∧ w'.cell? ⟨g, 1, none⟩ = some (.int .i64 u1) ∧ w'.cell? ⟨g, 2, none⟩ = some (.int .i64 u2) ∧ w'.cell? ⟨g, 3, none⟩ = some (.int .i64 u3) ∧ w'.cell? ⟨g, 4, none⟩ = some (.int .i64 un) ∧ w'.cell? ⟨g, 5, none⟩ = some (.int .i64 ud) ∧ w'.cell? ⟨g, 6, none⟩ = some (.int .i64 uo) ∧ w'.cell? ⟨h, 0, none⟩ = some (.int .i64 v0) ∧ w'.cell? ⟨h, 1, none⟩ = some (.int .i64 v1) ∧ w'.cell? ⟨h, 2, none⟩ = some (.int .i64 v2) ∧ w'.cell? ⟨h, 3, none⟩ = some (.int .i64 v3) ∧ w'.cell? ⟨h, 4, none⟩ = some (.int .i64 vn) ∧ w'.cell? ⟨h, 5, none⟩ = some (.int .i64 vd) ∧ w'.cell? ⟨h, 6, none⟩ = some (.int .i64 vo) ∧ CR w g h u0 u1 u2 u3 un ud uo v0 v1 v2 v3 vn vd vo w')
    (first | (with_reducible exact HD.out) | (with_reducible exact HDD.out) | (with_reducible exact d4_set (by assumption) hRg hRh hwR) | (with_reducible exact d4_keep hb2 (by assumption)) | (with_reducible exact d4_drew (by assumption)) | go_keep)
    (first | (go_at_call 62; refine (HI.out _).mono ?_; rintro e x1 ⟨rfl, hb2⟩; have HS1 : Hid (D4 w g h u0 u1 u2 u3 un ud uo v0 v1 v2 v3 vn vd vo x1) := d4_keep hb2 ‹_›; (first | (with_reducible have nn := unit_kept nn hb2) | (with_reducible have nn := unit_kept_drew nn hb2))) | (go_at_call 61; refine (HPr.out _).mono ?_; rintro e x2 ⟨rfl, hb2⟩; have HS2 : Hid (D4 w g h u0 u1 u2 u3 un ud uo v0 v1 v2 v3 vn vd vo x2) := d4_keep hb2 ‹_›; (first | (with_reducible have nn := unit_kept nn hb2) | (with_reducible have nn := unit_kept_drew nn hb2)); have n0 := nn.c0; have n1 := nn.c1; have n2 := nn.c2; have n3 := nn.c3; have n4 := nn.c4; have n5 := nn.c5; have n6 := nn.c6; have nz := nn.fz))
  rename_i hHeld
  clear hHeld
  have hBB := HS2.out.cr.bel
  have nn2 := nn
  go_wp2_with fail
  have hs := (nn2).set p0 p1 p2 p3 pn pd po
  have y0 : (((((((x2.setCell ⟨R, 0, none⟩ (.int .i64 p0)).setCell ⟨R, 1, none⟩ (.int .i64 p1)).setCell ⟨R, 2, none⟩ (.int .i64 p2)).setCell ⟨R, 3, none⟩ (.int .i64 p3)).setCell ⟨R, 4, none⟩ (.int .i64 pn)).setCell ⟨R, 5, none⟩ (.int .i64 pd)).setCell ⟨R, 6, none⟩ (.int .i64 po)).cell? ⟨R, 0, none⟩ = some (.int .i64 p0) := hs.c0
  have y1 : (((((((x2.setCell ⟨R, 0, none⟩ (.int .i64 p0)).setCell ⟨R, 1, none⟩ (.int .i64 p1)).setCell ⟨R, 2, none⟩ (.int .i64 p2)).setCell ⟨R, 3, none⟩ (.int .i64 p3)).setCell ⟨R, 4, none⟩ (.int .i64 pn)).setCell ⟨R, 5, none⟩ (.int .i64 pd)).setCell ⟨R, 6, none⟩ (.int .i64 po)).cell? ⟨R, 1, none⟩ = some (.int .i64 p1) := hs.c1
  have y2 : (((((((x2.setCell ⟨R, 0, none⟩ (.int .i64 p0)).setCell ⟨R, 1, none⟩ (.int .i64 p1)).setCell ⟨R, 2, none⟩ (.int .i64 p2)).setCell ⟨R, 3, none⟩ (.int .i64 p3)).setCell ⟨R, 4, none⟩ (.int .i64 pn)).setCell ⟨R, 5, none⟩ (.int .i64 pd)).setCell ⟨R, 6, none⟩ (.int .i64 po)).cell? ⟨R, 2, none⟩ = some (.int .i64 p2) := hs.c2
  have y3 : (((((((x2.setCell ⟨R, 0, none⟩ (.int .i64 p0)).setCell ⟨R, 1, none⟩ (.int .i64 p1)).setCell ⟨R, 2, none⟩ (.int .i64 p2)).setCell ⟨R, 3, none⟩ (.int .i64 p3)).setCell ⟨R, 4, none⟩ (.int .i64 pn)).setCell ⟨R, 5, none⟩ (.int .i64 pd)).setCell ⟨R, 6, none⟩ (.int .i64 po)).cell? ⟨R, 3, none⟩ = some (.int .i64 p3) := hs.c3
  have y4 : (((((((x2.setCell ⟨R, 0, none⟩ (.int .i64 p0)).setCell ⟨R, 1, none⟩ (.int .i64 p1)).setCell ⟨R, 2, none⟩ (.int .i64 p2)).setCell ⟨R, 3, none⟩ (.int .i64 p3)).setCell ⟨R, 4, none⟩ (.int .i64 pn)).setCell ⟨R, 5, none⟩ (.int .i64 pd)).setCell ⟨R, 6, none⟩ (.int .i64 po)).cell? ⟨R, 4, none⟩ = some (.int .i64 pn) := hs.c4
  have y5 : (((((((x2.setCell ⟨R, 0, none⟩ (.int .i64 p0)).setCell ⟨R, 1, none⟩ (.int .i64 p1)).setCell ⟨R, 2, none⟩ (.int .i64 p2)).setCell ⟨R, 3, none⟩ (.int .i64 p3)).setCell ⟨R, 4, none⟩ (.int .i64 pn)).setCell ⟨R, 5, none⟩ (.int .i64 pd)).setCell ⟨R, 6, none⟩ (.int .i64 po)).cell? ⟨R, 5, none⟩ = some (.int .i64 pd) := hs.c5
  have y6 : (((((((x2.setCell ⟨R, 0, none⟩ (.int .i64 p0)).setCell ⟨R, 1, none⟩ (.int .i64 p1)).setCell ⟨R, 2, none⟩ (.int .i64 p2)).setCell ⟨R, 3, none⟩ (.int .i64 p3)).setCell ⟨R, 4, none⟩ (.int .i64 pn)).setCell ⟨R, 5, none⟩ (.int .i64 pd)).setCell ⟨R, 6, none⟩ (.int .i64 po)).cell? ⟨R, 6, none⟩ = some (.int .i64 po) := hs.c6
  (try simp only [Exit.inBlock, Exit.then])
  refine bodyPost_ret (by simp [results, Tryz.results50, go_sem, y0, y1, y2, y3, y4, y5, y6]; try rfl) rfl ?_
  exact ⟨rfl, setU_below hBB hwR p0 p1 p2 p3 pn pd po⟩

def zeroU : UnitD := ⟨0, 0, 0, 0, 0, 0, 0⟩
theorem checkFE_ok {u v : UnitD} (h : checkFE u v = 0) : validB u = true ∧ validB v = true ∧ u.o = 0 ∧ v.o = 0 := by
  unfold checkFE at h
  by_cases h1 : validB u = false ∨ validB v = false
  · rw [if_pos h1] at h; cases h
  · rw [if_neg h1] at h
    by_cases h2 : u.o ≠ 0 ∨ v.o ≠ 0
    · rw [if_pos h2] at h; cases h
    · exact ⟨by cases hv : validB u <;> simp_all, by cases hv : validB v <;> simp_all, by omega, by omega⟩
/-- what Mul answers, Div answers -/
def mulR (u v : UnitD) : UnitD × Int := if checkFE u v = 0 then (if validB (prodU u v) = true then (prodU u v, 0) else (zeroU, 6)) else (zeroU, checkFE u v)
def divR (u v : UnitD) : UnitD × Int := if checkFE u v = 0 then (if validB (prodU u (invU v)) = true then (prodU u (invU v), 0) else (zeroU, 6)) else (zeroU, checkFE u v)
abbrev pairU (r : UnitD × Int) : Value := .tuple #[unitV r.1, .int .i64 r.2]
theorem product_pair (u v : UnitD) (w : World) (h1 : validB u = true) (h2 : validB v = true) :
    Calls Tryz.prog 61 #[unitV u, unitV v] w fun e w' => e = .returned (pairU (if validB (prodU u v) = true then (prodU u v, 0) else (zeroU, 6))) ∧ Below w.heap.size w w' := by
  obtain ⟨u0, u1, u2, u3, un, ud, uo⟩ := u
  obtain ⟨v0, v1, v2, v3, vn, vd, vo⟩ := v
  have := product_main u0 u1 u2 u3 un ud uo v0 v1 v2 v3 vn vd vo w h1 h2
  by_cases h : validB (prodU ⟨u0, u1, u2, u3, un, ud, uo⟩ ⟨v0, v1, v2, v3, vn, vd, vo⟩) = true
  · rw [if_pos h] at this ⊢
    exact this
  · rw [if_neg h] at this ⊢
    exact this
theorem mul_any (u v : UnitD) (w : World) :
    Calls Tryz.prog 49 #[unitV u, unitV v] w fun e w' => e = .returned (pairU (mulR u v)) ∧ Below w.heap.size w w' := by
  unfold mulR
  by_cases h : checkFE u v = 0
  · rw [if_pos h]
    obtain ⟨h1, h2, _, _⟩ := checkFE_ok h
    have hp := fun w => product_pair u v w h1 h2
    have hc := fun w => checkFactors_any u.e0 u.e1 u.e2 u.e3 u.n u.d u.o v.e0 v.e1 v.e2 v.e3 v.n v.d v.o w
    rw [show checkFE ⟨u.e0, u.e1, u.e2, u.e3, u.n, u.d, u.o⟩ ⟨v.e0, v.e1, v.e2, v.e3, v.n, v.d, v.o⟩ = 0 from h] at hc
    exact mul_good _ _ _ _ _ _ _ _ _ _ _ _ _ _ _ _ _ _ _ _ _ _ w (Lib.hid hc) (Lib.hid hp)
  · rw [if_neg h]
    exact mul_bad (checkFE u v) _ _ _ _ _ _ _ _ _ _ _ _ _ _ w (Lib.hid fun w => checkFactors_any u.e0 u.e1 u.e2 u.e3 u.n u.d u.o v.e0 v.e1 v.e2 v.e3 v.n v.d v.o w) h
theorem div_any (u v : UnitD) (w : World) :
    Calls Tryz.prog 50 #[unitV u, unitV v] w fun e w' => e = .returned (pairU (divR u v)) ∧ Below w.heap.size w w' := by
  unfold divR
  by_cases h : checkFE u v = 0
  · rw [if_pos h]
    obtain ⟨h1, h2, _, h4⟩ := checkFE_ok h
    have hp := fun w => product_pair u (invU v) w h1 (inv_valid h2 h4)
    have hi := fun w => inverse_main v.e0 v.e1 v.e2 v.e3 v.n v.d v.o w h2
    have hc := fun w => checkFactors_any u.e0 u.e1 u.e2 u.e3 u.n u.d u.o v.e0 v.e1 v.e2 v.e3 v.n v.d v.o w
    rw [show checkFE ⟨u.e0, u.e1, u.e2, u.e3, u.n, u.d, u.o⟩ ⟨v.e0, v.e1, v.e2, v.e3, v.n, v.d, v.o⟩ = 0 from h] at hc
    exact div_good _ _ _ _ _ _ _ _ _ _ _ _ _ _ _ _ _ _ _ _ _ _ _ _ _ _ _ _ _ w (Lib.hid hc) (Lib.hid hi) (Lib.hid hp)
  · rw [if_neg h]
    exact div_bad (checkFE u v) _ _ _ _ _ _ _ _ _ _ _ _ _ _ w (Lib.hid fun w => checkFactors_any u.e0 u.e1 u.e2 u.e3 u.n u.d u.o v.e0 v.e1 v.e2 v.e3 v.n v.d v.o w) h
end Go.Proofs.YtlahoohgbfjciaaGreatDoor
