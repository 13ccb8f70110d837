/- The specification's combine. -/
import Derived.Test.YtjkdcbkfcmaadaaGreatDoorRb
import Derived.Test.YtjkdcbkfcmaadaaGreatDoorPc
namespace Go.Proofs.YtjkdcbkfcmaadaaGreatDoor
open Go.RowKit Go.Shelf

def combV (p : UnitD) : Value := if validB p = true then .tuple #[unitV p, .bool true] else .tuple #[.agg #[.int .i64 0, .int .i64 0, .int .i64 0, .int .i64 0, .int .i64 0, .int .i64 0, .int .i64 0], .bool false]
theorem comb_no {p : UnitD} (h : validB p = false) : Ending.returned (combV p) = .returned (.tuple #[.agg #[.int .i64 0, .int .i64 0, .int .i64 0, .int .i64 0, .int .i64 0, .int .i64 0, .int .i64 0], .bool false]) := by unfold combV; rw [h]; rfl
theorem comb_yes {p : UnitD} (h : validB p = true) : Ending.returned (combV p) = .returned (.tuple #[unitV p, .bool true]) := by unfold combV; rw [h]; rfl
theorem exp_out {s0 s1 s2 s3 N D x : Int} : ∀ (k : Nat), (match k with | 0 => s0 | 1 => s1 | 2 => s2 | _ => s3) < -9 ∨ 9 < (match k with | 0 => s0 | 1 => s1 | 2 => s2 | _ => s3) → validB ⟨s0, s1, s2, s3, N, D, x⟩ = false := by
  intro k h
  rw [Bool.eq_false_iff]
  intro hv
  obtain ⟨e0, e1, e2, e3, e4, e5, e6, e7⟩ := exp_ranges hv
  match k, h with
  | 0, h => simp only at h; omega
  | 1, h => simp only at h; omega
  | 2, h => simp only at h; omega
  | (n + 3), h => simp only at h; omega
def In9 (s : Int) : Prop := -9 ≤ s ∧ s ≤ 9
theorem below_draws (w : World) (k : Nat) : Below w.heap.size w (w.drewN k) := ⟨rfl, rfl, rfl, Nat.le_refl _, fun _ _ => rfl⟩
/-- what the numbers of a product are -/
structure CombF (un ud n d A1 B1 A2 B2 N1 D1 : Int) (b1 b2 : Bool) : Prop where
  a : 1 ≤ un
  b : 1 ≤ ud
  c : 1 ≤ n
  e : 1 ≤ d
  g1 : Nat.gcd un.toNat ud.toNat = 1
  g2 : Nat.gcd n.toNat d.toNat = 1
  hA1 : A1 = un / gI un d
  hB1 : B1 = n / gI n ud
  hA2 : A2 = ud / gI n ud
  hB2 : B2 = d / gI un d
  hN1 : N1 = timesN A1 B1
  hD1 : D1 = timesN A2 B2
  hb1 : b1 = decide (A1 * B1 ≤ 100000000000)
  hb2 : b2 = decide (A2 * B2 ≤ 100000000000)
theorem comb_pos {un ud n d A1 B1 A2 B2 N1 D1 : Int} {b1 b2 : Bool} (f : CombF un ud n d A1 B1 A2 B2 N1 D1 b1 b2) : 1 ≤ A1 ∧ 1 ≤ B1 ∧ 1 ≤ A2 ∧ 1 ≤ B2 := by
  obtain ⟨_, ⟨g2, _⟩, g4, _⟩ := gI_facts f.a f.e
  obtain ⟨_, ⟨g7, _⟩, g9, _⟩ := gI_facts f.c f.b
  rw [f.hA1, f.hB1, f.hA2, f.hB2]
  exact ⟨g2, g7, g9, g4⟩
theorem mul_pos1 {a b : Int} (ha : 1 ≤ a) (hb : 1 ≤ b) : 1 ≤ a * b := by
  have := Int.mul_le_mul ha hb (by omega) (by omega)
  omega
theorem limI_big {a b : Int} (hb : 1 ≤ b) (h : ¬ a * b ≤ 100000000000) : limI a b = 100000000001 := by
  unfold limI
  rw [if_pos ((lim_lt hb).2 (by omega))]
theorem comb_bad {un ud n d A1 B1 A2 B2 N1 D1 N D s0 s1 s2 s3 : Int} {b1 b2 : Bool} (hN : N = limI A1 B1) (hD : D = limI A2 B2) (f : CombF un ud n d A1 B1 A2 B2 N1 D1 b1 b2) (h : b1 = false ∨ b2 = false) : validB ⟨s0, s1, s2, s3, N, D, 0⟩ = false := by
  obtain ⟨p1, p2, p3, p4⟩ := comb_pos f
  rw [Bool.eq_false_iff]
  intro hv
  obtain ⟨r1, r2⟩ := scale_ranges hv
  rcases h with h | h
  · rw [f.hb1, decide_eq_false_iff_not] at h
    rw [hN, limI_big p2 h] at r1
    omega
  · rw [f.hb2, decide_eq_false_iff_not] at h
    rw [hD, limI_big p4 h] at r2
    omega
theorem comb_good {un ud n d A1 B1 A2 B2 N1 D1 N D s0 s1 s2 s3 : Int} {b1 b2 : Bool} (i0 : In9 s0) (i1 : In9 s1) (i2 : In9 s2) (i3 : In9 s3) (hN : N = limI A1 B1) (hD : D = limI A2 B2) (f : CombF un ud n d A1 B1 A2 B2 N1 D1 b1 b2) (h1 : b1 = true) (h2 : b2 = true) : N1 = N ∧ D1 = D ∧ validB ⟨s0, s1, s2, s3, N, D, 0⟩ = true := by
  obtain ⟨p1, p2, p3, p4⟩ := comb_pos f
  have m1 := mul_pos1 p1 p2
  have m2 := mul_pos1 p3 p4
  rw [f.hb1, decide_eq_true_eq] at h1
  rw [f.hb2, decide_eq_true_eq] at h2
  have e1 : N = A1 * B1 := by rw [hN]; exact limI_of p2 h1
  have e2 : D = A2 * B2 := by rw [hD]; exact limI_of p4 h2
  refine ⟨by rw [f.hN1, e1]; exact timesN_ok (by omega) h1, by rw [f.hD1, e2]; exact timesN_ok (by omega) h2, ?_⟩
  have hg := red_gcd f.a f.b f.c f.e f.g1 f.g2
  rw [← f.hA1, ← f.hB1, ← f.hA2, ← f.hB2, ← e1, ← e2] at hg
  unfold validB expB inScaleB
  unfold In9 at i0 i1 i2 i3
  simp only [Bool.and_eq_true, Bool.or_eq_true, decide_eq_true_eq, beq_iff_eq]
  exact ⟨⟨⟨⟨⟨⟨i0, i1⟩, i2⟩, i3⟩, ⟨⟨⟨by omega, by omega⟩, ⟨by omega, by omega⟩⟩, hg⟩⟩, ⟨by omega, by omega⟩⟩, .inl trivial⟩
theorem four_boxes (w : World) (t : TypeId) (u0 u1 u2 u3 un ud uo v0 v1 v2 v3 vn vd vo : Int) : ∃ (W : World) (g h R S : Nat), W = ((((w.alloc (Obj.cells #[.int .i64 u0, .int .i64 u1, .int .i64 u2, .int .i64 u3, .int .i64 un, .int .i64 ud, .int .i64 uo] t)).alloc (Obj.cells #[.int .i64 v0, .int .i64 v1, .int .i64 v2, .int .i64 v3, .int .i64 vn, .int .i64 vd, .int .i64 vo] t)).alloc (Obj.cells #[.int .i64 0, .int .i64 0, .int .i64 0, .int .i64 0, .int .i64 0, .int .i64 0, .int .i64 0] t)).alloc (Obj.cells #[.int .i64 0, .int .i64 0, .int .i64 0, .int .i64 0, .int .i64 0, .int .i64 0, .int .i64 0] t)) ∧ g = w.heap.size ∧ h = w.heap.size + 1 ∧ R = w.heap.size + 2 ∧ S = w.heap.size + 3 ∧ S ≠ g ∧ S ≠ h ∧ S ≠ R ∧ w.heap.size ≤ R ∧ w.heap.size ≤ S ∧ PR w g h R u0 u1 u2 u3 un ud uo v0 v1 v2 v3 vn vd vo W ∧ UnitAt W S 0 0 0 0 0 0 0 := by
  obtain ⟨W, g, h, hW, hg, hh, U1, V1, B1, sz⟩ := two_boxes w t u0 u1 u2 u3 un ud uo v0 v1 v2 v3 vn vd vo
  have a := unit_freshT W t 0 0 0 0 0 0 0
  have b := unit_freshT (W.alloc (Obj.cells #[.int .i64 0, .int .i64 0, .int .i64 0, .int .i64 0, .int .i64 0, .int .i64 0, .int .i64 0] t)) t 0 0 0 0 0 0 0
  rw [World.size_alloc, sz] at b
  rw [sz] at a
  have b1 := (Below.refl W.heap.size W).alloc (Nat.le_refl _) (Obj.cells #[.int .i64 0, .int .i64 0, .int .i64 0, .int .i64 0, .int .i64 0, .int .i64 0, .int .i64 0] t)
  have b2 := (Below.refl _ (W.alloc (Obj.cells #[.int .i64 0, .int .i64 0, .int .i64 0, .int .i64 0, .int .i64 0, .int .i64 0, .int .i64 0] t))).alloc (Nat.le_refl _) (Obj.cells #[.int .i64 0, .int .i64 0, .int .i64 0, .int .i64 0, .int .i64 0, .int .i64 0, .int .i64 0] t)
  refine ⟨_, g, h, w.heap.size + 2, w.heap.size + 3, by rw [← hW], hg, hh, rfl, rfl, by omega, by omega, by omega, by omega, by omega, ⟨⟨((U1.keep b1).keep b2), ((V1.keep b1).keep b2), ((B1.alloc B1.size _).alloc (B1.alloc B1.size _).size _)⟩, a.keep b2⟩, b⟩
set_option maxRecDepth 100000 in
set_option maxHeartbeats 8000000 in
theorem rcombine_pos (u0 u1 u2 u3 un ud uo v0 v1 v2 v3 vn vd vo sg : Int) (w : World) (hsg : sg = 1) (h1 : validB ⟨u0, u1, u2, u3, un, ud, uo⟩ = true) (h2 : validB ⟨v0, v1, v2, v3, vn, vd, vo⟩ = true) :
    Calls Tryz.prog 33 #[.agg #[.int .i64 u0, .int .i64 u1, .int .i64 u2, .int .i64 u3, .int .i64 un, .int .i64 ud, .int .i64 uo], .agg #[.int .i64 v0, .int .i64 v1, .int .i64 v2, .int .i64 v3, .int .i64 vn, .int .i64 vd, .int .i64 vo], .int .i64 sg] w fun e w' => e = .returned (combV (prodU ⟨u0, u1, u2, u3, un, ud, uo⟩ ⟨v0, v1, v2, v3, vn, vd, vo⟩)) ∧ Below w.heap.size w w' := by
  have HSG := Lib.hid hsg
  obtain ⟨bn, bd⟩ := scale_ranges h1
  obtain ⟨cn, cd⟩ := scale_ranges h2
  obtain ⟨e0, e1, e2, e3, e4, e5, e6, e7⟩ := exp_ranges h1
  obtain ⟨f0, f1, f2, f3, f4, f5, f6, f7⟩ := exp_ranges h2
  have tsg : decide (sg < 0) = false := by rw [hsg]; rfl
  obtain ⟨m0, hm0⟩ : ∃ x, x = sg * v0 := ⟨_, rfl⟩
  have hv0 : m0 = v0 := by rw [hm0, hsg]; omega
  have a0 : sg * v0 = m0 := hm0.symm
  have b0 : IntKind.i64.wrap (sg * v0) = m0 := by rw [a0]; exact IntWalk.i64_in _ ⟨by omega, by omega⟩
  have c0 : wrap64 m0 = m0 := IntWalk.wrap64_in _ ⟨by omega, by omega⟩
  obtain ⟨s0, hs0⟩ : ∃ x, x = u0 + m0 := ⟨_, rfl⟩
  have i0 : u0 + m0 = s0 := hs0.symm
  have j0 : IntKind.i64.wrap (u0 + m0) = s0 := by rw [i0]; exact IntWalk.i64_in _ ⟨by omega, by omega⟩
  have l0 : wrap64 s0 = s0 := IntWalk.wrap64_in _ ⟨by omega, by omega⟩
  obtain ⟨m1, hm1⟩ : ∃ x, x = sg * v1 := ⟨_, rfl⟩
  have hv1 : m1 = v1 := by rw [hm1, hsg]; omega
  have a1 : sg * v1 = m1 := hm1.symm
  have b1 : IntKind.i64.wrap (sg * v1) = m1 := by rw [a1]; exact IntWalk.i64_in _ ⟨by omega, by omega⟩
  have c1 : wrap64 m1 = m1 := IntWalk.wrap64_in _ ⟨by omega, by omega⟩
  obtain ⟨s1, hs1⟩ : ∃ x, x = u1 + m1 := ⟨_, rfl⟩
  have i1 : u1 + m1 = s1 := hs1.symm
  have j1 : IntKind.i64.wrap (u1 + m1) = s1 := by rw [i1]; exact IntWalk.i64_in _ ⟨by omega, by omega⟩
  have l1 : wrap64 s1 = s1 := IntWalk.wrap64_in _ ⟨by omega, by omega⟩
  obtain ⟨m2, hm2⟩ : ∃ x, x = sg * v2 := ⟨_, rfl⟩
  have hv2 : m2 = v2 := by rw [hm2, hsg]; omega
  have a2 : sg * v2 = m2 := hm2.symm
  have b2 : IntKind.i64.wrap (sg * v2) = m2 := by rw [a2]; exact IntWalk.i64_in _ ⟨by omega, by omega⟩
  have c2 : wrap64 m2 = m2 := IntWalk.wrap64_in _ ⟨by omega, by omega⟩
  obtain ⟨s2, hs2⟩ : ∃ x, x = u2 + m2 := ⟨_, rfl⟩
  have i2 : u2 + m2 = s2 := hs2.symm
  have j2 : IntKind.i64.wrap (u2 + m2) = s2 := by rw [i2]; exact IntWalk.i64_in _ ⟨by omega, by omega⟩
  have l2 : wrap64 s2 = s2 := IntWalk.wrap64_in _ ⟨by omega, by omega⟩
  obtain ⟨m3, hm3⟩ : ∃ x, x = sg * v3 := ⟨_, rfl⟩
  have hv3 : m3 = v3 := by rw [hm3, hsg]; omega
  have a3 : sg * v3 = m3 := hm3.symm
  have b3 : IntKind.i64.wrap (sg * v3) = m3 := by rw [a3]; exact IntWalk.i64_in _ ⟨by omega, by omega⟩
  have c3 : wrap64 m3 = m3 := IntWalk.wrap64_in _ ⟨by omega, by omega⟩
  obtain ⟨s3, hs3⟩ : ∃ x, x = u3 + m3 := ⟨_, rfl⟩
  have i3 : u3 + m3 = s3 := hs3.symm
  have j3 : IntKind.i64.wrap (u3 + m3) = s3 := by rw [i3]; exact IntWalk.i64_in _ ⟨by omega, by omega⟩
  have l3 : wrap64 s3 = s3 := IntWalk.wrap64_in _ ⟨by omega, by omega⟩
  obtain ⟨N, hN⟩ : ∃ t, t = limI (un / gI un vd) (vn / gI vn ud) := ⟨_, rfl⟩
  obtain ⟨D, hD⟩ : ∃ t, t = limI (ud / gI vn ud) (vd / gI un vd) := ⟨_, rfl⟩
  have hPU : prodU ⟨u0, u1, u2, u3, un, ud, uo⟩ ⟨v0, v1, v2, v3, vn, vd, vo⟩ = ⟨s0, s1, s2, s3, N, D, 0⟩ := by
    unfold prodU
    simp only [← hv0, ← hv1, ← hv2, ← hv3, i0, i1, i2, i3, hN, hD]
  rw [hPU]
  clear hPU hsg hm0 hm1 hm2 hm3 hv0 hv1 hv2 hv3 hs0 hs1 hs2 hs3 e0 e1 e2 e3 e4 e5 e6 e7 f0 f1 f2 f3 f4 f5 f6 f7
  obtain ⟨g1, ⟨g2, g3⟩, g4, g5⟩ := gI_facts (a := un) (b := vd) (by omega) (by omega)
  obtain ⟨g6, ⟨g7, g8⟩, g9, gA⟩ := gI_facts (a := vn) (b := ud) (by omega) (by omega)
  have hG1 : ∀ w, Calls Tryz.prog 44 #[.int .i64 un, .int .i64 vd] w fun e w' => e = .returned (.int .i64 (gI un vd)) ∧ Below w.heap.size w w' := fun w => rdivisor_int un vd w ((inScale_iff _).2 ⟨by omega, by omega⟩) ((inScale_iff _).2 ⟨by omega, by omega⟩)
  have hG2 : ∀ w, Calls Tryz.prog 44 #[.int .i64 vn, .int .i64 ud] w fun e w' => e = .returned (.int .i64 (gI vn ud)) ∧ Below w.heap.size w w' := fun w => rdivisor_int vn ud w ((inScale_iff _).2 ⟨by omega, by omega⟩) ((inScale_iff _).2 ⟨by omega, by omega⟩)
  have hL1 := fun w => rtimes_any (un / gI un vd) (vn / gI vn ud) w (by omega) (by omega) (by omega) (by omega)
  have hL2 := fun w => rtimes_any (ud / gI vn ud) (vd / gI un vd) w (by omega) (by omega) (by omega) (by omega)
  have q1 := Int.tdiv_eq_ediv_of_nonneg (a := un) (b := gI un vd) (by omega)
  have q2 := Int.tdiv_eq_ediv_of_nonneg (a := vn) (b := gI vn ud) (by omega)
  have q3 := Int.tdiv_eq_ediv_of_nonneg (a := ud) (b := gI vn ud) (by omega)
  have q4 := Int.tdiv_eq_ediv_of_nonneg (a := vd) (b := gI un vd) (by omega)
  have hBB : CombF un ud vn vd (un / gI un vd) (vn / gI vn ud) (ud / gI vn ud) (vd / gI un vd) (timesN (un / gI un vd) (vn / gI vn ud)) (timesN (ud / gI vn ud) (vd / gI un vd)) (decide (un / gI un vd * (vn / gI vn ud) ≤ 100000000000)) (decide (ud / gI vn ud * (vd / gI un vd) ≤ 100000000000)) := ⟨by omega, by omega, by omega, by omega, (valid_parts h1).2.2, (valid_parts h2).2.2, rfl, rfl, rfl, rfl, rfl, rfl, rfl, rfl⟩
  obtain ⟨A1, hA1⟩ : ∃ t, t = un / gI un vd := ⟨_, rfl⟩
  obtain ⟨B1, hB1⟩ : ∃ t, t = vn / gI vn ud := ⟨_, rfl⟩
  obtain ⟨A2, hA2⟩ : ∃ t, t = ud / gI vn ud := ⟨_, rfl⟩
  obtain ⟨B2, hB2⟩ : ∃ t, t = vd / gI un vd := ⟨_, rfl⟩
  rw [← hA1, ← hB1, ← hA2, ← hB2] at hBB
  rw [← hA1] at q1 hL1 g2 g3
  rw [← hB1] at q2 hL1 g7 g8
  rw [← hA2] at q3 hL2 g9 gA
  rw [← hB2] at q4 hL2 g4 g5
  obtain ⟨N1, hN1⟩ : ∃ t, t = timesN A1 B1 := ⟨_, rfl⟩
  obtain ⟨D1, hD1⟩ : ∃ t, t = timesN A2 B2 := ⟨_, rfl⟩
  obtain ⟨b1, hb1⟩ : ∃ t, t = decide (A1 * B1 ≤ 100000000000) := ⟨_, rfl⟩
  obtain ⟨b2, hb2⟩ : ∃ t, t = decide (A2 * B2 ≤ 100000000000) := ⟨_, rfl⟩
  rw [← hN1, ← hb1] at hL1
  rw [← hD1, ← hb2] at hL2
  rw [← hN1, ← hD1, ← hb1, ← hb2] at hBB
  rw [← hA1, ← hB1] at hN
  rw [← hA2, ← hB2] at hD
  have z1 : (gI un vd == 0) = false := by rw [beq_eq_false_iff_ne]; omega
  have z2 : (gI vn ud == 0) = false := by rw [beq_eq_false_iff_ne]; omega
  have w1 : wrap64 A1 = A1 := IntWalk.wrap64_in _ ⟨by omega, by omega⟩
  have w2 : wrap64 B1 = B1 := IntWalk.wrap64_in _ ⟨by omega, by omega⟩
  have w3 : wrap64 A2 = A2 := IntWalk.wrap64_in _ ⟨by omega, by omega⟩
  have w4 : wrap64 B2 = B2 := IntWalk.wrap64_in _ ⟨by omega, by omega⟩
  have y1 : IntKind.i64.wrap (un.tdiv (gI un vd)) = A1 := by rw [q1]; exact IntWalk.i64_in _ ⟨by omega, by omega⟩
  have y2 : IntKind.i64.wrap ((vn).tdiv (gI vn ud)) = B1 := by rw [q2]; exact IntWalk.i64_in _ ⟨by omega, by omega⟩
  have y3 : IntKind.i64.wrap (ud.tdiv (gI vn ud)) = A2 := by rw [q3]; exact IntWalk.i64_in _ ⟨by omega, by omega⟩
  have y4 : IntKind.i64.wrap ((vd).tdiv (gI un vd)) = B2 := by rw [q4]; exact IntWalk.i64_in _ ⟨by omega, by omega⟩
  have j1 : 0 ≤ un := by omega
  have j2 : 0 ≤ vn := by omega
  have j3 : 0 ≤ ud := by omega
  have j4 : 0 ≤ vd := by omega
  have j5 : 1 ≤ gI un vd := g1
  have j6 : 1 ≤ gI vn ud := g6
  obtain ⟨G1, hG1e⟩ : ∃ t, t = gI un vd := ⟨_, rfl⟩
  obtain ⟨G2, hG2e⟩ : ∃ t, t = gI vn ud := ⟨_, rfl⟩
  rw [← hG1e] at hG1 q1 q4 y1 y4 z1 hA1 hB2 j5
  rw [← hG2e] at hG2 q2 q3 y2 y3 z2 hB1 hA2 j6
  have q5 := hA1.symm
  have q6 := hB1.symm
  have q7 := hA2.symm
  have q8 := hB2.symm
  have HG1 := Lib.hid hG1
  have HG2 := Lib.hid hG2
  have HL1 := Lib.hid hL1
  have HL2 := Lib.hid hL2
  have HBB := Lib.hid hBB
  have HN1 := Lib.hid hN
  have HD1 := Lib.hid hD
  clear hBB hG1 hG2 hL1 hL2 hG1e hG2e hA1 hB1 hA2 hB2 hN hD hN1 hD1 hb1 hb2 g1 g2 g3 g4 g5 g6 g7 g8 g9 gA bn bd cn cd h1 h2
  go_enter Tryz.func33, Tryz.ntmps33
  go_wp2_with fail
  obtain ⟨W, g, h, R, S, hW, hg, hh, hR, hS, hSg, hSh, hSR, hwR, hwS, P1, S1⟩ := four_boxes w 29 u0 u1 u2 u3 un ud uo v0 v1 v2 v3 vn vd vo
  rw [← hW]
  try rw [← hS]
  try rw [← hR]
  try rw [← hh]
  try rw [← hg]
  have HP1 := Lib.hid P1
  have HS1 := Lib.hid S1
  clear hW hg hh hR hS P1 S1
  go_loopw [9] (fun i wr => (i = .int .i64 0 ∧ Hid (PR w g h R u0 u1 u2 u3 un ud uo v0 v1 v2 v3 vn vd vo wr ∧ UnitAt wr S 0 0 0 0 0 0 0 ∧ True)) ∨ (i = .int .i64 1 ∧ Hid (PR w g h R u0 u1 u2 u3 un ud uo v0 v1 v2 v3 vn vd vo wr ∧ UnitAt wr S s0 0 0 0 0 0 0 ∧ In9 s0 ∧ True)) ∨ (i = .int .i64 2 ∧ Hid (PR w g h R u0 u1 u2 u3 un ud uo v0 v1 v2 v3 vn vd vo wr ∧ UnitAt wr S s0 s1 0 0 0 0 0 ∧ In9 s0 ∧ In9 s1 ∧ True)) ∨ (i = .int .i64 3 ∧ Hid (PR w g h R u0 u1 u2 u3 un ud uo v0 v1 v2 v3 vn vd vo wr ∧ UnitAt wr S s0 s1 s2 0 0 0 0 ∧ In9 s0 ∧ In9 s1 ∧ In9 s2 ∧ True)) ∨ (i = .int .i64 4 ∧ Hid (PR w g h R u0 u1 u2 u3 un ud uo v0 v1 v2 v3 vn vd vo wr ∧ UnitAt wr S s0 s1 s2 s3 0 0 0 ∧ In9 s0 ∧ In9 s1 ∧ In9 s2 ∧ In9 s3 ∧ True))) (fun i _ => 4 - (intOf i).toNat)
  case atStart => exact .inl ⟨rfl, Lib.hid ⟨HP1.out, HS1.out, trivial⟩⟩
  case round =>
    rcases hrel with ⟨rfl, HH⟩ | ⟨rfl, HH⟩ | ⟨rfl, HH⟩ | ⟨rfl, HH⟩ | ⟨rfl, HH⟩
    · obtain ⟨hp, hs, hi⟩ := HH.out
      have HP := Lib.hid hp
      have HS := Lib.hid hs
      have HI := Lib.hid hi
      clear hp hs hi HH
      have p0 := HP.out.c.u.c0
      have p1 := HP.out.c.v.c0
      have p2 := HS.out.c0
      have p3 := HS.out.fz
      go_wp2_with fail
      go_region
      all_goals
        first
          | (have HP2 := Lib.hid (HP.out.store hSg hSh hSR hwS 0 (.int .i64 s0)); have HS2 := Lib.hid (HS.out.put_0 s0); obtain ⟨W9, hW9⟩ : ∃ x, x = wr.setCell ⟨S, 0, none⟩ (.int .i64 s0) := ⟨_, rfl⟩; rw [← hW9]; rw [← hW9] at HP2 HS2)
          | (have HP2 := Lib.hid (HP.out.store hSg hSh hSR hwS 0 (.int .i64 s0)).drew; have HS2 := Lib.hid (HS.out.put_0 s0).drew; obtain ⟨W9, hW9⟩ : ∃ x, x = (wr.setCell ⟨S, 0, none⟩ (.int .i64 s0)).drew := ⟨_, rfl⟩; rw [← hW9]; rw [← hW9] at HP2 HS2)
        clear hW9 p0 p1 p2 p3
        obtain ⟨r0, r1, r2, r3, r4, r5, r6, rz⟩ := HP2.out.r
        have p2 := HS2.out.c0
        by_cases h1 : s0 < -9
        · have t1 : decide (s0 < -9) = true := decide_eq_true h1
          have HF := Lib.hid (show validB ⟨s0, s1, s2, s3, N, D, 0⟩ = false from exp_out 0 (.inl h1))
          clear h1
          go_wp2_with fail
          have hs := (HP2.out.r).set 0 0 0 0 0 0 0
          have y0 : (((((((W9.setCell ⟨R, 0, none⟩ (.int .i64 0)).setCell ⟨R, 1, none⟩ (.int .i64 0)).setCell ⟨R, 2, none⟩ (.int .i64 0)).setCell ⟨R, 3, none⟩ (.int .i64 0)).setCell ⟨R, 4, none⟩ (.int .i64 0)).setCell ⟨R, 5, none⟩ (.int .i64 0)).setCell ⟨R, 6, none⟩ (.int .i64 0)).cell? ⟨R, 0, none⟩ = some (.int .i64 0) := hs.c0
          have y1 : (((((((W9.setCell ⟨R, 0, none⟩ (.int .i64 0)).setCell ⟨R, 1, none⟩ (.int .i64 0)).setCell ⟨R, 2, none⟩ (.int .i64 0)).setCell ⟨R, 3, none⟩ (.int .i64 0)).setCell ⟨R, 4, none⟩ (.int .i64 0)).setCell ⟨R, 5, none⟩ (.int .i64 0)).setCell ⟨R, 6, none⟩ (.int .i64 0)).cell? ⟨R, 1, none⟩ = some (.int .i64 0) := hs.c1
          have y2 : (((((((W9.setCell ⟨R, 0, none⟩ (.int .i64 0)).setCell ⟨R, 1, none⟩ (.int .i64 0)).setCell ⟨R, 2, none⟩ (.int .i64 0)).setCell ⟨R, 3, none⟩ (.int .i64 0)).setCell ⟨R, 4, none⟩ (.int .i64 0)).setCell ⟨R, 5, none⟩ (.int .i64 0)).setCell ⟨R, 6, none⟩ (.int .i64 0)).cell? ⟨R, 2, none⟩ = some (.int .i64 0) := hs.c2
          have y3 : (((((((W9.setCell ⟨R, 0, none⟩ (.int .i64 0)).setCell ⟨R, 1, none⟩ (.int .i64 0)).setCell ⟨R, 2, none⟩ (.int .i64 0)).setCell ⟨R, 3, none⟩ (.int .i64 0)).setCell ⟨R, 4, none⟩ (.int .i64 0)).setCell ⟨R, 5, none⟩ (.int .i64 0)).setCell ⟨R, 6, none⟩ (.int .i64 0)).cell? ⟨R, 3, none⟩ = some (.int .i64 0) := hs.c3
          have y4 : (((((((W9.setCell ⟨R, 0, none⟩ (.int .i64 0)).setCell ⟨R, 1, none⟩ (.int .i64 0)).setCell ⟨R, 2, none⟩ (.int .i64 0)).setCell ⟨R, 3, none⟩ (.int .i64 0)).setCell ⟨R, 4, none⟩ (.int .i64 0)).setCell ⟨R, 5, none⟩ (.int .i64 0)).setCell ⟨R, 6, none⟩ (.int .i64 0)).cell? ⟨R, 4, none⟩ = some (.int .i64 0) := hs.c4
          have y5 : (((((((W9.setCell ⟨R, 0, none⟩ (.int .i64 0)).setCell ⟨R, 1, none⟩ (.int .i64 0)).setCell ⟨R, 2, none⟩ (.int .i64 0)).setCell ⟨R, 3, none⟩ (.int .i64 0)).setCell ⟨R, 4, none⟩ (.int .i64 0)).setCell ⟨R, 5, none⟩ (.int .i64 0)).setCell ⟨R, 6, none⟩ (.int .i64 0)).cell? ⟨R, 5, none⟩ = some (.int .i64 0) := hs.c5
          have y6 : (((((((W9.setCell ⟨R, 0, none⟩ (.int .i64 0)).setCell ⟨R, 1, none⟩ (.int .i64 0)).setCell ⟨R, 2, none⟩ (.int .i64 0)).setCell ⟨R, 3, none⟩ (.int .i64 0)).setCell ⟨R, 4, none⟩ (.int .i64 0)).setCell ⟨R, 5, none⟩ (.int .i64 0)).setCell ⟨R, 6, none⟩ (.int .i64 0)).cell? ⟨R, 6, none⟩ = some (.int .i64 0) := hs.c6
          (try simp only [Exit.inBlock, Exit.then])
          refine bodyPost_ret (by simp [results, Tryz.results33, go_sem, y0, y1, y2, y3, y4, y5, y6]; try rfl) rfl ?_
          exact ⟨(comb_no HF.out).symm, (setU_below HP2.out.c.bel hwR 0 0 0 0 0 0 0).drew⟩

        · have t1 : decide (s0 < -9) = false := decide_eq_false h1
          by_cases h2 : 9 < s0
          · have t2 : decide (9 < s0) = true := decide_eq_true h2
            have HF := Lib.hid (show validB ⟨s0, s1, s2, s3, N, D, 0⟩ = false from exp_out 0 (.inr h2))
            clear h1 h2
            go_wp2_with fail
            have hs := (HP2.out.r).set 0 0 0 0 0 0 0
            have y0 : (((((((W9.setCell ⟨R, 0, none⟩ (.int .i64 0)).setCell ⟨R, 1, none⟩ (.int .i64 0)).setCell ⟨R, 2, none⟩ (.int .i64 0)).setCell ⟨R, 3, none⟩ (.int .i64 0)).setCell ⟨R, 4, none⟩ (.int .i64 0)).setCell ⟨R, 5, none⟩ (.int .i64 0)).setCell ⟨R, 6, none⟩ (.int .i64 0)).cell? ⟨R, 0, none⟩ = some (.int .i64 0) := hs.c0
            have y1 : (((((((W9.setCell ⟨R, 0, none⟩ (.int .i64 0)).setCell ⟨R, 1, none⟩ (.int .i64 0)).setCell ⟨R, 2, none⟩ (.int .i64 0)).setCell ⟨R, 3, none⟩ (.int .i64 0)).setCell ⟨R, 4, none⟩ (.int .i64 0)).setCell ⟨R, 5, none⟩ (.int .i64 0)).setCell ⟨R, 6, none⟩ (.int .i64 0)).cell? ⟨R, 1, none⟩ = some (.int .i64 0) := hs.c1
            have y2 : (((((((W9.setCell ⟨R, 0, none⟩ (.int .i64 0)).setCell ⟨R, 1, none⟩ (.int .i64 0)).setCell ⟨R, 2, none⟩ (.int .i64 0)).setCell ⟨R, 3, none⟩ (.int .i64 0)).setCell ⟨R, 4, none⟩ (.int .i64 0)).setCell ⟨R, 5, none⟩ (.int .i64 0)).setCell ⟨R, 6, none⟩ (.int .i64 0)).cell? ⟨R, 2, none⟩ = some (.int .i64 0) := hs.c2
            have y3 : (((((((W9.setCell ⟨R, 0, none⟩ (.int .i64 0)).setCell ⟨R, 1, none⟩ (.int .i64 0)).setCell ⟨R, 2, none⟩ (.int .i64 0)).setCell ⟨R, 3, none⟩ (.int .i64 0)).setCell ⟨R, 4, none⟩ (.int .i64 0)).setCell ⟨R, 5, none⟩ (.int .i64 0)).setCell ⟨R, 6, none⟩ (.int .i64 0)).cell? ⟨R, 3, none⟩ = some (.int .i64 0) := hs.c3
            have y4 : (((((((W9.setCell ⟨R, 0, none⟩ (.int .i64 0)).setCell ⟨R, 1, none⟩ (.int .i64 0)).setCell ⟨R, 2, none⟩ (.int .i64 0)).setCell ⟨R, 3, none⟩ (.int .i64 0)).setCell ⟨R, 4, none⟩ (.int .i64 0)).setCell ⟨R, 5, none⟩ (.int .i64 0)).setCell ⟨R, 6, none⟩ (.int .i64 0)).cell? ⟨R, 4, none⟩ = some (.int .i64 0) := hs.c4
            have y5 : (((((((W9.setCell ⟨R, 0, none⟩ (.int .i64 0)).setCell ⟨R, 1, none⟩ (.int .i64 0)).setCell ⟨R, 2, none⟩ (.int .i64 0)).setCell ⟨R, 3, none⟩ (.int .i64 0)).setCell ⟨R, 4, none⟩ (.int .i64 0)).setCell ⟨R, 5, none⟩ (.int .i64 0)).setCell ⟨R, 6, none⟩ (.int .i64 0)).cell? ⟨R, 5, none⟩ = some (.int .i64 0) := hs.c5
            have y6 : (((((((W9.setCell ⟨R, 0, none⟩ (.int .i64 0)).setCell ⟨R, 1, none⟩ (.int .i64 0)).setCell ⟨R, 2, none⟩ (.int .i64 0)).setCell ⟨R, 3, none⟩ (.int .i64 0)).setCell ⟨R, 4, none⟩ (.int .i64 0)).setCell ⟨R, 5, none⟩ (.int .i64 0)).setCell ⟨R, 6, none⟩ (.int .i64 0)).cell? ⟨R, 6, none⟩ = some (.int .i64 0) := hs.c6
            (try simp only [Exit.inBlock, Exit.then])
            refine bodyPost_ret (by simp [results, Tryz.results33, go_sem, y0, y1, y2, y3, y4, y5, y6]; try rfl) rfl ?_
            exact ⟨(comb_no HF.out).symm, (setU_below HP2.out.c.bel hwR 0 0 0 0 0 0 0).drew⟩

          · have t2 : decide (9 < s0) = false := decide_eq_false h2
            have HIn := Lib.hid (show In9 s0 from ⟨by omega, by omega⟩)
            clear h1 h2
            go_wp2_with fail
            go_roundw
            case rel => exact .inr (.inl ⟨rfl, Lib.hid ⟨HP2.out.drew, HS2.out.drew, HIn.out, trivial⟩⟩)
            case measure => simp [intOf]
    · obtain ⟨hp, hs, hi⟩ := HH.out
      have HP := Lib.hid hp
      have HS := Lib.hid hs
      have HI := Lib.hid hi
      clear hp hs hi HH
      have p0 := HP.out.c.u.c1
      have p1 := HP.out.c.v.c1
      have p2 := HS.out.c1
      have p3 := HS.out.fz
      go_wp2_with fail
      go_region
      all_goals
        first
          | (have HP2 := Lib.hid (HP.out.store hSg hSh hSR hwS 1 (.int .i64 s1)); have HS2 := Lib.hid (HS.out.put_1 s1); obtain ⟨W9, hW9⟩ : ∃ x, x = wr.setCell ⟨S, 1, none⟩ (.int .i64 s1) := ⟨_, rfl⟩; rw [← hW9]; rw [← hW9] at HP2 HS2)
          | (have HP2 := Lib.hid (HP.out.store hSg hSh hSR hwS 1 (.int .i64 s1)).drew; have HS2 := Lib.hid (HS.out.put_1 s1).drew; obtain ⟨W9, hW9⟩ : ∃ x, x = (wr.setCell ⟨S, 1, none⟩ (.int .i64 s1)).drew := ⟨_, rfl⟩; rw [← hW9]; rw [← hW9] at HP2 HS2)
        clear hW9 p0 p1 p2 p3
        obtain ⟨r0, r1, r2, r3, r4, r5, r6, rz⟩ := HP2.out.r
        have p2 := HS2.out.c1
        by_cases h1 : s1 < -9
        · have t1 : decide (s1 < -9) = true := decide_eq_true h1
          have HF := Lib.hid (show validB ⟨s0, s1, s2, s3, N, D, 0⟩ = false from exp_out 1 (.inl h1))
          clear h1
          go_wp2_with fail
          have hs := (HP2.out.r).set 0 0 0 0 0 0 0
          have y0 : (((((((W9.setCell ⟨R, 0, none⟩ (.int .i64 0)).setCell ⟨R, 1, none⟩ (.int .i64 0)).setCell ⟨R, 2, none⟩ (.int .i64 0)).setCell ⟨R, 3, none⟩ (.int .i64 0)).setCell ⟨R, 4, none⟩ (.int .i64 0)).setCell ⟨R, 5, none⟩ (.int .i64 0)).setCell ⟨R, 6, none⟩ (.int .i64 0)).cell? ⟨R, 0, none⟩ = some (.int .i64 0) := hs.c0
          have y1 : (((((((W9.setCell ⟨R, 0, none⟩ (.int .i64 0)).setCell ⟨R, 1, none⟩ (.int .i64 0)).setCell ⟨R, 2, none⟩ (.int .i64 0)).setCell ⟨R, 3, none⟩ (.int .i64 0)).setCell ⟨R, 4, none⟩ (.int .i64 0)).setCell ⟨R, 5, none⟩ (.int .i64 0)).setCell ⟨R, 6, none⟩ (.int .i64 0)).cell? ⟨R, 1, none⟩ = some (.int .i64 0) := hs.c1
          have y2 : (((((((W9.setCell ⟨R, 0, none⟩ (.int .i64 0)).setCell ⟨R, 1, none⟩ (.int .i64 0)).setCell ⟨R, 2, none⟩ (.int .i64 0)).setCell ⟨R, 3, none⟩ (.int .i64 0)).setCell ⟨R, 4, none⟩ (.int .i64 0)).setCell ⟨R, 5, none⟩ (.int .i64 0)).setCell ⟨R, 6, none⟩ (.int .i64 0)).cell? ⟨R, 2, none⟩ = some (.int .i64 0) := hs.c2
          have y3 : (((((((W9.setCell ⟨R, 0, none⟩ (.int .i64 0)).setCell ⟨R, 1, none⟩ (.int .i64 0)).setCell ⟨R, 2, none⟩ (.int .i64 0)).setCell ⟨R, 3, none⟩ (.int .i64 0)).setCell ⟨R, 4, none⟩ (.int .i64 0)).setCell ⟨R, 5, none⟩ (.int .i64 0)).setCell ⟨R, 6, none⟩ (.int .i64 0)).cell? ⟨R, 3, none⟩ = some (.int .i64 0) := hs.c3
          have y4 : (((((((W9.setCell ⟨R, 0, none⟩ (.int .i64 0)).setCell ⟨R, 1, none⟩ (.int .i64 0)).setCell ⟨R, 2, none⟩ (.int .i64 0)).setCell ⟨R, 3, none⟩ (.int .i64 0)).setCell ⟨R, 4, none⟩ (.int .i64 0)).setCell ⟨R, 5, none⟩ (.int .i64 0)).setCell ⟨R, 6, none⟩ (.int .i64 0)).cell? ⟨R, 4, none⟩ = some (.int .i64 0) := hs.c4
          have y5 : (((((((W9.setCell ⟨R, 0, none⟩ (.int .i64 0)).setCell ⟨R, 1, none⟩ (.int .i64 0)).setCell ⟨R, 2, none⟩ (.int .i64 0)).setCell ⟨R, 3, none⟩ (.int .i64 0)).setCell ⟨R, 4, none⟩ (.int .i64 0)).setCell ⟨R, 5, none⟩ (.int .i64 0)).setCell ⟨R, 6, none⟩ (.int .i64 0)).cell? ⟨R, 5, none⟩ = some (.int .i64 0) := hs.c5
          have y6 : (((((((W9.setCell ⟨R, 0, none⟩ (.int .i64 0)).setCell ⟨R, 1, none⟩ (.int .i64 0)).setCell ⟨R, 2, none⟩ (.int .i64 0)).setCell ⟨R, 3, none⟩ (.int .i64 0)).setCell ⟨R, 4, none⟩ (.int .i64 0)).setCell ⟨R, 5, none⟩ (.int .i64 0)).setCell ⟨R, 6, none⟩ (.int .i64 0)).cell? ⟨R, 6, none⟩ = some (.int .i64 0) := hs.c6
          (try simp only [Exit.inBlock, Exit.then])
          refine bodyPost_ret (by simp [results, Tryz.results33, go_sem, y0, y1, y2, y3, y4, y5, y6]; try rfl) rfl ?_
          exact ⟨(comb_no HF.out).symm, (setU_below HP2.out.c.bel hwR 0 0 0 0 0 0 0).drew⟩

        · have t1 : decide (s1 < -9) = false := decide_eq_false h1
          by_cases h2 : 9 < s1
          · have t2 : decide (9 < s1) = true := decide_eq_true h2
            have HF := Lib.hid (show validB ⟨s0, s1, s2, s3, N, D, 0⟩ = false from exp_out 1 (.inr h2))
            clear h1 h2
            go_wp2_with fail
            have hs := (HP2.out.r).set 0 0 0 0 0 0 0
            have y0 : (((((((W9.setCell ⟨R, 0, none⟩ (.int .i64 0)).setCell ⟨R, 1, none⟩ (.int .i64 0)).setCell ⟨R, 2, none⟩ (.int .i64 0)).setCell ⟨R, 3, none⟩ (.int .i64 0)).setCell ⟨R, 4, none⟩ (.int .i64 0)).setCell ⟨R, 5, none⟩ (.int .i64 0)).setCell ⟨R, 6, none⟩ (.int .i64 0)).cell? ⟨R, 0, none⟩ = some (.int .i64 0) := hs.c0
            have y1 : (((((((W9.setCell ⟨R, 0, none⟩ (.int .i64 0)).setCell ⟨R, 1, none⟩ (.int .i64 0)).setCell ⟨R, 2, none⟩ (.int .i64 0)).setCell ⟨R, 3, none⟩ (.int .i64 0)).setCell ⟨R, 4, none⟩ (.int .i64 0)).setCell ⟨R, 5, none⟩ (.int .i64 0)).setCell ⟨R, 6, none⟩ (.int .i64 0)).cell? ⟨R, 1, none⟩ = some (.int .i64 0) := hs.c1
            have y2 : (((((((W9.setCell ⟨R, 0, none⟩ (.int .i64 0)).setCell ⟨R, 1, none⟩ (.int .i64 0)).setCell ⟨R, 2, none⟩ (.int .i64 0)).setCell ⟨R, 3, none⟩ (.int .i64 0)).setCell ⟨R, 4, none⟩ (.int .i64 0)).setCell ⟨R, 5, none⟩ (.int .i64 0)).setCell ⟨R, 6, none⟩ (.int .i64 0)).cell? ⟨R, 2, none⟩ = some (.int .i64 0) := hs.c2
            have y3 : (((((((W9.setCell ⟨R, 0, none⟩ (.int .i64 0)).setCell ⟨R, 1, none⟩ (.int .i64 0)).setCell ⟨R, 2, none⟩ (.int .i64 0)).setCell ⟨R, 3, none⟩ (.int .i64 0)).setCell ⟨R, 4, none⟩ (.int .i64 0)).setCell ⟨R, 5, none⟩ (.int .i64 0)).setCell ⟨R, 6, none⟩ (.int .i64 0)).cell? ⟨R, 3, none⟩ = some (.int .i64 0) := hs.c3
            have y4 : (((((((W9.setCell ⟨R, 0, none⟩ (.int .i64 0)).setCell ⟨R, 1, none⟩ (.int .i64 0)).setCell ⟨R, 2, none⟩ (.int .i64 0)).setCell ⟨R, 3, none⟩ (.int .i64 0)).setCell ⟨R, 4, none⟩ (.int .i64 0)).setCell ⟨R, 5, none⟩ (.int .i64 0)).setCell ⟨R, 6, none⟩ (.int .i64 0)).cell? ⟨R, 4, none⟩ = some (.int .i64 0) := hs.c4
            have y5 : (((((((W9.setCell ⟨R, 0, none⟩ (.int .i64 0)).setCell ⟨R, 1, none⟩ (.int .i64 0)).setCell ⟨R, 2, none⟩ (.int .i64 0)).setCell ⟨R, 3, none⟩ (.int .i64 0)).setCell ⟨R, 4, none⟩ (.int .i64 0)).setCell ⟨R, 5, none⟩ (.int .i64 0)).setCell ⟨R, 6, none⟩ (.int .i64 0)).cell? ⟨R, 5, none⟩ = some (.int .i64 0) := hs.c5
            have y6 : (((((((W9.setCell ⟨R, 0, none⟩ (.int .i64 0)).setCell ⟨R, 1, none⟩ (.int .i64 0)).setCell ⟨R, 2, none⟩ (.int .i64 0)).setCell ⟨R, 3, none⟩ (.int .i64 0)).setCell ⟨R, 4, none⟩ (.int .i64 0)).setCell ⟨R, 5, none⟩ (.int .i64 0)).setCell ⟨R, 6, none⟩ (.int .i64 0)).cell? ⟨R, 6, none⟩ = some (.int .i64 0) := hs.c6
            (try simp only [Exit.inBlock, Exit.then])
            refine bodyPost_ret (by simp [results, Tryz.results33, go_sem, y0, y1, y2, y3, y4, y5, y6]; try rfl) rfl ?_
            exact ⟨(comb_no HF.out).symm, (setU_below HP2.out.c.bel hwR 0 0 0 0 0 0 0).drew⟩

          · have t2 : decide (9 < s1) = false := decide_eq_false h2
            have HIn := Lib.hid (show In9 s1 from ⟨by omega, by omega⟩)
            clear h1 h2
            go_wp2_with fail
            go_roundw
            case rel => exact .inr (.inr (.inl ⟨rfl, Lib.hid ⟨HP2.out.drew, HS2.out.drew, HI.out.1, HIn.out, trivial⟩⟩))
            case measure => simp [intOf]
    · obtain ⟨hp, hs, hi⟩ := HH.out
      have HP := Lib.hid hp
      have HS := Lib.hid hs
      have HI := Lib.hid hi
      clear hp hs hi HH
      have p0 := HP.out.c.u.c2
      have p1 := HP.out.c.v.c2
      have p2 := HS.out.c2
      have p3 := HS.out.fz
      go_wp2_with fail
      go_region
      all_goals
        first
          | (have HP2 := Lib.hid (HP.out.store hSg hSh hSR hwS 2 (.int .i64 s2)); have HS2 := Lib.hid (HS.out.put_2 s2); obtain ⟨W9, hW9⟩ : ∃ x, x = wr.setCell ⟨S, 2, none⟩ (.int .i64 s2) := ⟨_, rfl⟩; rw [← hW9]; rw [← hW9] at HP2 HS2)
          | (have HP2 := Lib.hid (HP.out.store hSg hSh hSR hwS 2 (.int .i64 s2)).drew; have HS2 := Lib.hid (HS.out.put_2 s2).drew; obtain ⟨W9, hW9⟩ : ∃ x, x = (wr.setCell ⟨S, 2, none⟩ (.int .i64 s2)).drew := ⟨_, rfl⟩; rw [← hW9]; rw [← hW9] at HP2 HS2)
        clear hW9 p0 p1 p2 p3
        obtain ⟨r0, r1, r2, r3, r4, r5, r6, rz⟩ := HP2.out.r
        have p2 := HS2.out.c2
        by_cases h1 : s2 < -9
        · have t1 : decide (s2 < -9) = true := decide_eq_true h1
          have HF := Lib.hid (show validB ⟨s0, s1, s2, s3, N, D, 0⟩ = false from exp_out 2 (.inl h1))
          clear h1
          go_wp2_with fail
          have hs := (HP2.out.r).set 0 0 0 0 0 0 0
          have y0 : (((((((W9.setCell ⟨R, 0, none⟩ (.int .i64 0)).setCell ⟨R, 1, none⟩ (.int .i64 0)).setCell ⟨R, 2, none⟩ (.int .i64 0)).setCell ⟨R, 3, none⟩ (.int .i64 0)).setCell ⟨R, 4, none⟩ (.int .i64 0)).setCell ⟨R, 5, none⟩ (.int .i64 0)).setCell ⟨R, 6, none⟩ (.int .i64 0)).cell? ⟨R, 0, none⟩ = some (.int .i64 0) := hs.c0
          have y1 : (((((((W9.setCell ⟨R, 0, none⟩ (.int .i64 0)).setCell ⟨R, 1, none⟩ (.int .i64 0)).setCell ⟨R, 2, none⟩ (.int .i64 0)).setCell ⟨R, 3, none⟩ (.int .i64 0)).setCell ⟨R, 4, none⟩ (.int .i64 0)).setCell ⟨R, 5, none⟩ (.int .i64 0)).setCell ⟨R, 6, none⟩ (.int .i64 0)).cell? ⟨R, 1, none⟩ = some (.int .i64 0) := hs.c1
          have y2 : (((((((W9.setCell ⟨R, 0, none⟩ (.int .i64 0)).setCell ⟨R, 1, none⟩ (.int .i64 0)).setCell ⟨R, 2, none⟩ (.int .i64 0)).setCell ⟨R, 3, none⟩ (.int .i64 0)).setCell ⟨R, 4, none⟩ (.int .i64 0)).setCell ⟨R, 5, none⟩ (.int .i64 0)).setCell ⟨R, 6, none⟩ (.int .i64 0)).cell? ⟨R, 2, none⟩ = some (.int .i64 0) := hs.c2
          have y3 : (((((((W9.setCell ⟨R, 0, none⟩ (.int .i64 0)).setCell ⟨R, 1, none⟩ (.int .i64 0)).setCell ⟨R, 2, none⟩ (.int .i64 0)).setCell ⟨R, 3, none⟩ (.int .i64 0)).setCell ⟨R, 4, none⟩ (.int .i64 0)).setCell ⟨R, 5, none⟩ (.int .i64 0)).setCell ⟨R, 6, none⟩ (.int .i64 0)).cell? ⟨R, 3, none⟩ = some (.int .i64 0) := hs.c3
          have y4 : (((((((W9.setCell ⟨R, 0, none⟩ (.int .i64 0)).setCell ⟨R, 1, none⟩ (.int .i64 0)).setCell ⟨R, 2, none⟩ (.int .i64 0)).setCell ⟨R, 3, none⟩ (.int .i64 0)).setCell ⟨R, 4, none⟩ (.int .i64 0)).setCell ⟨R, 5, none⟩ (.int .i64 0)).setCell ⟨R, 6, none⟩ (.int .i64 0)).cell? ⟨R, 4, none⟩ = some (.int .i64 0) := hs.c4
          have y5 : (((((((W9.setCell ⟨R, 0, none⟩ (.int .i64 0)).setCell ⟨R, 1, none⟩ (.int .i64 0)).setCell ⟨R, 2, none⟩ (.int .i64 0)).setCell ⟨R, 3, none⟩ (.int .i64 0)).setCell ⟨R, 4, none⟩ (.int .i64 0)).setCell ⟨R, 5, none⟩ (.int .i64 0)).setCell ⟨R, 6, none⟩ (.int .i64 0)).cell? ⟨R, 5, none⟩ = some (.int .i64 0) := hs.c5
          have y6 : (((((((W9.setCell ⟨R, 0, none⟩ (.int .i64 0)).setCell ⟨R, 1, none⟩ (.int .i64 0)).setCell ⟨R, 2, none⟩ (.int .i64 0)).setCell ⟨R, 3, none⟩ (.int .i64 0)).setCell ⟨R, 4, none⟩ (.int .i64 0)).setCell ⟨R, 5, none⟩ (.int .i64 0)).setCell ⟨R, 6, none⟩ (.int .i64 0)).cell? ⟨R, 6, none⟩ = some (.int .i64 0) := hs.c6
          (try simp only [Exit.inBlock, Exit.then])
          refine bodyPost_ret (by simp [results, Tryz.results33, go_sem, y0, y1, y2, y3, y4, y5, y6]; try rfl) rfl ?_
          exact ⟨(comb_no HF.out).symm, (setU_below HP2.out.c.bel hwR 0 0 0 0 0 0 0).drew⟩

        · have t1 : decide (s2 < -9) = false := decide_eq_false h1
          by_cases h2 : 9 < s2
          · have t2 : decide (9 < s2) = true := decide_eq_true h2
            have HF := Lib.hid (show validB ⟨s0, s1, s2, s3, N, D, 0⟩ = false from exp_out 2 (.inr h2))
            clear h1 h2
            go_wp2_with fail
            have hs := (HP2.out.r).set 0 0 0 0 0 0 0
            have y0 : (((((((W9.setCell ⟨R, 0, none⟩ (.int .i64 0)).setCell ⟨R, 1, none⟩ (.int .i64 0)).setCell ⟨R, 2, none⟩ (.int .i64 0)).setCell ⟨R, 3, none⟩ (.int .i64 0)).setCell ⟨R, 4, none⟩ (.int .i64 0)).setCell ⟨R, 5, none⟩ (.int .i64 0)).setCell ⟨R, 6, none⟩ (.int .i64 0)).cell? ⟨R, 0, none⟩ = some (.int .i64 0) := hs.c0
            have y1 : (((((((W9.setCell ⟨R, 0, none⟩ (.int .i64 0)).setCell ⟨R, 1, none⟩ (.int .i64 0)).setCell ⟨R, 2, none⟩ (.int .i64 0)).setCell ⟨R, 3, none⟩ (.int .i64 0)).setCell ⟨R, 4, none⟩ (.int .i64 0)).setCell ⟨R, 5, none⟩ (.int .i64 0)).setCell ⟨R, 6, none⟩ (.int .i64 0)).cell? ⟨R, 1, none⟩ = some (.int .i64 0) := hs.c1
            have y2 : (((((((W9.setCell ⟨R, 0, none⟩ (.int .i64 0)).setCell ⟨R, 1, none⟩ (.int .i64 0)).setCell ⟨R, 2, none⟩ (.int .i64 0)).setCell ⟨R, 3, none⟩ (.int .i64 0)).setCell ⟨R, 4, none⟩ (.int .i64 0)).setCell ⟨R, 5, none⟩ (.int .i64 0)).setCell ⟨R, 6, none⟩ (.int .i64 0)).cell? ⟨R, 2, none⟩ = some (.int .i64 0) := hs.c2
            have y3 : (((((((W9.setCell ⟨R, 0, none⟩ (.int .i64 0)).setCell ⟨R, 1, none⟩ (.int .i64 0)).setCell ⟨R, 2, none⟩ (.int .i64 0)).setCell ⟨R, 3, none⟩ (.int .i64 0)).setCell ⟨R, 4, none⟩ (.int .i64 0)).setCell ⟨R, 5, none⟩ (.int .i64 0)).setCell ⟨R, 6, none⟩ (.int .i64 0)).cell? ⟨R, 3, none⟩ = some (.int .i64 0) := hs.c3
            have y4 : (((((((W9.setCell ⟨R, 0, none⟩ (.int .i64 0)).setCell ⟨R, 1, none⟩ (.int .i64 0)).setCell ⟨R, 2, none⟩ (.int .i64 0)).setCell ⟨R, 3, none⟩ (.int .i64 0)).setCell ⟨R, 4, none⟩ (.int .i64 0)).setCell ⟨R, 5, none⟩ (.int .i64 0)).setCell ⟨R, 6, none⟩ (.int .i64 0)).cell? ⟨R, 4, none⟩ = some (.int .i64 0) := hs.c4
            have y5 : (((((((W9.setCell ⟨R, 0, none⟩ (.int .i64 0)).setCell ⟨R, 1, none⟩ (.int .i64 0)).setCell ⟨R, 2, none⟩ (.int .i64 0)).setCell ⟨R, 3, none⟩ (.int .i64 0)).setCell ⟨R, 4, none⟩ (.int .i64 0)).setCell ⟨R, 5, none⟩ (.int .i64 0)).setCell ⟨R, 6, none⟩ (.int .i64 0)).cell? ⟨R, 5, none⟩ = some (.int .i64 0) := hs.c5
            have y6 : (((((((W9.setCell ⟨R, 0, none⟩ (.int .i64 0)).setCell ⟨R, 1, none⟩ (.int .i64 0)).setCell ⟨R, 2, none⟩ (.int .i64 0)).setCell ⟨R, 3, none⟩ (.int .i64 0)).setCell ⟨R, 4, none⟩ (.int .i64 0)).setCell ⟨R, 5, none⟩ (.int .i64 0)).setCell ⟨R, 6, none⟩ (.int .i64 0)).cell? ⟨R, 6, none⟩ = some (.int .i64 0) := hs.c6
            (try simp only [Exit.inBlock, Exit.then])
            refine bodyPost_ret (by simp [results, Tryz.results33, go_sem, y0, y1, y2, y3, y4, y5, y6]; try rfl) rfl ?_
            exact ⟨(comb_no HF.out).symm, (setU_below HP2.out.c.bel hwR 0 0 0 0 0 0 0).drew⟩

          · have t2 : decide (9 < s2) = false := decide_eq_false h2
            have HIn := Lib.hid (show In9 s2 from ⟨by omega, by omega⟩)
            clear h1 h2
            go_wp2_with fail
            go_roundw
            case rel => exact .inr (.inr (.inr (.inl ⟨rfl, Lib.hid ⟨HP2.out.drew, HS2.out.drew, HI.out.1, HI.out.2.1, HIn.out, trivial⟩⟩)))
            case measure => simp [intOf]
    · obtain ⟨hp, hs, hi⟩ := HH.out
      have HP := Lib.hid hp
      have HS := Lib.hid hs
      have HI := Lib.hid hi
      clear hp hs hi HH
      have p0 := HP.out.c.u.c3
      have p1 := HP.out.c.v.c3
      have p2 := HS.out.c3
      have p3 := HS.out.fz
      go_wp2_with fail
      go_region
      all_goals
        first
          | (have HP2 := Lib.hid (HP.out.store hSg hSh hSR hwS 3 (.int .i64 s3)); have HS2 := Lib.hid (HS.out.put_3 s3); obtain ⟨W9, hW9⟩ : ∃ x, x = wr.setCell ⟨S, 3, none⟩ (.int .i64 s3) := ⟨_, rfl⟩; rw [← hW9]; rw [← hW9] at HP2 HS2)
          | (have HP2 := Lib.hid (HP.out.store hSg hSh hSR hwS 3 (.int .i64 s3)).drew; have HS2 := Lib.hid (HS.out.put_3 s3).drew; obtain ⟨W9, hW9⟩ : ∃ x, x = (wr.setCell ⟨S, 3, none⟩ (.int .i64 s3)).drew := ⟨_, rfl⟩; rw [← hW9]; rw [← hW9] at HP2 HS2)
        clear hW9 p0 p1 p2 p3
        obtain ⟨r0, r1, r2, r3, r4, r5, r6, rz⟩ := HP2.out.r
        have p2 := HS2.out.c3
        by_cases h1 : s3 < -9
        · have t1 : decide (s3 < -9) = true := decide_eq_true h1
          have HF := Lib.hid (show validB ⟨s0, s1, s2, s3, N, D, 0⟩ = false from exp_out 3 (.inl h1))
          clear h1
          go_wp2_with fail
          have hs := (HP2.out.r).set 0 0 0 0 0 0 0
          have y0 : (((((((W9.setCell ⟨R, 0, none⟩ (.int .i64 0)).setCell ⟨R, 1, none⟩ (.int .i64 0)).setCell ⟨R, 2, none⟩ (.int .i64 0)).setCell ⟨R, 3, none⟩ (.int .i64 0)).setCell ⟨R, 4, none⟩ (.int .i64 0)).setCell ⟨R, 5, none⟩ (.int .i64 0)).setCell ⟨R, 6, none⟩ (.int .i64 0)).cell? ⟨R, 0, none⟩ = some (.int .i64 0) := hs.c0
          have y1 : (((((((W9.setCell ⟨R, 0, none⟩ (.int .i64 0)).setCell ⟨R, 1, none⟩ (.int .i64 0)).setCell ⟨R, 2, none⟩ (.int .i64 0)).setCell ⟨R, 3, none⟩ (.int .i64 0)).setCell ⟨R, 4, none⟩ (.int .i64 0)).setCell ⟨R, 5, none⟩ (.int .i64 0)).setCell ⟨R, 6, none⟩ (.int .i64 0)).cell? ⟨R, 1, none⟩ = some (.int .i64 0) := hs.c1
          have y2 : (((((((W9.setCell ⟨R, 0, none⟩ (.int .i64 0)).setCell ⟨R, 1, none⟩ (.int .i64 0)).setCell ⟨R, 2, none⟩ (.int .i64 0)).setCell ⟨R, 3, none⟩ (.int .i64 0)).setCell ⟨R, 4, none⟩ (.int .i64 0)).setCell ⟨R, 5, none⟩ (.int .i64 0)).setCell ⟨R, 6, none⟩ (.int .i64 0)).cell? ⟨R, 2, none⟩ = some (.int .i64 0) := hs.c2
          have y3 : (((((((W9.setCell ⟨R, 0, none⟩ (.int .i64 0)).setCell ⟨R, 1, none⟩ (.int .i64 0)).setCell ⟨R, 2, none⟩ (.int .i64 0)).setCell ⟨R, 3, none⟩ (.int .i64 0)).setCell ⟨R, 4, none⟩ (.int .i64 0)).setCell ⟨R, 5, none⟩ (.int .i64 0)).setCell ⟨R, 6, none⟩ (.int .i64 0)).cell? ⟨R, 3, none⟩ = some (.int .i64 0) := hs.c3
          have y4 : (((((((W9.setCell ⟨R, 0, none⟩ (.int .i64 0)).setCell ⟨R, 1, none⟩ (.int .i64 0)).setCell ⟨R, 2, none⟩ (.int .i64 0)).setCell ⟨R, 3, none⟩ (.int .i64 0)).setCell ⟨R, 4, none⟩ (.int .i64 0)).setCell ⟨R, 5, none⟩ (.int .i64 0)).setCell ⟨R, 6, none⟩ (.int .i64 0)).cell? ⟨R, 4, none⟩ = some (.int .i64 0) := hs.c4
          have y5 : (((((((W9.setCell ⟨R, 0, none⟩ (.int .i64 0)).setCell ⟨R, 1, none⟩ (.int .i64 0)).setCell ⟨R, 2, none⟩ (.int .i64 0)).setCell ⟨R, 3, none⟩ (.int .i64 0)).setCell ⟨R, 4, none⟩ (.int .i64 0)).setCell ⟨R, 5, none⟩ (.int .i64 0)).setCell ⟨R, 6, none⟩ (.int .i64 0)).cell? ⟨R, 5, none⟩ = some (.int .i64 0) := hs.c5
          have y6 : (((((((W9.setCell ⟨R, 0, none⟩ (.int .i64 0)).setCell ⟨R, 1, none⟩ (.int .i64 0)).setCell ⟨R, 2, none⟩ (.int .i64 0)).setCell ⟨R, 3, none⟩ (.int .i64 0)).setCell ⟨R, 4, none⟩ (.int .i64 0)).setCell ⟨R, 5, none⟩ (.int .i64 0)).setCell ⟨R, 6, none⟩ (.int .i64 0)).cell? ⟨R, 6, none⟩ = some (.int .i64 0) := hs.c6
          (try simp only [Exit.inBlock, Exit.then])
          refine bodyPost_ret (by simp [results, Tryz.results33, go_sem, y0, y1, y2, y3, y4, y5, y6]; try rfl) rfl ?_
          exact ⟨(comb_no HF.out).symm, (setU_below HP2.out.c.bel hwR 0 0 0 0 0 0 0).drew⟩

        · have t1 : decide (s3 < -9) = false := decide_eq_false h1
          by_cases h2 : 9 < s3
          · have t2 : decide (9 < s3) = true := decide_eq_true h2
            have HF := Lib.hid (show validB ⟨s0, s1, s2, s3, N, D, 0⟩ = false from exp_out 3 (.inr h2))
            clear h1 h2
            go_wp2_with fail
            have hs := (HP2.out.r).set 0 0 0 0 0 0 0
            have y0 : (((((((W9.setCell ⟨R, 0, none⟩ (.int .i64 0)).setCell ⟨R, 1, none⟩ (.int .i64 0)).setCell ⟨R, 2, none⟩ (.int .i64 0)).setCell ⟨R, 3, none⟩ (.int .i64 0)).setCell ⟨R, 4, none⟩ (.int .i64 0)).setCell ⟨R, 5, none⟩ (.int .i64 0)).setCell ⟨R, 6, none⟩ (.int .i64 0)).cell? ⟨R, 0, none⟩ = some (.int .i64 0) := hs.c0
            have y1 : (((((((W9.setCell ⟨R, 0, none⟩ (.int .i64 0)).setCell ⟨R, 1, none⟩ (.int .i64 0)).setCell ⟨R, 2, none⟩ (.int .i64 0)).setCell ⟨R, 3, none⟩ (.int .i64 0)).setCell ⟨R, 4, none⟩ (.int .i64 0)).setCell ⟨R, 5, none⟩ (.int .i64 0)).setCell ⟨R, 6, none⟩ (.int .i64 0)).cell? ⟨R, 1, none⟩ = some (.int .i64 0) := hs.c1
            have y2 : (((((((W9.setCell ⟨R, 0, none⟩ (.int .i64 0)).setCell ⟨R, 1, none⟩ (.int .i64 0)).setCell ⟨R, 2, none⟩ (.int .i64 0)).setCell ⟨R, 3, none⟩ (.int .i64 0)).setCell ⟨R, 4, none⟩ (.int .i64 0)).setCell ⟨R, 5, none⟩ (.int .i64 0)).setCell ⟨R, 6, none⟩ (.int .i64 0)).cell? ⟨R, 2, none⟩ = some (.int .i64 0) := hs.c2
            have y3 : (((((((W9.setCell ⟨R, 0, none⟩ (.int .i64 0)).setCell ⟨R, 1, none⟩ (.int .i64 0)).setCell ⟨R, 2, none⟩ (.int .i64 0)).setCell ⟨R, 3, none⟩ (.int .i64 0)).setCell ⟨R, 4, none⟩ (.int .i64 0)).setCell ⟨R, 5, none⟩ (.int .i64 0)).setCell ⟨R, 6, none⟩ (.int .i64 0)).cell? ⟨R, 3, none⟩ = some (.int .i64 0) := hs.c3
            have y4 : (((((((W9.setCell ⟨R, 0, none⟩ (.int .i64 0)).setCell ⟨R, 1, none⟩ (.int .i64 0)).setCell ⟨R, 2, none⟩ (.int .i64 0)).setCell ⟨R, 3, none⟩ (.int .i64 0)).setCell ⟨R, 4, none⟩ (.int .i64 0)).setCell ⟨R, 5, none⟩ (.int .i64 0)).setCell ⟨R, 6, none⟩ (.int .i64 0)).cell? ⟨R, 4, none⟩ = some (.int .i64 0) := hs.c4
            have y5 : (((((((W9.setCell ⟨R, 0, none⟩ (.int .i64 0)).setCell ⟨R, 1, none⟩ (.int .i64 0)).setCell ⟨R, 2, none⟩ (.int .i64 0)).setCell ⟨R, 3, none⟩ (.int .i64 0)).setCell ⟨R, 4, none⟩ (.int .i64 0)).setCell ⟨R, 5, none⟩ (.int .i64 0)).setCell ⟨R, 6, none⟩ (.int .i64 0)).cell? ⟨R, 5, none⟩ = some (.int .i64 0) := hs.c5
            have y6 : (((((((W9.setCell ⟨R, 0, none⟩ (.int .i64 0)).setCell ⟨R, 1, none⟩ (.int .i64 0)).setCell ⟨R, 2, none⟩ (.int .i64 0)).setCell ⟨R, 3, none⟩ (.int .i64 0)).setCell ⟨R, 4, none⟩ (.int .i64 0)).setCell ⟨R, 5, none⟩ (.int .i64 0)).setCell ⟨R, 6, none⟩ (.int .i64 0)).cell? ⟨R, 6, none⟩ = some (.int .i64 0) := hs.c6
            (try simp only [Exit.inBlock, Exit.then])
            refine bodyPost_ret (by simp [results, Tryz.results33, go_sem, y0, y1, y2, y3, y4, y5, y6]; try rfl) rfl ?_
            exact ⟨(comb_no HF.out).symm, (setU_below HP2.out.c.bel hwR 0 0 0 0 0 0 0).drew⟩

          · have t2 : decide (9 < s3) = false := decide_eq_false h2
            have HIn := Lib.hid (show In9 s3 from ⟨by omega, by omega⟩)
            clear h1 h2
            go_wp2_with fail
            go_roundw
            case rel => exact .inr (.inr (.inr (.inr (⟨rfl, Lib.hid ⟨HP2.out.drew, HS2.out.drew, HI.out.1, HI.out.2.1, HI.out.2.2.1, HIn.out, trivial⟩⟩))))
            case measure => simp [intOf]
    · obtain ⟨hp, hs, hi⟩ := HH.out
      have HP := Lib.hid hp
      have HS := Lib.hid hs
      have HI := Lib.hid hi
      clear hp hs hi HH HP1 HS1
      have q0 := HP.out.c.v.c4
      have q1 := HP.out.c.v.c5
      go_wp2_with fail
      go_quiet (fail)
      have HP8 := Lib.hid (HP.out.keep (below_draws wr nq))
      have HS8 := Lib.hid (HS.out.keep (below_draws wr nq))
      obtain ⟨W8, hW8⟩ : ∃ x, x = wr.drewN nq := ⟨_, rfl⟩
      rw [← hW8] at HP8 HS8 ⊢
      clear q0 q1 HP HS hW8
      go_wp2_with fail
      have HD := Lib.hid (ps_of HP8.out HS8.out)
      have HDD := Lib.hid (ps_drew (ps_of HP8.out HS8.out))
      unfold PS at HD HDD
      go_region_held3 (fun w' => w'.cell? ⟨g, 4, none⟩ = some (.int .i64 un) ∧ w'.cell? ⟨h, 5, none⟩ = some (.int .i64 vd) ∧ w'.cell? ⟨h, 4, none⟩ = some (.int .i64 vn) ∧ w'.cell? ⟨g, 5, none⟩ = some (.int .i64 ud) ∧ PR w g h R u0 u1 u2 u3 un ud uo v0 v1 v2 v3 vn vd vo w' ∧ UnitAt w' S s0 s1 s2 s3 0 0 0)
        (first | exact HD.out | exact HDD.out | exact ps_keep hb2 ‹_› | exact ps_drew ‹_› | go_keep)
        (first | (go_at_call_of 44 (Value.int IntKind.i64 un); refine (HG1.out _).mono ?_; rintro e x1 ⟨rfl, hb2⟩; have HS1 : Hid (PS w g h R S u0 u1 u2 u3 un ud uo v0 v1 v2 v3 vn vd vo s0 s1 s2 s3 0 0 0 x1) := ps_keep hb2 ‹_›) | (go_at_call_of 44 (Value.int IntKind.i64 vn); refine (HG2.out _).mono ?_; rintro e x2 ⟨rfl, hb2⟩; have HS2 : Hid (PS w g h R S u0 u1 u2 u3 un ud uo v0 v1 v2 v3 vn vd vo s0 s1 s2 s3 0 0 0 x2) := ps_keep hb2 ‹_›))
      rename_i hHeld
      obtain ⟨hp, hs⟩ := hHeld.2.2.2.2
      clear hHeld HS2 HS1
      have HP2 := Lib.hid hp
      have HS2 := Lib.hid hs
      clear hp hs HD HDD HS8 HP8
      obtain ⟨W7, hW7⟩ : ∃ x, x = x2 := ⟨_, rfl⟩
      rw [← hW7] at HP2 HS2 ⊢
      clear hW7
      go_wp2_with fail
      go_cut [14] from 64 (fun sl wx => sl = .bool b1 ∧ Hid (PR w g h R u0 u1 u2 u3 un ud uo v0 v1 v2 v3 vn vd vo wx ∧ UnitAt wx S s0 s1 s2 s3 N1 0 0))
      case first =>
        have n4 := HS2.out.c4
        have nz := HS2.out.fz
        have HD := Lib.hid (p4_of HP2.out)
        have HDD := Lib.hid (p4_of HP2.out.drew)
        unfold P4 at HD HDD
        set_option warningAsError false in go_region_held3 (fun w' => w'.cell? ⟨g, 4, none⟩ = some (.int .i64 un) ∧ w'.cell? ⟨h, 4, none⟩ = some (.int .i64 vn) ∧ PR w g h R u0 u1 u2 u3 un ud uo v0 v1 v2 v3 vn vd vo w')
          (first | exact HD.out | exact HDD.out | exact p4_store ‹_› hSg hSh hSR hwS _ _ | exact p4_drew ‹_› | go_keep)
          (first | (go_at_call 65; refine (HL1.out _).mono ?_; rintro e x3 ⟨rfl, rfl⟩))
        all_goals
          rename_i hHeld
          have hC := hHeld.2.2
          clear hHeld n4 nz
          go_wp2_with fail
          go_meet
          first
            | exact ⟨rfl, Lib.hid ⟨hC, HS2.out.put_4 N1⟩⟩
            | exact ⟨rfl, Lib.hid ⟨hC, (HS2.out.put_4 N1).drew⟩⟩
            | exact ⟨rfl, Lib.hid ⟨hC, HS2.out.drew.put_4 N1⟩⟩
      case rest =>
      obtain ⟨rfl, hh⟩ := hcut
      obtain ⟨hp, hs⟩ := hh.out
      clear hh HP2 HS2
      have HP2 := Lib.hid hp
      have HS2 := Lib.hid hs
      clear hp hs
      go_wp2_with fail
      go_cut [15] from 76 (fun sl wx => sl = .bool b2 ∧ Hid (PR w g h R u0 u1 u2 u3 un ud uo v0 v1 v2 v3 vn vd vo wx ∧ UnitAt wx S s0 s1 s2 s3 N1 D1 0))
      case first =>
        have n4 := HS2.out.c5
        have nz := HS2.out.fz
        have HD := Lib.hid (p5_of HP2.out)
        have HDD := Lib.hid (p5_of HP2.out.drew)
        unfold P5 at HD HDD
        set_option warningAsError false in go_region_held3 (fun w' => w'.cell? ⟨g, 5, none⟩ = some (.int .i64 ud) ∧ w'.cell? ⟨h, 5, none⟩ = some (.int .i64 vd) ∧ PR w g h R u0 u1 u2 u3 un ud uo v0 v1 v2 v3 vn vd vo w')
          (first | exact HD.out | exact HDD.out | exact p5_store ‹_› hSg hSh hSR hwS _ _ | exact p5_drew ‹_› | go_keep)
          (first | (go_at_call 65; refine (HL2.out _).mono ?_; rintro e x3 ⟨rfl, rfl⟩))
        all_goals
          rename_i hHeld
          have hC := hHeld.2.2
          clear hHeld n4 nz
          go_wp2_with fail
          go_meet
          first
            | exact ⟨rfl, Lib.hid ⟨hC, HS2.out.put_5 D1⟩⟩
            | exact ⟨rfl, Lib.hid ⟨hC, (HS2.out.put_5 D1).drew⟩⟩
            | exact ⟨rfl, Lib.hid ⟨hC, HS2.out.drew.put_5 D1⟩⟩
      case rest =>
      obtain ⟨rfl, hh⟩ := hcut
      obtain ⟨hp, hs⟩ := hh.out
      clear hh HP2 HS2
      have HP2 := Lib.hid hp
      have HS2 := Lib.hid hs
      clear hp hs
      cases b1
      · obtain ⟨r0, r1, r2, r3, r4, r5, r6, rz⟩ := HP2.out.r
        have HF := Lib.hid (comb_bad (s0 := s0) (s1 := s1) (s2 := s2) (s3 := s3) HN1.out HD1.out HBB.out (.inl rfl))
        go_wp2_with fail
        have hs := (HP2.out.r).set 0 0 0 0 0 0 0
        have y0 : (((((((wc.setCell ⟨R, 0, none⟩ (.int .i64 0)).setCell ⟨R, 1, none⟩ (.int .i64 0)).setCell ⟨R, 2, none⟩ (.int .i64 0)).setCell ⟨R, 3, none⟩ (.int .i64 0)).setCell ⟨R, 4, none⟩ (.int .i64 0)).setCell ⟨R, 5, none⟩ (.int .i64 0)).setCell ⟨R, 6, none⟩ (.int .i64 0)).cell? ⟨R, 0, none⟩ = some (.int .i64 0) := hs.c0
        have y1 : (((((((wc.setCell ⟨R, 0, none⟩ (.int .i64 0)).setCell ⟨R, 1, none⟩ (.int .i64 0)).setCell ⟨R, 2, none⟩ (.int .i64 0)).setCell ⟨R, 3, none⟩ (.int .i64 0)).setCell ⟨R, 4, none⟩ (.int .i64 0)).setCell ⟨R, 5, none⟩ (.int .i64 0)).setCell ⟨R, 6, none⟩ (.int .i64 0)).cell? ⟨R, 1, none⟩ = some (.int .i64 0) := hs.c1
        have y2 : (((((((wc.setCell ⟨R, 0, none⟩ (.int .i64 0)).setCell ⟨R, 1, none⟩ (.int .i64 0)).setCell ⟨R, 2, none⟩ (.int .i64 0)).setCell ⟨R, 3, none⟩ (.int .i64 0)).setCell ⟨R, 4, none⟩ (.int .i64 0)).setCell ⟨R, 5, none⟩ (.int .i64 0)).setCell ⟨R, 6, none⟩ (.int .i64 0)).cell? ⟨R, 2, none⟩ = some (.int .i64 0) := hs.c2
        have y3 : (((((((wc.setCell ⟨R, 0, none⟩ (.int .i64 0)).setCell ⟨R, 1, none⟩ (.int .i64 0)).setCell ⟨R, 2, none⟩ (.int .i64 0)).setCell ⟨R, 3, none⟩ (.int .i64 0)).setCell ⟨R, 4, none⟩ (.int .i64 0)).setCell ⟨R, 5, none⟩ (.int .i64 0)).setCell ⟨R, 6, none⟩ (.int .i64 0)).cell? ⟨R, 3, none⟩ = some (.int .i64 0) := hs.c3
        have y4 : (((((((wc.setCell ⟨R, 0, none⟩ (.int .i64 0)).setCell ⟨R, 1, none⟩ (.int .i64 0)).setCell ⟨R, 2, none⟩ (.int .i64 0)).setCell ⟨R, 3, none⟩ (.int .i64 0)).setCell ⟨R, 4, none⟩ (.int .i64 0)).setCell ⟨R, 5, none⟩ (.int .i64 0)).setCell ⟨R, 6, none⟩ (.int .i64 0)).cell? ⟨R, 4, none⟩ = some (.int .i64 0) := hs.c4
        have y5 : (((((((wc.setCell ⟨R, 0, none⟩ (.int .i64 0)).setCell ⟨R, 1, none⟩ (.int .i64 0)).setCell ⟨R, 2, none⟩ (.int .i64 0)).setCell ⟨R, 3, none⟩ (.int .i64 0)).setCell ⟨R, 4, none⟩ (.int .i64 0)).setCell ⟨R, 5, none⟩ (.int .i64 0)).setCell ⟨R, 6, none⟩ (.int .i64 0)).cell? ⟨R, 5, none⟩ = some (.int .i64 0) := hs.c5
        have y6 : (((((((wc.setCell ⟨R, 0, none⟩ (.int .i64 0)).setCell ⟨R, 1, none⟩ (.int .i64 0)).setCell ⟨R, 2, none⟩ (.int .i64 0)).setCell ⟨R, 3, none⟩ (.int .i64 0)).setCell ⟨R, 4, none⟩ (.int .i64 0)).setCell ⟨R, 5, none⟩ (.int .i64 0)).setCell ⟨R, 6, none⟩ (.int .i64 0)).cell? ⟨R, 6, none⟩ = some (.int .i64 0) := hs.c6
        (try simp only [Exit.inBlock, Exit.then])
        refine bodyPost_ret (by simp [results, Tryz.results33, go_sem, y0, y1, y2, y3, y4, y5, y6]; try rfl) rfl ?_
        exact ⟨(comb_no HF.out).symm, (setU_below HP2.out.c.bel hwR 0 0 0 0 0 0 0)⟩
      · cases b2
        · obtain ⟨r0, r1, r2, r3, r4, r5, r6, rz⟩ := HP2.out.r
          have HF := Lib.hid (comb_bad (s0 := s0) (s1 := s1) (s2 := s2) (s3 := s3) HN1.out HD1.out HBB.out (.inr rfl))
          go_wp2_with fail
          have hs := (HP2.out.r).set 0 0 0 0 0 0 0
          have y0 : (((((((wc.setCell ⟨R, 0, none⟩ (.int .i64 0)).setCell ⟨R, 1, none⟩ (.int .i64 0)).setCell ⟨R, 2, none⟩ (.int .i64 0)).setCell ⟨R, 3, none⟩ (.int .i64 0)).setCell ⟨R, 4, none⟩ (.int .i64 0)).setCell ⟨R, 5, none⟩ (.int .i64 0)).setCell ⟨R, 6, none⟩ (.int .i64 0)).cell? ⟨R, 0, none⟩ = some (.int .i64 0) := hs.c0
          have y1 : (((((((wc.setCell ⟨R, 0, none⟩ (.int .i64 0)).setCell ⟨R, 1, none⟩ (.int .i64 0)).setCell ⟨R, 2, none⟩ (.int .i64 0)).setCell ⟨R, 3, none⟩ (.int .i64 0)).setCell ⟨R, 4, none⟩ (.int .i64 0)).setCell ⟨R, 5, none⟩ (.int .i64 0)).setCell ⟨R, 6, none⟩ (.int .i64 0)).cell? ⟨R, 1, none⟩ = some (.int .i64 0) := hs.c1
          have y2 : (((((((wc.setCell ⟨R, 0, none⟩ (.int .i64 0)).setCell ⟨R, 1, none⟩ (.int .i64 0)).setCell ⟨R, 2, none⟩ (.int .i64 0)).setCell ⟨R, 3, none⟩ (.int .i64 0)).setCell ⟨R, 4, none⟩ (.int .i64 0)).setCell ⟨R, 5, none⟩ (.int .i64 0)).setCell ⟨R, 6, none⟩ (.int .i64 0)).cell? ⟨R, 2, none⟩ = some (.int .i64 0) := hs.c2
          have y3 : (((((((wc.setCell ⟨R, 0, none⟩ (.int .i64 0)).setCell ⟨R, 1, none⟩ (.int .i64 0)).setCell ⟨R, 2, none⟩ (.int .i64 0)).setCell ⟨R, 3, none⟩ (.int .i64 0)).setCell ⟨R, 4, none⟩ (.int .i64 0)).setCell ⟨R, 5, none⟩ (.int .i64 0)).setCell ⟨R, 6, none⟩ (.int .i64 0)).cell? ⟨R, 3, none⟩ = some (.int .i64 0) := hs.c3
          have y4 : (((((((wc.setCell ⟨R, 0, none⟩ (.int .i64 0)).setCell ⟨R, 1, none⟩ (.int .i64 0)).setCell ⟨R, 2, none⟩ (.int .i64 0)).setCell ⟨R, 3, none⟩ (.int .i64 0)).setCell ⟨R, 4, none⟩ (.int .i64 0)).setCell ⟨R, 5, none⟩ (.int .i64 0)).setCell ⟨R, 6, none⟩ (.int .i64 0)).cell? ⟨R, 4, none⟩ = some (.int .i64 0) := hs.c4
          have y5 : (((((((wc.setCell ⟨R, 0, none⟩ (.int .i64 0)).setCell ⟨R, 1, none⟩ (.int .i64 0)).setCell ⟨R, 2, none⟩ (.int .i64 0)).setCell ⟨R, 3, none⟩ (.int .i64 0)).setCell ⟨R, 4, none⟩ (.int .i64 0)).setCell ⟨R, 5, none⟩ (.int .i64 0)).setCell ⟨R, 6, none⟩ (.int .i64 0)).cell? ⟨R, 5, none⟩ = some (.int .i64 0) := hs.c5
          have y6 : (((((((wc.setCell ⟨R, 0, none⟩ (.int .i64 0)).setCell ⟨R, 1, none⟩ (.int .i64 0)).setCell ⟨R, 2, none⟩ (.int .i64 0)).setCell ⟨R, 3, none⟩ (.int .i64 0)).setCell ⟨R, 4, none⟩ (.int .i64 0)).setCell ⟨R, 5, none⟩ (.int .i64 0)).setCell ⟨R, 6, none⟩ (.int .i64 0)).cell? ⟨R, 6, none⟩ = some (.int .i64 0) := hs.c6
          (try simp only [Exit.inBlock, Exit.then])
          refine bodyPost_ret (by simp [results, Tryz.results33, go_sem, y0, y1, y2, y3, y4, y5, y6]; try rfl) rfl ?_
          exact ⟨(comb_no HF.out).symm, (setU_below HP2.out.c.bel hwR 0 0 0 0 0 0 0)⟩
        · obtain ⟨r0, r1, r2, r3, r4, r5, r6, rz⟩ := HP2.out.r
          obtain ⟨o0, o1, o2, o3, o4, o5, o6, oz⟩ := HS2.out
          obtain ⟨hN2, hD2, hv⟩ := comb_good HI.out.1 HI.out.2.1 HI.out.2.2.1 HI.out.2.2.2.1 HN1.out HD1.out HBB.out rfl rfl
          have HF := Lib.hid hv
          have HNN := Lib.hid (And.intro hN2 hD2)
          clear hN2 hD2 hv
          go_wp2_with fail
          have hs := (HP2.out.r).set s0 s1 s2 s3 N1 D1 0
          have y0 : (((((((wc.setCell ⟨R, 0, none⟩ (.int .i64 s0)).setCell ⟨R, 1, none⟩ (.int .i64 s1)).setCell ⟨R, 2, none⟩ (.int .i64 s2)).setCell ⟨R, 3, none⟩ (.int .i64 s3)).setCell ⟨R, 4, none⟩ (.int .i64 N1)).setCell ⟨R, 5, none⟩ (.int .i64 D1)).setCell ⟨R, 6, none⟩ (.int .i64 0)).cell? ⟨R, 0, none⟩ = some (.int .i64 s0) := hs.c0
          have y1 : (((((((wc.setCell ⟨R, 0, none⟩ (.int .i64 s0)).setCell ⟨R, 1, none⟩ (.int .i64 s1)).setCell ⟨R, 2, none⟩ (.int .i64 s2)).setCell ⟨R, 3, none⟩ (.int .i64 s3)).setCell ⟨R, 4, none⟩ (.int .i64 N1)).setCell ⟨R, 5, none⟩ (.int .i64 D1)).setCell ⟨R, 6, none⟩ (.int .i64 0)).cell? ⟨R, 1, none⟩ = some (.int .i64 s1) := hs.c1
          have y2 : (((((((wc.setCell ⟨R, 0, none⟩ (.int .i64 s0)).setCell ⟨R, 1, none⟩ (.int .i64 s1)).setCell ⟨R, 2, none⟩ (.int .i64 s2)).setCell ⟨R, 3, none⟩ (.int .i64 s3)).setCell ⟨R, 4, none⟩ (.int .i64 N1)).setCell ⟨R, 5, none⟩ (.int .i64 D1)).setCell ⟨R, 6, none⟩ (.int .i64 0)).cell? ⟨R, 2, none⟩ = some (.int .i64 s2) := hs.c2
          have y3 : (((((((wc.setCell ⟨R, 0, none⟩ (.int .i64 s0)).setCell ⟨R, 1, none⟩ (.int .i64 s1)).setCell ⟨R, 2, none⟩ (.int .i64 s2)).setCell ⟨R, 3, none⟩ (.int .i64 s3)).setCell ⟨R, 4, none⟩ (.int .i64 N1)).setCell ⟨R, 5, none⟩ (.int .i64 D1)).setCell ⟨R, 6, none⟩ (.int .i64 0)).cell? ⟨R, 3, none⟩ = some (.int .i64 s3) := hs.c3
          have y4 : (((((((wc.setCell ⟨R, 0, none⟩ (.int .i64 s0)).setCell ⟨R, 1, none⟩ (.int .i64 s1)).setCell ⟨R, 2, none⟩ (.int .i64 s2)).setCell ⟨R, 3, none⟩ (.int .i64 s3)).setCell ⟨R, 4, none⟩ (.int .i64 N1)).setCell ⟨R, 5, none⟩ (.int .i64 D1)).setCell ⟨R, 6, none⟩ (.int .i64 0)).cell? ⟨R, 4, none⟩ = some (.int .i64 N1) := hs.c4
          have y5 : (((((((wc.setCell ⟨R, 0, none⟩ (.int .i64 s0)).setCell ⟨R, 1, none⟩ (.int .i64 s1)).setCell ⟨R, 2, none⟩ (.int .i64 s2)).setCell ⟨R, 3, none⟩ (.int .i64 s3)).setCell ⟨R, 4, none⟩ (.int .i64 N1)).setCell ⟨R, 5, none⟩ (.int .i64 D1)).setCell ⟨R, 6, none⟩ (.int .i64 0)).cell? ⟨R, 5, none⟩ = some (.int .i64 D1) := hs.c5
          have y6 : (((((((wc.setCell ⟨R, 0, none⟩ (.int .i64 s0)).setCell ⟨R, 1, none⟩ (.int .i64 s1)).setCell ⟨R, 2, none⟩ (.int .i64 s2)).setCell ⟨R, 3, none⟩ (.int .i64 s3)).setCell ⟨R, 4, none⟩ (.int .i64 N1)).setCell ⟨R, 5, none⟩ (.int .i64 D1)).setCell ⟨R, 6, none⟩ (.int .i64 0)).cell? ⟨R, 6, none⟩ = some (.int .i64 0) := hs.c6
          (try simp only [Exit.inBlock, Exit.then])
          refine bodyPost_ret (by simp [results, Tryz.results33, go_sem, y0, y1, y2, y3, y4, y5, y6]; try rfl) rfl ?_
          exact ⟨by rw [comb_yes HF.out, ← HNN.out.1, ← HNN.out.2], (setU_below HP2.out.c.bel hwR s0 s1 s2 s3 N1 D1 0)⟩

end Go.Proofs.YtjkdcbkfcmaadaaGreatDoor
