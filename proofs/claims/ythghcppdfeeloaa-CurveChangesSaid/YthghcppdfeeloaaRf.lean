/- Contracts of the specification's floor, AddWide, Product: numbers as two parts at 10^12. -/
import Derived.Test.YthghcppdfeeloaaAr
namespace Go.Proofs.Ythghcppdfeeloaa
open Go.RowKit

theorem floor_parts (a b : Int) (hb : 0 < b) : (0 ≤ a.tmod b → a / b = a.tdiv b ∧ a % b = a.tmod b) ∧ (a.tmod b < 0 → a / b = a.tdiv b - 1 ∧ a % b = a.tmod b + b) := by
  have h1 := Int.mul_tdiv_add_tmod a b
  have h2 : a.tmod b < b := Int.tmod_lt_of_pos a hb
  have h3 : -b < a.tmod b := by
    have := Int.tmod_lt_of_pos (-a) hb
    rw [Int.neg_tmod] at this
    omega
  constructor
  · intro h
    exact (Int.ediv_emod_unique hb).2 ⟨by omega, h, h2⟩
  · intro h
    refine (Int.ediv_emod_unique hb).2 ⟨?_, by omega, by omega⟩
    rw [Int.mul_sub, Int.mul_one]
    omega

set_option maxHeartbeats 400000 in
theorem floor_any (a b : Int) (w : World) (hb : 0 < b) (hb2 : b ≤ 1000000000000) (q1 : -4000000000000000000 ≤ a / b) (q2 : a / b ≤ 4000000000000000000) :
    Calls Try.prog 60 #[.int .i64 a, .int .i64 b] w fun e w' => e = .returned (.tuple #[.int .i64 (a / b), .int .i64 (a % b)]) ∧ Below w.heap.size w w' := by
  obtain ⟨p1, p2⟩ := floor_parts a b hb
  have m1 := Int.emod_nonneg a (show b ≠ 0 by omega)
  have m2 := Int.emod_lt_of_pos a hb
  obtain ⟨Q, hQ⟩ : ∃ t, a.tdiv b = t := ⟨_, rfl⟩
  obtain ⟨R, hR⟩ : ∃ t, a.tmod b = t := ⟨_, rfl⟩
  obtain ⟨A, hA⟩ : ∃ t, a / b = t := ⟨_, rfl⟩
  obtain ⟨B, hB⟩ : ∃ t, a % b = t := ⟨_, rfl⟩
  rw [hQ, hR, hA, hB] at p1 p2
  rw [hA] at q1 q2
  rw [hB] at m1 m2
  rw [hA, hB]
  clear hA hB
  have hb0 : (b == 0) = false := by rw [beq_eq_false_iff_ne]; omega
  by_cases hR0 : R < 0
  · obtain ⟨e1, e2⟩ := p2 hR0
    have t0 : decide (R < 0) = true := decide_eq_true hR0
    have f1 : IntKind.i64.wrap Q = Q := IntWalk.i64_in _ ⟨by omega, by omega⟩
    have HE := Lib.hid (And.intro e1 e2)
    have c1 : -4000000000000000001 ≤ Q := by omega
    have c2 : Q ≤ 4000000000000000001 := by omega
    have c3 : -1000000000000 ≤ R := by omega
    have c4 : R ≤ 1000000000000 := by omega
    clear p1 p2 e1 e2 q1 q2 m1 m2 hR0
    go_enter Try.func60, Try.ntmps60
    go_wp2_with fail
    go_quiet (fail)
    go_wp2_with fail
    go_ret2
    rw [HE.out.1, HE.out.2]
    exact ⟨rfl, below_drewN _ _ _⟩
  · obtain ⟨e1, e2⟩ := p1 (by omega)
    have t0 : decide (R < 0) = false := decide_eq_false hR0
    have f1 : IntKind.i64.wrap Q = Q := IntWalk.i64_in _ ⟨by omega, by omega⟩
    have HE := Lib.hid (And.intro e1 e2)
    clear p1 p2 e1 e2 q1 q2 m1 m2 hR0
    go_enter Try.func60, Try.ntmps60
    go_wp2_with fail
    go_quiet (fail)
    go_wp2_with fail
    go_ret2
    rw [HE.out.1, HE.out.2]
    exact ⟨rfl, below_drewN _ _ _⟩

abbrev twoW (V : Int) : Value := .agg #[.int .i64 (V / 1000000000000), .int .i64 (V % 1000000000000)]

set_option maxHeartbeats 1000000 in
theorem addwide_any (V U : Int) (w : World) (v1 : -1000000000000000000000000000 ≤ V) (v2 : V ≤ 1000000000000000000000000000) (u1 : -1000000000000000000000000000 ≤ U) (u2 : U ≤ 1000000000000000000000000000) :
    Calls Try.prog 44 #[twoW V, twoW U] w fun e w' => e = .returned (twoW (V + U)) ∧ Below w.heap.size w w' := by
  obtain ⟨h1, e1⟩ : ∃ t, V / 1000000000000 = t := ⟨_, rfl⟩
  obtain ⟨l1, e2⟩ : ∃ t, V % 1000000000000 = t := ⟨_, rfl⟩
  obtain ⟨h2, e3⟩ : ∃ t, U / 1000000000000 = t := ⟨_, rfl⟩
  obtain ⟨l2, e4⟩ : ∃ t, U % 1000000000000 = t := ⟨_, rfl⟩
  obtain ⟨h3, e5⟩ : ∃ t, (V + U) / 1000000000000 = t := ⟨_, rfl⟩
  obtain ⟨l3, e6⟩ : ∃ t, (V + U) % 1000000000000 = t := ⟨_, rfl⟩
  have b1 : -1000000000000000 ≤ h1 := by omega
  have b2 : h1 ≤ 1000000000000000 := by omega
  have b3 : -1000000000000000 ≤ h2 := by omega
  have b4 : h2 ≤ 1000000000000000 := by omega
  have b5 : 0 ≤ l1 := by omega
  have b6 : l1 < 1000000000000 := by omega
  have b7 : 0 ≤ l2 := by omega
  have b8 : l2 < 1000000000000 := by omega
  by_cases hc : 1000000000000 ≤ l1 + l2
  · have t0 : decide (1000000000000 ≤ l1 + l2) = true := decide_eq_true hc
    have HE := Lib.hid (show h1 + h2 + 1 = h3 ∧ l1 + l2 - 1000000000000 = l3 by omega)
    simp only [twoW, e1, e2, e3, e4, e5, e6]
    clear e1 e2 e3 e4 e5 e6 v1 v2 u1 u2 hc
    go_enter Try.func44, Try.ntmps44
    go_wp2
    rw [HE.out.1, HE.out.2]
    exact bodyPost_ret (v := .agg #[.int .i64 h3, .int .i64 l3]) (by simp [results, Try.results44, go_sem]) rfl ⟨rfl, (((Below.refl _ _).alloc (Nat.le_refl _) _).alloc (by simp) _).alloc (by simp; omega) _⟩
  · have t0 : decide (1000000000000 ≤ l1 + l2) = false := decide_eq_false hc
    have HE := Lib.hid (show h1 + h2 = h3 ∧ l1 + l2 = l3 by omega)
    simp only [twoW, e1, e2, e3, e4, e5, e6]
    clear e1 e2 e3 e4 e5 e6 v1 v2 u1 u2 hc
    go_enter Try.func44, Try.ntmps44
    go_wp2
    rw [HE.out.1, HE.out.2]
    exact bodyPost_ret (v := .agg #[.int .i64 h3, .int .i64 l3]) (by simp [results, Try.results44, go_sem]) rfl ⟨rfl, (((Below.refl _ _).alloc (Nat.le_refl _) _).alloc (by simp) _).alloc (by simp; omega) _⟩

set_option maxHeartbeats 1000000 in
theorem rproduct_any (a b : Int) (w : World) (a1 : 0 ≤ a) (a2 : a ≤ 2000000000000) (b1 : -2000000000000 ≤ b) (b2 : b ≤ 2000000000000) :
    Calls Try.prog 45 #[.int .i64 a, .int .i64 b] w fun e w' => e = .returned (twoW (a * b)) ∧ Below w.heap.size w w' := by
  obtain ⟨A, hA⟩ : ∃ t, a / 1000000 = t := ⟨_, rfl⟩
  obtain ⟨B, hB⟩ : ∃ t, a % 1000000 = t := ⟨_, rfl⟩
  have hab : a * b = (A * b) * 1000000 + B * b := by
    have : a = A * 1000000 + B := by omega
    rw [this]; grind
  have r1 : -(2000000 * 2000000000000) ≤ A * b ∧ A * b ≤ 2000000 * 2000000000000 := by
    have x1 := Int.mul_nonneg (show 0 ≤ A by omega) (show 0 ≤ b + 2000000000000 by omega)
    have x2 := Int.mul_nonneg (show 0 ≤ A by omega) (show 0 ≤ 2000000000000 - b by omega)
    rw [Int.mul_add] at x1
    rw [Int.mul_sub] at x2
    omega
  have r2 : -(1000000 * 2000000000000) ≤ B * b ∧ B * b ≤ 1000000 * 2000000000000 := by
    have x1 := Int.mul_nonneg (show 0 ≤ B by omega) (show 0 ≤ b + 2000000000000 by omega)
    have x2 := Int.mul_nonneg (show 0 ≤ B by omega) (show 0 ≤ 2000000000000 - b by omega)
    rw [Int.mul_add] at x1
    rw [Int.mul_sub] at x2
    omega
  obtain ⟨P, hP⟩ : ∃ t, A * b = t := ⟨_, rfl⟩
  obtain ⟨Q, hQ⟩ : ∃ t, B * b = t := ⟨_, rfl⟩
  rw [hP, hQ] at hab
  rw [hP] at r1
  rw [hQ] at r2
  have F1 := Lib.hid fun w => floor_any P 1000000 w (by omega) (by omega) (by omega) (by omega)
  have F2 := Lib.hid fun w => floor_any Q 1000000000000 w (by omega) (by omega) (by omega) (by omega)
  have F3 := Lib.hid fun w => addwide_any (P * 1000000 - P % 1000000 * 1000000 + P % 1000000 * 1000000) Q w (by omega) (by omega) (by omega) (by omega)
  have s1 : (P * 1000000 - P % 1000000 * 1000000 + P % 1000000 * 1000000) / 1000000000000 = P / 1000000 := by omega
  have s2 : (P * 1000000 - P % 1000000 * 1000000 + P % 1000000 * 1000000) % 1000000000000 = P % 1000000 * 1000000 := by omega
  have s3 : P * 1000000 - P % 1000000 * 1000000 + P % 1000000 * 1000000 + Q = a * b := by omega
  rw [s3] at F3
  simp only [twoW, s1, s2] at F3
  obtain ⟨V, hV⟩ : ∃ t, a * b = t := ⟨_, rfl⟩
  rw [hV] at F3
  simp only [twoW, hV]
  obtain ⟨h3, e5⟩ : ∃ t, V / 1000000000000 = t := ⟨_, rfl⟩
  obtain ⟨l3, e6⟩ : ∃ t, V % 1000000000000 = t := ⟨_, rfl⟩
  rw [e5, e6] at F3
  rw [e5, e6]
  have c1 : 0 ≤ P % 1000000 := by omega
  have c2 : P % 1000000 < 1000000 := by omega
  obtain ⟨P1, hP1⟩ : ∃ t, P / 1000000 = t := ⟨_, rfl⟩
  obtain ⟨P2, hP2⟩ : ∃ t, P % 1000000 = t := ⟨_, rfl⟩
  obtain ⟨Q1, hQ1⟩ : ∃ t, Q / 1000000000000 = t := ⟨_, rfl⟩
  obtain ⟨Q2, hQ2⟩ : ∃ t, Q % 1000000000000 = t := ⟨_, rfl⟩
  rw [hP2] at c1 c2
  rw [hP1, hP2] at F1 F3
  rw [hQ1, hQ2] at F2 F3
  clear hab s1 s2 s3 hV e5 e6 hP1 hP2 hQ1 hQ2
  have HR := Lib.hid (And.intro r1 r2)
  have g1 : -4000000000000000000 ≤ P := by omega
  have g2 : P ≤ 4000000000000000000 := by omega
  have g3 : -2000000000000000000 ≤ Q := by omega
  have g4 : Q ≤ 2000000000000000000 := by omega
  clear r1 r2
  go_enter Try.func45, Try.ntmps45
  go_wp2_with fail
  have B0 := Lib.hid ((Below.refl w.heap.size w).alloc (Nat.le_refl _) (.cells #[.int .i64 0, .int .i64 0] 46))
  have q00 := cell_two0 w (.int .i64 0) (.int .i64 0) 46
  have q01 := cell_two1 w (.int .i64 0) (.int .i64 0) 46
  have q02 : (w.alloc (.cells #[.int .i64 0, .int .i64 0] 46)).frozen? ⟨w.heap.size, 0, none⟩ = false := by simp
  have q03 : (w.alloc (.cells #[.int .i64 0, .int .i64 0] 46)).frozen? ⟨w.heap.size, 1, none⟩ = false := by simp
  have s0 : w.heap.size < (w.alloc (.cells #[.int .i64 0, .int .i64 0] 46)).heap.size := by rw [World.size_alloc]; omega
  refine (F1.out _).mono ?_
  rintro e w1 ⟨rfl, hb⟩
  have s1 := Nat.lt_of_lt_of_le s0 hb.size
  have q10 := (hb.cell (p := ⟨w.heap.size, 0, none⟩) s0).trans q00
  have q11 := (hb.cell (p := ⟨w.heap.size, 1, none⟩) s0).trans q01
  have q12 := (hb.frozen (p := ⟨w.heap.size, 0, none⟩) s0).trans q02
  have q13 := (hb.frozen (p := ⟨w.heap.size, 1, none⟩) s0).trans q03
  have B1 := Lib.hid (B0.out.trans (hb.mono B0.out.size))
  clear hb s0 q00 q01 q02 q03
  go_wp2_with fail
  refine (F2.out _).mono ?_
  rintro e w2 ⟨rfl, hb⟩
  have s2 := Nat.lt_of_lt_of_le s1 hb.size
  have q20 := (hb.cell (p := ⟨w.heap.size, 0, none⟩) s1).trans q10
  have q21 := (hb.cell (p := ⟨w.heap.size, 1, none⟩) s1).trans q11
  have q22 := (hb.frozen (p := ⟨w.heap.size, 0, none⟩) s1).trans q12
  have q23 := (hb.frozen (p := ⟨w.heap.size, 1, none⟩) s1).trans q13
  have B2 := Lib.hid (B1.out.trans (hb.mono B1.out.size))
  clear hb s1 q10 q11 q12 q13
  go_wp2_with fail
  refine (F3.out _).mono ?_
  rintro e w3 ⟨rfl, hb⟩
  have s3 := Nat.lt_of_lt_of_le s2 hb.size
  have q30 := (hb.cell (p := ⟨w.heap.size, 0, none⟩) s2).trans q20
  have q31 := (hb.cell (p := ⟨w.heap.size, 1, none⟩) s2).trans q21
  have q32 := (hb.frozen (p := ⟨w.heap.size, 0, none⟩) s2).trans q22
  have q33 := (hb.frozen (p := ⟨w.heap.size, 1, none⟩) s2).trans q23
  have B3 := Lib.hid (B2.out.trans (hb.mono B2.out.size))
  clear hb s2 q20 q21 q22 q23
  go_wp2_with fail
  have y0 : (w3.setCell ⟨w.heap.size, 0, none⟩ (.int .i64 h3)).cell? ⟨w.heap.size, 0, none⟩ = some (.int .i64 h3) := World.cell?_setCell_same _ _ _ q30
  have y2 : (w3.setCell ⟨w.heap.size, 0, none⟩ (.int .i64 h3)).cell? ⟨w.heap.size, 1, none⟩ = some (.int .i64 0) := (World.cell?_setCell_other _ _ _ _ (by simp)).trans q31
  have y1 : ((w3.setCell ⟨w.heap.size, 0, none⟩ (.int .i64 h3)).setCell ⟨w.heap.size, 1, none⟩ (.int .i64 l3)).cell? ⟨w.heap.size, 1, none⟩ = some (.int .i64 l3) := World.cell?_setCell_same _ _ _ y2
  (try simp only [Exit.inBlock, Exit.then])
  refine bodyPost_ret (by simp [results, Try.results45, go_sem, y0, y1]; try rfl) rfl ?_
  exact ⟨rfl, (B3.out.setCell (Nat.le_refl _) _).setCell (Nat.le_refl _) _⟩
end Go.Proofs.Ythghcppdfeeloaa
