/- The contract of the specification's Line: it returns what Line returns. -/
import Derived.Test.YtgpbcdelaipifaaDoorY
namespace Go.Proofs.YtgpbcdelaipifaaDoor
open Go.RowKit

theorem abs_prod (y e : Int) (he : 0 ≤ e) : y * e = if decide (y < 0) = true then -((y.natAbs * e.natAbs : Nat) : Int) else ((y.natAbs * e.natAbs : Nat) : Int) := by
  have h1 : ((e.natAbs : Nat) : Int) = e := by omega
  rw [Int.natCast_mul, h1]
  by_cases h : y < 0
  · rw [if_pos (decide_eq_true h), show ((y.natAbs : Nat) : Int) = -y by omega, Int.neg_mul, Int.neg_neg]
  · rw [if_neg (by simpa using h), show ((y.natAbs : Nat) : Int) = y by omega]

theorem sign_quo (s : Bool) (P : Int) (n : Nat) (d : Int) (hd : 0 < d) (h : P = if s = true then -(n : Int) else (n : Int)) : (if s = true then -divU n d.natAbs else divU n d.natAbs) = quoI P d := by
  cases s
  · rw [if_neg (by decide)] at h ⊢
    rw [quoI_pos P d hd (by omega), h]; simp
  · rw [if_pos rfl] at h ⊢
    rw [quoI_neg2 P d hd (by omega), h]; simp

theorem rline_any (x x1 y1 x2 y2 : Int) (w : World) :
    Calls Tryd.prog 35 #[.int .i64 x, .int .i64 x1, .int .i64 y1, .int .i64 x2, .int .i64 y2] w fun e w' => e = .returned (.int .i64 (lineI x x1 y1 x2 y2)) ∧ Below w.heap.size w w' := by
  by_cases h : clampI x1 ≥ clampI x2
  · exact rline_low x x1 y1 x2 y2 w h
  · by_cases hs : clampI x ≤ clampI x1 ∨ clampI x2 ≤ clampI x
    · exact rline_side x x1 y1 x2 y2 w (by omega) hs
    · have r0 := clampI_range x
      have r1 := clampI_range x1
      have r2 := clampI_range y1
      have r3 := clampI_range x2
      have r4 := clampI_range y2
      have e : lineI x x1 y1 x2 y2 = quoI (clampI y1 * (clampI x2 - clampI x) + clampI y2 * (clampI x - clampI x1)) (clampI x2 - clampI x1) := by
        unfold lineI
        rw [if_neg h, show min (max (clampI x) (clampI x1)) (clampI x2) = clampI x by omega]
      rw [e]
      clear e
      obtain ⟨X, hX⟩ : ∃ v, v = clampI x := ⟨_, rfl⟩
      obtain ⟨X1, hX1⟩ : ∃ v, v = clampI x1 := ⟨_, rfl⟩
      obtain ⟨Y1, hY1⟩ : ∃ v, v = clampI y1 := ⟨_, rfl⟩
      obtain ⟨X2, hX2⟩ : ∃ v, v = clampI x2 := ⟨_, rfl⟩
      obtain ⟨Y2, hY2⟩ : ∃ v, v = clampI y2 := ⟨_, rfl⟩
      rw [← hX] at r0 hs ⊢
      rw [← hX1] at r1 h hs ⊢
      rw [← hY1] at r2 ⊢
      rw [← hX2] at r3 h hs ⊢
      rw [← hY2] at r4 ⊢
      have hp1 := abs_prod Y1 (X2 - X) (by omega)
      have hp2 := abs_prod Y2 (X - X1) (by omega)
      have hA : Y1.natAbs * (X2 - X).natAbs ≤ 1000000000000 * 2000000000000 := Nat.mul_le_mul (by omega) (by omega)
      have hB : Y2.natAbs * (X - X1).natAbs ≤ 1000000000000 * 2000000000000 := Nat.mul_le_mul (by omega) (by omega)
      have HP := fun w => rprod_any Y1.natAbs (X2 - X).natAbs w (by omega) (by omega)
      have HQ := fun w => rprod_any Y2.natAbs (X - X1).natAbs w (by omega) (by omega)
      obtain ⟨A, hAe⟩ : ∃ v : Nat, v = Y1.natAbs * (X2 - X).natAbs := ⟨_, rfl⟩
      obtain ⟨B, hBe⟩ : ∃ v : Nat, v = Y2.natAbs * (X - X1).natAbs := ⟨_, rfl⟩
      rw [← hAe] at hp1 hA HP
      rw [← hBe] at hp2 hB HQ
      have q1 : decide (X2 ≤ X1) = false := by rw [decide_eq_false_iff_not]; omega
      have q2 : decide (X ≤ X1) = false := by rw [decide_eq_false_iff_not]; omega
      have q3 : decide (X2 ≤ X) = false := by rw [decide_eq_false_iff_not]; omega
      have w1 : wrap64 (X2 - X1) = X2 - X1 := by unfold wrap64; omega
      have w2 : wrap64 (X2 - X) = X2 - X := by unfold wrap64; omega
      have w3 : wrap64 (X - X1) = X - X1 := by unfold wrap64; omega
      have S0 := fun w => rsize_any (X2 - X1) w (by omega) (by omega)
      have S1 := fun w => rsize_any Y1 w (by omega) (by omega)
      have S2 := fun w => rsize_any (X2 - X) w (by omega) (by omega)
      have S3 := fun w => rsize_any Y2 w (by omega) (by omega)
      have S4 := fun w => rsize_any (X - X1) w (by omega) (by omega)
      have hd0 : 0 < (X2 - X1).natAbs := by omega
      have hd1 : (X2 - X1).natAbs < 18446744073709551616 := by omega
      by_cases hsg : decide (Y1 < 0) = decide (Y2 < 0)
      · have hsum := fun w => rsum_any (A / 18446744073709551616 + B / 18446744073709551616) (A % 18446744073709551616) (B % 18446744073709551616) w (by omega) (by omega) (by omega)
        have v1 : A / 18446744073709551616 + B / 18446744073709551616 + (A % 18446744073709551616 + B % 18446744073709551616) / 18446744073709551616 = (A + B) / 18446744073709551616 := by omega
        have v2 : (A % 18446744073709551616 + B % 18446744073709551616) % 18446744073709551616 = (A + B) % 18446744073709551616 := by omega
        rw [v1, v2] at hsum
        have hr := fun w => rround_any (decide (Y1 < 0)) (A + B) (X2 - X1).natAbs w hd0 hd1
        rw [sign_quo (decide (Y1 < 0)) (Y1 * (X2 - X) + Y2 * (X - X1)) (A + B) (X2 - X1) (by omega) (by rw [hp1, hp2, ← hsg]; split <;> omega)] at hr
        exact rline_same x x1 y1 x2 y2 X X1 Y1 X2 Y2 _ _ _ _ _ _ _ _ _ _ _ _ _ w hX.symm hX1.symm hY1.symm hX2.symm hY2.symm q1 q2 q3 w1 w2 w3 S0 S1 S2 S3 S4 HP HQ _ _ _ _ rfl hsg.symm (by rw [IntKind.wrap_u64]; omega) hsum hr
      · have hsg' : (decide (Y1 < 0) == decide (Y2 < 0)) = false := by simpa using hsg
        have hneg : decide (Y1 < 0) = !decide (Y2 < 0) := (by decide : ∀ a b : Bool, ¬ a = b → a = !b) _ _ hsg
        by_cases hl : A < B
        · have hmin := fun w => rminus_any B A w (by omega) (by omega)
          have hr := fun w => rround_any (decide (Y2 < 0)) (B - A) (X2 - X1).natAbs w hd0 hd1
          rw [sign_quo (decide (Y2 < 0)) (Y1 * (X2 - X) + Y2 * (X - X1)) (B - A) (X2 - X1) (by omega) (by rw [hp1, hp2, hneg]; cases decide (Y2 < 0) <;> simp <;> omega)] at hr
          refine rline_less x x1 y1 x2 y2 X X1 Y1 X2 Y2 _ _ _ _ _ _ _ _ _ _ _ _ _ w hX.symm hX1.symm hY1.symm hX2.symm hY2.symm q1 q2 q3 w1 w2 w3 S0 S1 S2 S3 S4 HP HQ _ _ _ _ rfl rfl hsg' ?_ hmin hr
          rw [Bool.or_eq_true, Bool.and_eq_true, decide_eq_true_eq, decide_eq_true_eq, decide_eq_true_eq]
          omega
        · have hmin := fun w => rminus_any A B w (by omega) (by omega)
          have hr := fun w => rround_any (decide (Y1 < 0)) (A - B) (X2 - X1).natAbs w hd0 hd1
          rw [sign_quo (decide (Y1 < 0)) (Y1 * (X2 - X) + Y2 * (X - X1)) (A - B) (X2 - X1) (by omega) (by rw [hp1, hp2, hneg]; cases decide (Y2 < 0) <;> simp <;> omega)] at hr
          refine rline_more x x1 y1 x2 y2 X X1 Y1 X2 Y2 _ _ _ _ _ _ _ _ _ _ _ _ _ w hX.symm hX1.symm hY1.symm hX2.symm hY2.symm q1 q2 q3 w1 w2 w3 S0 S1 S2 S3 S4 HP HQ _ _ _ _ rfl rfl hsg' ?_ hmin hr
          rw [Bool.or_eq_false_iff, Bool.and_eq_false_iff, decide_eq_false_iff_not, decide_eq_false_iff_not, decide_eq_false_iff_not]
          omega
end Go.Proofs.YtgpbcdelaipifaaDoor
