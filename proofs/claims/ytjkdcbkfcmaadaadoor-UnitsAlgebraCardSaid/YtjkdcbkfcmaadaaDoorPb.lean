/- Plain facts on conversions: a greater value is never converted to a lesser one; there and back; differences. -/
import Derived.Test.YtjkdcbkfcmaadaaDoorPa
namespace Go.Proofs.YtjkdcbkfcmaadaaDoor
open Go.RowKit Go.Shelf

theorem conv_ok {x y : Int} {u v : UnitD} (h : convR x u v = (y, 0)) : validB u = true ∧ validB v = true ∧ clampI x = x ∧ y = convN x u v ∧ clampI y = y := by
  unfold convR at h
  split at h
  · injection h with _ h; cases h
  · rename_i h1
    split at h
    · injection h with _ h; cases h
    · split at h
      · rename_i h3
        injection h with h _
        refine ⟨by cases hv : validB u <;> simp_all, by cases hv : validB v <;> simp_all, ?_, h.symm, by rw [← h]; exact h3⟩
        exact Decidable.not_not.1 (fun hc => h1 (.inr (.inr hc)))
      · injection h with _ h; cases h
theorem conv_err {x : Int} {u v : UnitD} (h : (convR x u v).2 ≠ 0) : (convR x u v).1 = 0 := by
  unfold convR at h ⊢
  split
  · rfl
  · split
    · rfl
    · split
      · rename_i h1 h2 h3
        rw [if_neg h1, if_neg h2, if_pos h3] at h
        exact absurd rfl h
      · rfl
theorem pair_eta {x : Int} {u v : UnitD} (h : (convR x u v).2 = 0) : convR x u v = ((convR x u v).1, 0) := by
  rw [← h]
theorem conv_mono {n m : Int} {u v : UnitD} (hnm : n ≤ m) (h1 : (convR n u v).2 = 0) (h2 : (convR m u v).2 = 0) : (convR n u v).1 ≤ (convR m u v).1 := by
  obtain ⟨hu, hv, _, e1, _⟩ := conv_ok (pair_eta h1)
  obtain ⟨_, _, _, e2, _⟩ := conv_ok (pair_eta h2)
  obtain ⟨bn, bd⟩ := scaleR hu
  obtain ⟨cn, cd⟩ := scaleR hv
  rw [e1, e2]
  unfold convN distI
  refine quoR_mono ?_ bd.1 cn.1
  refine Int.mul_le_mul_of_nonneg_right ?_ (by omega)
  have := Int.mul_le_mul_of_nonneg_right hnm (show 0 ≤ u.n by omega)
  omega
/-- there and back: within one thousandth, if the scale of v is not greater -/
theorem conv_back {n m k : Int} {u v : UnitD} (h1 : convR n u v = (m, 0)) (h2 : convR m v u = (k, 0)) (hs : v.n * u.d ≤ u.n * v.d) : k - n ≤ 1 ∧ n - k ≤ 1 := by
  obtain ⟨hu, hv, _, e1, _⟩ := conv_ok h1
  obtain ⟨_, _, _, e2, _⟩ := conv_ok h2
  obtain ⟨bn, bd⟩ := scaleR hu
  obtain ⟨cn, cd⟩ := scaleR hv
  obtain ⟨p1, p2⟩ := quoR_near (V := distI n u v * v.d) bd.1 cn.1
  obtain ⟨q1, q2⟩ := quoR_near (V := distI m v u * u.d) cd.1 bn.1
  have f1 : quoR (distI n u v * v.d) u.d v.n = m := e1.symm
  have f2 : quoR (distI m v u * u.d) v.d u.n = k := e2.symm
  rw [f1] at p1 p2
  rw [f2] at q1 q2
  obtain ⟨A, hA⟩ : ∃ A, A = u.d * v.n := ⟨_, rfl⟩
  obtain ⟨B, hB⟩ : ∃ B, B = v.d * u.n := ⟨_, rfl⟩
  have hAB : A ≤ B := by rw [hA, hB, Int.mul_comm u.d, Int.mul_comm v.d]; exact hs
  have hB1 : 1 ≤ B := by rw [hB]; have := Int.mul_pos (show 0 < v.d by omega) (show 0 < u.n by omega); omega
  rw [← hA] at p1 p2
  rw [← hB] at q1 q2
  have e : distI m v u * u.d - n * B = m * A - distI n u v * v.d := by
    unfold distI
    rw [hA, hB]
    grind
  have g : k * B - n * B = (k - n) * B := by grind
  obtain ⟨X, hX⟩ : ∃ X, X = k - n := ⟨_, rfl⟩
  rw [← hX] at g
  have r1 : 2 * (X * B) ≤ 2 * B := by omega
  have r2 : -(2 * B) ≤ 2 * (X * B) := by omega
  have s1 : ¬ 2 ≤ X := fun h => by
    have := Int.mul_le_mul_of_nonneg_right h (show 0 ≤ B by omega)
    omega
  have s2 : ¬ X ≤ -2 := fun h => by
    have := Int.mul_le_mul_of_nonneg_right h (show 0 ≤ B by omega)
    omega
  omega
def noOff (u : UnitD) : UnitD := ⟨u.e0, u.e1, u.e2, u.e3, u.n, u.d, 0⟩
/-- the difference of two converted values is the converted difference, but for the roundings -/
theorem conv_diff {n m x y z : Int} {u v : UnitD} (h1 : convR n u v = (x, 0)) (h2 : convR m u v = (y, 0)) (h3 : convR (n - m) (noOff u) (noOff v) = (z, 0)) : x - y - z ≤ 1 ∧ z - x + y ≤ 1 := by
  obtain ⟨hu, hv, _, e1, _⟩ := conv_ok h1
  obtain ⟨_, _, _, e2, _⟩ := conv_ok h2
  obtain ⟨_, _, _, e3, _⟩ := conv_ok h3
  obtain ⟨bn, bd⟩ := scaleR hu
  obtain ⟨cn, cd⟩ := scaleR hv
  obtain ⟨p1, p2⟩ := quoR_near (V := distI n u v * v.d) bd.1 cn.1
  obtain ⟨q1, q2⟩ := quoR_near (V := distI m u v * v.d) bd.1 cn.1
  obtain ⟨r1, r2⟩ := quoR_near (V := (n - m) * u.n * v.d) bd.1 cn.1
  have f1 : quoR (distI n u v * v.d) u.d v.n = x := e1.symm
  have f2 : quoR (distI m u v * v.d) u.d v.n = y := e2.symm
  have f3 : quoR ((n - m) * u.n * v.d) u.d v.n = z := by
    rw [e3]
    unfold convN distI
    show _ = quoR (((n - m) * u.n + (0 - 0) * u.d) * v.d) u.d v.n
    rw [Int.sub_self, Int.zero_mul, Int.add_zero]
  rw [f1] at p1 p2
  rw [f2] at q1 q2
  rw [f3] at r1 r2
  obtain ⟨A, hA⟩ : ∃ A, A = u.d * v.n := ⟨_, rfl⟩
  have hA1 : 1 ≤ A := by rw [hA]; have := Int.mul_pos (show 0 < u.d by omega) (show 0 < v.n by omega); omega
  rw [← hA] at p1 p2 q1 q2 r1 r2
  have e : distI n u v * v.d - distI m u v * v.d = (n - m) * u.n * v.d := by unfold distI; grind
  have g : x * A - y * A - z * A = (x - y - z) * A := by grind
  obtain ⟨X, hX⟩ : ∃ X, X = x - y - z := ⟨_, rfl⟩
  rw [← hX] at g
  have s1 : ¬ 2 ≤ X := fun h => by
    have := Int.mul_le_mul_of_nonneg_right h (show 0 ≤ A by omega)
    omega
  have s2 : ¬ X ≤ -2 := fun h => by
    have := Int.mul_le_mul_of_nonneg_right h (show 0 ≤ A by omega)
    omega
  omega
end Go.Proofs.YtjkdcbkfcmaadaaDoor
