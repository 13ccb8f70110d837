/- Plain facts on conversions: the nearest number; a unit's own; there and back; differences. -/
import Derived.Test.YtjkdcbkfcmaadaaDoorUu
namespace Go.Proofs.YtjkdcbkfcmaadaaDoor
open Go.RowKit Go.Shelf

theorem quoN_near {V a b : Int} (ha : 1 ≤ a) (hb : 1 ≤ b) : 2 * quoN V a b * (a * b) ≤ 2 * V + a * b ∧ 2 * V < 2 * quoN V a b * (a * b) + a * b := by
  unfold quoN
  obtain ⟨q, hq⟩ : ∃ q, q = 2 * V / a := ⟨_, rfl⟩
  obtain ⟨k, hk⟩ : ∃ k, k = (q + b) / (2 * b) := ⟨_, rfl⟩
  rw [← hq, ← hk]
  have e1 := Int.mul_ediv_add_emod (2 * V) a
  have e2 := Int.emod_nonneg (2 * V) (show a ≠ 0 by omega)
  have e3 := Int.emod_lt_of_pos (2 * V) (show 0 < a by omega)
  have f1 := Int.mul_ediv_add_emod (q + b) (2 * b)
  have f2 := Int.emod_nonneg (q + b) (show 2 * b ≠ 0 by omega)
  have f3 := Int.emod_lt_of_pos (q + b) (show 0 < 2 * b by omega)
  rw [← hq] at e1
  rw [← hk] at f1
  obtain ⟨r, hr⟩ : ∃ r, r = 2 * V % a := ⟨_, rfl⟩
  obtain ⟨t, ht⟩ : ∃ t, t = (q + b) % (2 * b) := ⟨_, rfl⟩
  rw [← hr] at e1 e2 e3
  rw [← ht] at f1 f2 f3
  -- 2V = a q + r, q + b = 2 b k + t
  have g1 : 2 * k * (a * b) = a * (q + b) - a * t := by grind
  have g2 : a * (q + b) = 2 * V - r + a * b := by grind
  have h1 : 0 ≤ a * t := Int.mul_nonneg (by omega) f2
  have h2 : a * t ≤ a * (2 * b - 1) := Int.mul_le_mul_of_nonneg_left (by omega) (by omega)
  have h3 : a * (2 * b - 1) = 2 * (a * b) - a := by grind
  omega
theorem quoR_near {V a b : Int} (ha : 1 ≤ a) (hb : 1 ≤ b) : 2 * (quoR V a b * (a * b)) ≤ 2 * V + a * b ∧ 2 * V ≤ 2 * (quoR V a b * (a * b)) + a * b := by
  unfold quoR
  by_cases h : V < 0
  · rw [if_pos h]
    obtain ⟨h1, h2⟩ := quoN_near (V := -V) ha hb
    obtain ⟨P, hP⟩ : ∃ P, P = quoN (-V) a b * (a * b) := ⟨_, rfl⟩
    rw [Int.mul_assoc, ← hP] at h1 h2
    rw [Int.neg_mul, ← hP]
    omega
  · rw [if_neg h]
    obtain ⟨h1, h2⟩ := quoN_near (V := V) ha hb
    rw [Int.mul_assoc] at h1 h2
    omega
theorem quoN_mono {V W a b : Int} (hVW : V ≤ W) (ha : 1 ≤ a) (hb : 1 ≤ b) : quoN V a b ≤ quoN W a b := by
  unfold quoN
  have h1 := Int.ediv_le_ediv (show 0 < a by omega) (show 2 * V ≤ 2 * W by omega)
  exact Int.ediv_le_ediv (by omega) (by omega)
theorem quoN_nonneg {V a b : Int} (hV : 0 ≤ V) (ha : 1 ≤ a) (hb : 1 ≤ b) : 0 ≤ quoN V a b := by
  unfold quoN
  have h1 := Int.ediv_nonneg (show 0 ≤ 2 * V by omega) (show 0 ≤ a by omega)
  exact Int.ediv_nonneg (by omega) (by omega)
theorem quoR_mono {V W a b : Int} (hVW : V ≤ W) (ha : 1 ≤ a) (hb : 1 ≤ b) : quoR V a b ≤ quoR W a b := by
  unfold quoR
  by_cases h1 : V < 0 <;> by_cases h2 : W < 0
  · rw [if_pos h1, if_pos h2]
    have := quoN_mono (a := a) (b := b) (show -W ≤ -V by omega) ha hb
    omega
  · rw [if_pos h1, if_neg h2]
    have p1 := quoN_nonneg (a := a) (b := b) (show 0 ≤ -V by omega) ha hb
    have p2 := quoN_nonneg (a := a) (b := b) (show 0 ≤ W by omega) ha hb
    omega
  · omega
  · rw [if_neg h1, if_neg h2]
    exact quoN_mono hVW ha hb
theorem near_eq {q V c : Int} (hc : 1 ≤ c) (h1 : 2 * (q * c) ≤ 2 * (V * c) + c) (h2 : 2 * (V * c) ≤ 2 * (q * c) + c) : q = V ∨ q = V + 1 ∨ q = V - 1 := by
  have e : q * c - V * c = (q - V) * c := by grind
  by_cases h : q ≤ V + 1
  · by_cases h' : V - 1 ≤ q
    · omega
    · have := Int.mul_le_mul_of_nonneg_right (show q - V ≤ -2 by omega) (show 0 ≤ c by omega)
      omega
  · have := Int.mul_le_mul_of_nonneg_right (show 2 ≤ q - V by omega) (show 0 ≤ c by omega)
    omega
theorem quoR_self (x a b : Int) (ha : 1 ≤ a) (hb : 1 ≤ b) : quoR (x * b * a) a b = x := by
  have h : ∀ y : Int, 0 ≤ y → quoN (y * b * a) a b = y := fun y hy => by
    unfold quoN
    have e1 : 2 * (y * b * a) / a = 2 * (y * b) := by
      rw [show 2 * (y * b * a) = 2 * (y * b) * a by grind]
      exact Int.mul_ediv_cancel _ (by omega)
    rw [e1, show 2 * (y * b) + b = b + y * (2 * b) by grind, Int.add_mul_ediv_right _ _ (by omega), Int.ediv_eq_zero_of_lt (by omega) (by omega)]
    omega
  unfold quoR
  by_cases hx : x * b * a < 0
  · rw [if_pos hx]
    have hx0 : x < 0 := by
      by_cases hx0 : x < 0
      · exact hx0
      · have := Int.mul_nonneg (Int.mul_nonneg (show 0 ≤ x by omega) (show 0 ≤ b by omega)) (show 0 ≤ a by omega)
        omega
    rw [show -(x * b * a) = (-x) * b * a by grind, h (-x) (by omega)]
    omega
  · rw [if_neg hx]
    have hx0 : 0 ≤ x := by
      by_cases hx0 : 0 ≤ x
      · exact hx0
      · have h1 := Int.mul_pos (show 0 < -x by omega) (Int.mul_pos (show 0 < b by omega) (show 0 < a by omega))
        have : -x * (b * a) = -(x * b * a) := by grind
        omega
    exact h x hx0

theorem scaleR {u : UnitD} (h : validB u = true) : (1 ≤ u.n ∧ u.n ≤ 100000000000) ∧ (1 ≤ u.d ∧ u.d ≤ 100000000000) := by
  unfold validB inScaleB at h
  simp only [Bool.and_eq_true, decide_eq_true_eq] at h
  exact ⟨⟨h.1.1.2.1.1.1, h.1.1.2.1.1.2⟩, ⟨h.1.1.2.1.2.1, h.1.1.2.1.2.2⟩⟩
theorem conv_self (x : Int) (u : UnitD) (h : validB u = true) (hx : clampI x = x) : convR x u u = (x, 0) := by
  obtain ⟨u0, u1, u2, u3, un, ud, uo⟩ := u
  obtain ⟨bn, bd⟩ := scaleR h
  have e : convN x ⟨u0, u1, u2, u3, un, ud, uo⟩ ⟨u0, u1, u2, u3, un, ud, uo⟩ = x := by
    unfold convN distI
    show quoR ((x * un + (uo - uo) * ud) * ud) ud un = x
    rw [show (x * un + (uo - uo) * ud) * ud = x * un * ud by grind]
    exact quoR_self x ud un bd.1 bn.1
  unfold convR
  rw [if_neg (by simp [h, hx]), if_neg (by simp), e, hx, if_pos rfl]
end Go.Proofs.YtjkdcbkfcmaadaaDoor
