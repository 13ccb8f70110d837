/- Plain facts: a curve's value on a piece lies between the values at its ends, and within the bounds of every span around it. No Go. -/
import Derived.Test.YthghcppdfeeloaaRc
import Derived.Test.YthghcppdfeeloaaNg
namespace Go.Proofs.Ythghcppdfeeloaa
open Go.RowKit

theorem val_seg (ks : List (Int × Int)) (x : Int) (i : Nat) (he : checkL ks = 0) (hi : i + 1 < ks.length) (h1 : kx ks i ≤ x) (h2 : x ≤ kx ks (i + 1)) : valI ks x = lineI x (kx ks i) (ky ks i) (kx ks (i + 1)) (ky ks (i + 1)) := by
  by_cases h : x < kx ks (i + 1)
  · exact val_mid ks x i he hi h1 h
  · obtain rfl : x = kx ks (i + 1) := by omega
    obtain ⟨h0, h32, hf, hr⟩ := check_zero ks he
    obtain ⟨f1, f2⟩ := fit_at ks hf i (by omega)
    obtain ⟨g1, g2⟩ := fit_at ks hf (i + 1) (by omega)
    have h3 := rise_lt ks hr i (i + 1) (by omega) hi
    rw [val_knot ks (i + 1) he hi, lineI_right _ _ _ _ _ (by omega) (Int.le_refl _), g2]
theorem lineI_anti (x x' x1 y1 x2 y2 : Int) (hx : clampI x1 < clampI x2) (hy : clampI y2 ≤ clampI y1) (h : x ≤ x') : lineI x' x1 y1 x2 y2 ≤ lineI x x1 y1 x2 y2 := by
  have := lineI_mono x x' x1 (-y1) x2 (-y2) hx (by rw [clampI_neg, clampI_neg]; omega) h
  rw [lineI_negK, lineI_negK] at this
  omega
/-- on a piece the value lies between the values at two numbers around -/
theorem val_piece (ks : List (Int × Int)) (s x t : Int) (i : Nat) (he : checkL ks = 0) (hi : i + 1 < ks.length) (h1 : kx ks i ≤ s) (h2 : s ≤ x) (h3 : x ≤ t) (h4 : t ≤ kx ks (i + 1)) :
    min (valI ks s) (valI ks t) ≤ valI ks x ∧ valI ks x ≤ max (valI ks s) (valI ks t) := by
  obtain ⟨h0, h32, hf, hr⟩ := check_zero ks he
  obtain ⟨f1, f2⟩ := fit_at ks hf i (by omega)
  obtain ⟨g1, g2⟩ := fit_at ks hf (i + 1) (by omega)
  have h5 := rise_lt ks hr i (i + 1) (by omega) hi
  rw [val_seg ks s i he hi h1 (by omega), val_seg ks x i he hi (by omega) (by omega), val_seg ks t i he hi (by omega) h4]
  by_cases hy : ky ks i ≤ ky ks (i + 1)
  · have m1 := lineI_mono s x (kx ks i) (ky ks i) (kx ks (i + 1)) (ky ks (i + 1)) (by omega) (by omega) h2
    have m2 := lineI_mono x t (kx ks i) (ky ks i) (kx ks (i + 1)) (ky ks (i + 1)) (by omega) (by omega) h3
    omega
  · have m1 := lineI_anti s x (kx ks i) (ky ks i) (kx ks (i + 1)) (ky ks (i + 1)) (by omega) (by omega) h2
    have m2 := lineI_anti x t (kx ks i) (ky ks i) (kx ks (i + 1)) (ky ks (i + 1)) (by omega) (by omega) h3
    omega
theorem val_between (ks : List (Int × Int)) (x : Int) (i : Nat) (he : checkL ks = 0) (hi : i + 1 < ks.length) (h1 : kx ks i ≤ x) (h2 : x ≤ kx ks (i + 1)) :
    min (ky ks i) (ky ks (i + 1)) ≤ valI ks x ∧ valI ks x ≤ max (ky ks i) (ky ks (i + 1)) := by
  have := val_piece ks (kx ks i) x (kx ks (i + 1)) i he hi (Int.le_refl _) h1 h2 (Int.le_refl _)
  rw [val_knot ks i he (by omega), val_knot ks (i + 1) he hi] at this
  exact this
theorem seg_of (ks : List (Int × Int)) (x : Int) (he : checkL ks = 0) (h1 : kx ks 0 ≤ x) (h2 : x < kx ks (ks.length - 1)) : ∃ i, i + 1 < ks.length ∧ kx ks i ≤ x ∧ x < kx ks (i + 1) := by
  obtain ⟨h0, h32, hf, hr⟩ := check_zero ks he
  obtain ⟨b1, b2, b3⟩ := behind_facts ks x hr
  have hp : 0 < behind ks x := by
    rcases Nat.eq_zero_or_pos (behind ks x) with h | h
    · have := of_decide_eq_true (b3 0 (by omega) h0); omega
    · exact h
  have hl : behind ks x < ks.length := by
    rcases Nat.lt_or_ge (behind ks x) ks.length with h | h
    · exact h
    · have := of_decide_eq_false (b2 (ks.length - 1) (by omega)); omega
  have c1 := of_decide_eq_false (b2 (behind ks x - 1) (by omega))
  have c2 := of_decide_eq_true (b3 (behind ks x) (Nat.le_refl _) hl)
  obtain ⟨i, hi⟩ : ∃ i, behind ks x = i + 1 := ⟨behind ks x - 1, by omega⟩
  rw [hi] at hl c1 c2
  exact ⟨i, hl, by have : i + 1 - 1 = i := rfl; rw [this] at c1; omega, c2⟩
theorem span_at (ks : List (Int × Int)) (lo hi : Int) (s : Int × Int) (k : Nat) : ∀ i, i < k → lo < kx ks i → kx ks i < hi → (spanL ks lo hi s k).1 ≤ ky ks i ∧ ky ks i ≤ (spanL ks lo hi s k).2 := by
  induction k with
  | zero => intro i hi; omega
  | succ k ih =>
    intro i hi h1 h2
    rw [spanL_succ]
    by_cases hk : i = k
    · subst hk
      rw [if_pos ⟨h1, h2⟩]
      exact ⟨by show min _ _ ≤ _; omega, by show _ ≤ max _ _; omega⟩
    · have := ih i (by omega) h1 h2
      split
      · exact ⟨by show min _ _ ≤ _; omega, by show _ ≤ max _ _; omega⟩
      · exact this
/-- within the bounds of a span the value at every number of it -/
theorem val_bounds (ks : List (Int × Int)) (lo hi x : Int) (he : checkL ks = 0) (h1 : lo ≤ x) (h2 : x ≤ hi) : (boundsI ks lo hi).1 ≤ valI ks x ∧ valI ks x ≤ (boundsI ks lo hi).2 := by
  have hin := spanL_inside ks lo hi (min (valI ks lo) (valI ks hi), max (valI ks lo) (valI ks hi)) ks.length
  have hk := span_at ks lo hi (min (valI ks lo) (valI ks hi), max (valI ks lo) (valI ks hi)) ks.length
  have e : boundsI ks lo hi = spanL ks lo hi (min (valI ks lo) (valI ks hi), max (valI ks lo) (valI ks hi)) ks.length := rfl
  rw [← e] at hin hk
  have i1 : (boundsI ks lo hi).1 ≤ min (valI ks lo) (valI ks hi) := hin.1
  have i2 : max (valI ks lo) (valI ks hi) ≤ (boundsI ks lo hi).2 := hin.2
  by_cases c1 : x < kx ks 0
  · have e1 := val_first ks x he (by omega)
    have e2 := val_first ks lo he (by omega)
    omega
  · by_cases c2 : kx ks (ks.length - 1) ≤ x
    · have e1 := val_last ks x he c2
      have e2 := val_last ks hi he (by omega)
      omega
    · obtain ⟨i, hi1, hi2, hi3⟩ := seg_of ks x he (by omega) (by omega)
      have hl : (boundsI ks lo hi).1 ≤ valI ks (max lo (kx ks i)) ∧ valI ks (max lo (kx ks i)) ≤ (boundsI ks lo hi).2 := by
        by_cases h : lo < kx ks i
        · rw [show max lo (kx ks i) = kx ks i by omega, val_knot ks i he (by omega)]
          by_cases h' : kx ks i < hi
          · exact hk i (by omega) h h'
          · have e3 := val_knot ks i he (by omega)
            rw [show kx ks i = hi by omega] at e3
            omega
        · rw [show max lo (kx ks i) = lo by omega]; omega
      have hh : (boundsI ks lo hi).1 ≤ valI ks (min hi (kx ks (i + 1))) ∧ valI ks (min hi (kx ks (i + 1))) ≤ (boundsI ks lo hi).2 := by
        by_cases h : kx ks (i + 1) < hi
        · rw [show min hi (kx ks (i + 1)) = kx ks (i + 1) by omega, val_knot ks (i + 1) he hi1]
          exact hk (i + 1) hi1 (by omega) h
        · rw [show min hi (kx ks (i + 1)) = hi by omega]; omega
      have := val_piece ks (max lo (kx ks i)) x (min hi (kx ks (i + 1))) i he hi1 (by omega) (by omega) (by omega) (by omega)
      omega
end Go.Proofs.Ythghcppdfeeloaa
