/- Plain facts: a quotient, a line, a curve that never falls are monotone; where a curve first reaches a number. No Go. -/
import Derived.Test.YthghcppdfeeloaaRe
namespace Go.Proofs.Ythghcppdfeeloaa
open Go.RowKit

theorem divU_mono (n m d : Nat) (_hd : 0 < d) (h : n ≤ m) : divU n d ≤ divU m d := by
  have hrn := divU_range n d
  have hrm := divU_range m d
  have hq : n / d ≤ m / d := Nat.div_le_div_right h
  have hg : n / 18446744073709551616 ≤ m / 18446744073709551616 := Nat.div_le_div_right h
  by_cases h1 : m / 18446744073709551616 ≥ d
  · have e : divU m d = 1000000000000 := by unfold divU; rw [if_pos h1]
    omega
  · by_cases h2 : m / d ≥ 1000000000000
    · have e : divU m d = 1000000000000 := by unfold divU; rw [if_neg h1, if_pos h2]
      omega
    · have en : divU n d = if n % d ≥ d - n % d then ((n / d : Nat) : Int) + 1 else ((n / d : Nat) : Int) := by
        unfold divU; rw [if_neg (by omega), if_neg (by omega)]
      have em : divU m d = if m % d ≥ d - m % d then ((m / d : Nat) : Int) + 1 else ((m / d : Nat) : Int) := by
        unfold divU; rw [if_neg h1, if_neg h2]
      rw [en, em]
      by_cases hlt : n / d < m / d
      · generalize n / d = q at *
        generalize m / d = r at *
        split <;> split <;> omega
      · have he : n / d = m / d := by omega
        have hn := Nat.div_add_mod n d
        have hm := Nat.div_add_mod m d
        rw [he] at hn
        generalize d * (m / d) = P at *
        rw [he]
        generalize m / d = r at *
        split <;> split <;> omega
theorem quoI_nonneg (p d : Int) (hd : 0 < d) (hp : 0 ≤ p) : 0 ≤ quoI p d := by
  rw [quoI_pos p d hd hp]; exact (divU_range _ _).1
theorem quoI_mono (p q d : Int) (hd : 0 < d) (h : p ≤ q) : quoI p d ≤ quoI q d := by
  by_cases hp : 0 ≤ p
  · rw [quoI_pos p d hd hp, quoI_pos q d hd (by omega)]
    exact divU_mono _ _ _ (by omega) (by omega)
  · by_cases hq : q ≤ 0
    · rw [quoI_neg2 p d hd (by omega), quoI_neg2 q d hd hq]
      have := divU_mono q.natAbs p.natAbs d.natAbs (by omega) (by omega)
      omega
    · have h1 := quoI_nonneg q d hd (by omega)
      rw [quoI_neg2 p d hd (by omega)]
      have := (divU_range p.natAbs d.natAbs).1
      omega

theorem num_mono (y1 y2 X1 X2 s t : Int) (hy : y1 ≤ y2) (h : s ≤ t) : y1 * (X2 - s) + y2 * (s - X1) ≤ y1 * (X2 - t) + y2 * (t - X1) := by
  have h1 := Int.mul_nonneg (show 0 ≤ y2 - y1 by omega) (show 0 ≤ t - s by omega)
  rw [Int.sub_mul, Int.mul_sub, Int.mul_sub] at h1
  rw [Int.mul_sub, Int.mul_sub, Int.mul_sub, Int.mul_sub]
  generalize y1 * X2 = A at *
  generalize y2 * X1 = B at *
  generalize y1 * s = C at *
  generalize y1 * t = D at *
  generalize y2 * s = E at *
  generalize y2 * t = F at *
  omega
theorem lineI_mono (x x' x1 y1 x2 y2 : Int) (hx : clampI x1 < clampI x2) (hy : clampI y1 ≤ clampI y2) (h : x ≤ x') : lineI x x1 y1 x2 y2 ≤ lineI x' x1 y1 x2 y2 := by
  have hc : clampI x ≤ clampI x' := by unfold clampI; omega
  unfold lineI
  rw [if_neg (by omega), if_neg (by omega)]
  exact quoI_mono _ _ _ (by omega) (num_mono _ _ _ _ _ _ hy (by omega))
theorem lineI_right (x x1 y1 x2 y2 : Int) (h : clampI x1 < clampI x2) (hs : clampI x2 ≤ clampI x) : lineI x x1 y1 x2 y2 = clampI y2 := by
  have ry2 := clampI_range y2
  unfold lineI
  rw [if_neg (by omega), show min (max (clampI x) (clampI x1)) (clampI x2) = clampI x2 by omega, Int.sub_self, Int.mul_zero, Int.zero_add]
  exact quoI_exact2 _ _ (by omega) ry2.1 ry2.2
theorem lineI_between (x x1 y1 x2 y2 : Int) (hx : clampI x1 < clampI x2) (hy : clampI y1 ≤ clampI y2) : clampI y1 ≤ lineI x x1 y1 x2 y2 ∧ lineI x x1 y1 x2 y2 ≤ clampI y2 := by
  by_cases h1 : clampI x ≤ clampI x1
  · rw [lineI_left x x1 y1 x2 y2 hx h1]; exact ⟨Int.le_refl _, hy⟩
  · by_cases h2 : clampI x2 ≤ clampI x
    · rw [lineI_right x x1 y1 x2 y2 hx h2]; exact ⟨hy, Int.le_refl _⟩
    · have e1 := lineI_left (clampI x1) x1 y1 x2 y2 hx (by rw [clampI_clampI]; exact Int.le_refl _)
      have e2 := lineI_right (clampI x2) x1 y1 x2 y2 hx (by rw [clampI_clampI]; exact Int.le_refl _)
      have e3 : lineI (clampI x) x1 y1 x2 y2 = lineI x x1 y1 x2 y2 := by unfold lineI; rw [clampI_clampI]
      have m1 := lineI_mono (clampI x1) (clampI x) x1 y1 x2 y2 hx hy (by omega)
      have m2 := lineI_mono (clampI x) (clampI x2) x1 y1 x2 y2 hx hy (by omega)
      omega

/-- a curve that never falls: its knots rise -/
theorem up_mono (ks : List (Int × Int)) (h : dnL ks (ks.length - 1) = false) : ∀ j i, i ≤ j → j < ks.length → ky ks i ≤ ky ks j
  | 0, i, h1, _ => by obtain rfl : i = 0 := by omega
                      exact Int.le_refl _
  | j + 1, i, h1, h2 => by
    by_cases he : i = j + 1
    · subst he; exact Int.le_refl _
    · have := up_mono ks h j i (by omega) (by omega)
      have h3 : decide (ky ks (j + 1) < ky ks j) = false := by
        rw [← Bool.not_eq_true]
        intro h4
        have : dnL ks (ks.length - 1) = true := by
          unfold dnL; rw [List.any_eq_true]; exact ⟨j, List.mem_range.2 (by omega), h4⟩
        rw [h] at this; cases this
      have := of_decide_eq_false h3
      omega
theorem dir_up (ks : List (Int × Int)) (h : dirI ks = 0 ∨ dirI ks = 1) : dnL ks (ks.length - 1) = false := by
  unfold dirI at h
  cases hd : dnL ks (ks.length - 1)
  · rfl
  · rw [hd] at h
    simp only [if_true] at h
    split at h <;> omega

/-- the value lies between the Y of the knots on both sides -/
theorem val_sides (ks : List (Int × Int)) (x : Int) (he : checkL ks = 0) (hu : dnL ks (ks.length - 1) = false) : ky ks (behind ks x - 1) ≤ valI ks x ∧ valI ks x ≤ ky ks (min (behind ks x) (ks.length - 1)) := by
  obtain ⟨h0, h32, hf, hr⟩ := check_zero ks he
  obtain ⟨b1, _, _⟩ := behind_facts ks x hr
  obtain ⟨f1, f2⟩ := fit_at ks hf (behind ks x - 1) (by omega)
  obtain ⟨g1, g2⟩ := fit_at ks hf (min (behind ks x) (ks.length - 1)) (by omega)
  unfold valI
  by_cases hr0 : behind ks x - 1 = min (behind ks x) (ks.length - 1)
  · rw [← hr0, lineI_one, f2]; exact ⟨Int.le_refl _, Int.le_refl _⟩
  · have h1 := rise_lt ks hr (behind ks x - 1) (min (behind ks x) (ks.length - 1)) (by omega) (by omega)
    have h2 := up_mono ks hu (min (behind ks x) (ks.length - 1)) (behind ks x - 1) (by omega) (by omega)
    have := lineI_between x (kx ks (behind ks x - 1)) (ky ks (behind ks x - 1)) (kx ks (min (behind ks x) (ks.length - 1))) (ky ks (min (behind ks x) (ks.length - 1))) (by omega) (by omega)
    rw [f2, g2] at this
    exact this
theorem val_mono (ks : List (Int × Int)) (x x' : Int) (he : checkL ks = 0) (hu : dnL ks (ks.length - 1) = false) (h : x ≤ x') : valI ks x ≤ valI ks x' := by
  obtain ⟨h0, h32, hf, hr⟩ := check_zero ks he
  obtain ⟨b1, b2, b3⟩ := behind_facts ks x hr
  obtain ⟨c1, c2, c3⟩ := behind_facts ks x' hr
  rcases Nat.lt_trichotomy (behind ks x) (behind ks x') with hlt | heq | hgt
  · have v1 := (val_sides ks x he hu).2
    have v2 := (val_sides ks x' he hu).1
    have := up_mono ks hu (behind ks x' - 1) (min (behind ks x) (ks.length - 1)) (by omega) (by omega)
    omega
  · by_cases hr0 : behind ks x - 1 = min (behind ks x) (ks.length - 1)
    · unfold valI
      rw [← heq, ← hr0, lineI_one, lineI_one]; exact Int.le_refl _
    · obtain ⟨f1, f2⟩ := fit_at ks hf (behind ks x - 1) (by omega)
      obtain ⟨g1, g2⟩ := fit_at ks hf (min (behind ks x) (ks.length - 1)) (by omega)
      have h1 := rise_lt ks hr (behind ks x - 1) (min (behind ks x) (ks.length - 1)) (by omega) (by omega)
      have h2 := up_mono ks hu (min (behind ks x) (ks.length - 1)) (behind ks x - 1) (by omega) (by omega)
      unfold valI
      rw [← heq]
      exact lineI_mono _ _ _ _ _ _ (by omega) (by omega) h
  · have h1 := of_decide_eq_false (b2 (behind ks x') hgt)
    have h2 := of_decide_eq_true (c3 (behind ks x') (Nat.le_refl _) (by omega))
    omega

/-- how far behind the first knot the curve first reaches y -/
def invR (ks : List (Int × Int)) (y : Int) : Nat := (List.range (kx ks (ks.length - 1) - kx ks 0).toNat).findIdx fun m => decide (y ≤ valI ks (kx ks 0 + (m : Nat)))
theorem invR_facts (ks : List (Int × Int)) (y : Int) (he : checkL ks = 0) (hu : dnL ks (ks.length - 1) = false) :
    invR ks y ≤ (kx ks (ks.length - 1) - kx ks 0).toNat ∧ (∀ m, m < invR ks y → decide (y ≤ valI ks (kx ks 0 + (m : Nat))) = false) ∧ (∀ m, invR ks y ≤ m → m < (kx ks (ks.length - 1) - kx ks 0).toNat → decide (y ≤ valI ks (kx ks 0 + (m : Nat))) = true) := by
  obtain ⟨h1, h2, h3⟩ := findIdx_range (fun m => decide (y ≤ valI ks (kx ks 0 + (m : Nat)))) (kx ks (ks.length - 1) - kx ks 0).toNat
  refine ⟨h1, h2, fun m hm hn => ?_⟩
  have h4 := of_decide_eq_true (h3 (Nat.lt_of_le_of_lt hm hn))
  have h5 := val_mono ks (kx ks 0 + (invR ks y : Nat)) (kx ks 0 + (m : Nat)) he hu (by omega)
  unfold invR at h5
  rw [decide_eq_true_eq]
  omega
theorem invR_eq (ks : List (Int × Int)) (y : Int) (he : checkL ks = 0) (hu : dnL ks (ks.length - 1) = false) (r : Nat) (hr : r ≤ (kx ks (ks.length - 1) - kx ks 0).toNat) (h1 : 0 < r → valI ks (kx ks 0 + ((r - 1 : Nat) : Int)) < y) (h2 : r < (kx ks (ks.length - 1) - kx ks 0).toNat → y ≤ valI ks (kx ks 0 + (r : Nat))) : invR ks y = r := by
  obtain ⟨b1, b2, b3⟩ := invR_facts ks y he hu
  rcases Nat.lt_trichotomy (invR ks y) r with h3 | h3 | h3
  · have h4 := of_decide_eq_true (b3 (r - 1) (by omega) (by omega))
    have := h1 (by omega)
    omega
  · exact h3
  · have h4 := of_decide_eq_false (b2 r h3)
    have := h2 (by omega)
    omega
end Go.Proofs.Ythghcppdfeeloaa
