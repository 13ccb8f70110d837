/- Plain facts: a quotient bit by bit, as the specification reckons it; a line. No Go; no conditions beyond what each states. -/
import Derived.Test.YtaobbedajgkmiaaDoorS
namespace Go.Proofs.YtaobbedajgkmiaaDoor
open Go.RowKit

/-- one bit more -/
theorem div_bit (D c b : Nat) (hc : 0 < c) (hb : b ≤ 1) :
    (2 * D + b) / c = 2 * (D / c) + (if c ≤ 2 * (D % c) + b then 1 else 0) ∧ (2 * D + b) % c = 2 * (D % c) + b - (if c ≤ 2 * (D % c) + b then c else 0) := by
  have e := Nat.div_add_mod D c
  have hm := Nat.mod_lt D hc
  generalize hq : D / c = q at *
  generalize hr : D % c = r at *
  have e2 : 2 * D + b = c * (2 * q) + (2 * r + b) := by
    rw [Nat.mul_left_comm]; omega
  rw [e2, Nat.mul_add_div hc, Nat.mul_add_mod]
  split
  · rename_i h
    have e3 : 2 * r + b = (2 * r + b - c) + c := by omega
    have l : 2 * r + b - c < c := by omega
    rw [e3, Nat.add_div_right _ hc, Nat.add_mod_right, Nat.mod_eq_of_lt l, Nat.div_eq_of_lt l]
    omega
  · rename_i h
    rw [Nat.mod_eq_of_lt (by omega), Nat.div_eq_of_lt (by omega)]
    omega

/-- what has been taken of a dividend of two words, k bits of the low one still to come -/
def taken (hi lo k : Nat) : Nat := hi * 2 ^ (64 - k) + lo / 2 ^ k
theorem taken_start (hi lo : Nat) (hlo : lo < 18446744073709551616) : taken hi lo 64 = hi := by
  unfold taken
  rw [Nat.div_eq_of_lt (by simpa using hlo)]; simp
theorem taken_end (hi lo : Nat) : taken hi lo 0 = hi * 18446744073709551616 + lo := by
  unfold taken; simp
theorem taken_step (hi lo k : Nat) (hk : k < 64) : taken hi lo k = 2 * taken hi lo (k + 1) + lo / 2 ^ k % 2 := by
  unfold taken
  have e1 : 2 ^ (64 - k) = 2 * 2 ^ (64 - (k + 1)) := by
    rw [show 64 - k = (64 - (k + 1)) + 1 by omega, Nat.pow_succ, Nat.mul_comm]
  have e2 : lo / 2 ^ (k + 1) = lo / 2 ^ k / 2 := by rw [Nat.pow_succ, Nat.div_div_eq_div_mul]
  rw [e1, e2, Nat.mul_left_comm]
  omega
theorem taken_div_lt (hi lo c k : Nat) (hk : k ≤ 64) (hc : hi < c) (hlo : lo < 18446744073709551616) : taken hi lo k / c < 2 ^ (64 - k) := by
  unfold taken
  rw [Nat.div_lt_iff_lt_mul (by omega)]
  have e : 2 ^ (64 - k) * 2 ^ k = 18446744073709551616 := by rw [← Nat.pow_add, Nat.sub_add_cancel hk]
  have h : lo / 2 ^ k < 2 ^ (64 - k) := by
    rw [Nat.div_lt_iff_lt_mul (Nat.two_pow_pos _), e]; exact hlo
  have h2 : (hi + 1) * 2 ^ (64 - k) ≤ c * 2 ^ (64 - k) := Nat.mul_le_mul_right _ hc
  rw [Nat.add_mul] at h2
  rw [Nat.mul_comm (2 ^ (64 - k)) c]
  omega

/-- the value on a line -/
def lineI (x x1 y1 x2 y2 : Int) : Int :=
  if clampI x1 ≥ clampI x2 then (if clampI x < clampI x1 then clampI y1 else clampI y2)
  else quoI (clampI y1 * (clampI x2 - min (max (clampI x) (clampI x1)) (clampI x2)) + clampI y2 * (min (max (clampI x) (clampI x1)) (clampI x2) - clampI x1)) (clampI x2 - clampI x1)

theorem divU_exact2 (n d : Nat) (hd : 0 < d) (hn : n ≤ 1000000000000) : divU (n * d) d = n := by
  have h1 : n * d / d = n := Nat.mul_div_cancel _ hd
  have h2 : n * d % d = 0 := Nat.mul_mod_left _ _
  have h3 : n * d / 18446744073709551616 < d := by
    rw [Nat.div_lt_iff_lt_mul (by decide), Nat.mul_comm n d]
    exact Nat.mul_lt_mul_of_pos_left (by omega) hd
  unfold divU
  rw [h1, h2, if_neg (by omega)]
  split <;> omega
theorem quoI_exact2 (n d : Int) (hd : 0 < d) (h1 : -1000000000000 ≤ n) (h2 : n ≤ 1000000000000) : quoI (n * d) d = n := by
  have h := divU_exact2 n.natAbs d.natAbs (by omega) (by omega)
  have e : (n * d).natAbs = n.natAbs * d.natAbs := Int.natAbs_mul _ _
  unfold quoI
  by_cases h0 : n = 0
  · subst h0; simp
  · have hn0 : n * d ≠ 0 := Int.mul_ne_zero h0 (by omega)
    rw [if_neg hn0, e, h]
    have hd' : ¬ d < 0 := by omega
    by_cases hs : n < 0
    · have hs' : n * d < 0 := Int.mul_neg_of_neg_of_pos hs hd
      rw [decide_eq_true hs', decide_eq_false hd', if_pos (by decide)]; omega
    · have hs' : ¬ n * d < 0 := by
        have := Int.mul_nonneg (show 0 ≤ n by omega) (show 0 ≤ d by omega); omega
      rw [decide_eq_false hs', decide_eq_false hd', if_neg (by decide)]; omega

/-- a quotient by its sign -/
theorem quoI_pos (p d : Int) (hd : 0 < d) (hp : 0 ≤ p) : quoI p d = divU p.natAbs d.natAbs := by
  unfold quoI
  by_cases h0 : p = 0
  · subst h0
    rw [if_pos rfl]
    have := divU_exact2 0 d.natAbs (by omega) (by omega)
    rw [Nat.zero_mul] at this
    exact this.symm
  · rw [if_neg h0, decide_eq_false (by omega : ¬ p < 0), decide_eq_false (by omega : ¬ d < 0), if_neg (by decide)]
theorem quoI_neg2 (p d : Int) (hd : 0 < d) (hp : p ≤ 0) : quoI p d = - divU p.natAbs d.natAbs := by
  have h := quoI_pos (-p) d hd (by omega)
  rw [quoI_neg, Int.natAbs_neg] at h
  omega
end Go.Proofs.YtaobbedajgkmiaaDoor
