/- Plain facts on numbers of 128 bits in two words, on rounding and on clamping. No Go; no conditions beyond what each states. -/
import Derived.Laws.BitsAllLaws
import Derived.Laws.Bits64
import Derived.RowKit
import Derived.Lib.BitFns
namespace Go.Proofs.YtaobbedajgkmiaaDoor
open Go.RowKit

/-- the two words of a number -/
def hiW (V : Int) : Int := V / 18446744073709551616 % 18446744073709551616
def loW (V : Int) : Int := V % 18446744073709551616

theorem hiW_range (V : Int) : 0 ≤ hiW V ∧ hiW V < 18446744073709551616 := by unfold hiW; omega
theorem loW_range (V : Int) : 0 ≤ loW V ∧ loW V < 18446744073709551616 := by unfold loW; omega

theorem hiW_neg (V : Int) (h1 : -170141183460469231731687303715884105728 ≤ V) (h2 : V < 170141183460469231731687303715884105728) : (hiW V / 9223372036854775808 = 1) ↔ V < 0 := by
  unfold hiW; omega
theorem words_zero (V : Int) (h1 : -170141183460469231731687303715884105728 ≤ V) (h2 : V < 170141183460469231731687303715884105728) : (hiW V = 0 ∧ loW V = 0) ↔ V = 0 := by
  unfold hiW loW; omega

/-- what stands for a word as a number without a sign -/
def uns (a : Int) : Int := a % 18446744073709551616

theorem prod_pp (a b : Int) (ha : 0 ≤ a) (ha2 : a < 9223372036854775808) (hb : 0 ≤ b) (hb2 : b < 9223372036854775808) :
    uns a * uns b / 18446744073709551616 = hiW (a * b) ∧ uns a * uns b % 18446744073709551616 = loW (a * b) := by
  have e1 : uns a = a := by unfold uns; omega
  have e2 : uns b = b := by unfold uns; omega
  have h1 := Int.mul_nonneg ha hb
  have h2 : a * b ≤ 9223372036854775808 * 9223372036854775808 := Int.mul_le_mul (by omega) (by omega) hb (by omega)
  rw [e1, e2]
  unfold hiW loW
  generalize a * b = P at *
  omega
theorem prod_np (a b : Int) (ha : a < 0) (ha2 : -9223372036854775808 ≤ a) (hb : 0 ≤ b) (hb2 : b < 9223372036854775808) :
    uns (uns a * uns b / 18446744073709551616 - uns b) = hiW (a * b) ∧ uns a * uns b % 18446744073709551616 = loW (a * b) := by
  have e1 : uns a = a + 18446744073709551616 := by unfold uns; omega
  have e2 : uns b = b := by unfold uns; omega
  rw [e1, e2, Int.add_mul]
  unfold hiW loW uns
  generalize a * b = P
  omega
theorem prod_pn (a b : Int) (ha : 0 ≤ a) (ha2 : a < 9223372036854775808) (hb : b < 0) (hb2 : -9223372036854775808 ≤ b) :
    uns (uns a * uns b / 18446744073709551616 - uns a) = hiW (a * b) ∧ uns a * uns b % 18446744073709551616 = loW (a * b) := by
  have h := prod_np b a hb hb2 ha ha2
  rw [Int.mul_comm a b, Int.mul_comm (uns a) (uns b)]
  exact h
theorem prod_nn (a b : Int) (ha : a < 0) (ha2 : -9223372036854775808 ≤ a) (hb : b < 0) (hb2 : -9223372036854775808 ≤ b) :
    uns (uns (uns a * uns b / 18446744073709551616 - uns b) - uns a) = hiW (a * b) ∧ uns a * uns b % 18446744073709551616 = loW (a * b) := by
  have e1 : uns a = a + 18446744073709551616 := by unfold uns; omega
  have e2 : uns b = b + 18446744073709551616 := by unfold uns; omega
  rw [e1, e2, Int.add_mul, Int.mul_add, Int.mul_add]
  unfold hiW loW uns
  generalize a * b = P
  omega

/-- a sum, word by word -/
theorem plus_words (V U : Int) :
    (loW V + loW U) % 18446744073709551616 = loW (V + U) ∧ (hiW V + hiW U + (loW V + loW U) / 18446744073709551616) % 18446744073709551616 = hiW (V + U) := by
  unfold hiW loW; omega
/-- the complement -/
theorem compl_words (V : Int) : 18446744073709551615 - hiW V = hiW (-1 - V) ∧ 18446744073709551615 - loW V = loW (-1 - V) := by
  unfold hiW loW; omega

/-- the limit -/
def clampI (n : Int) : Int := min (max n (-1000000000000)) 1000000000000
theorem clampI_range (n : Int) : -1000000000000 ≤ clampI n ∧ clampI n ≤ 1000000000000 := by unfold clampI; omega
theorem clampI_in (n : Int) (h1 : -1000000000000 ≤ n) (h2 : n ≤ 1000000000000) : clampI n = n := by unfold clampI; omega
theorem clampI_clampI (n : Int) : clampI (clampI n) = clampI n := by unfold clampI; omega
theorem clampI_neg (n : Int) : clampI (-n) = -clampI n := by unfold clampI; omega

/-- a quotient without signs, rounded half up, at most the limit -/
def divU (n d : Nat) : Int := if n / 18446744073709551616 ≥ d then 1000000000000 else if n / d ≥ 1000000000000 then 1000000000000 else if n % d ≥ d - n % d then (n / d : Nat) + 1 else (n / d : Nat)
/-- a quotient, rounded half away from zero and clamped -/
def quoI (p c : Int) : Int := if p = 0 then 0 else if (decide (p < 0) != decide (c < 0)) = true then - divU p.natAbs c.natAbs else divU p.natAbs c.natAbs
def mulDivI (a b c : Int) : Int := quoI (clampI a * clampI b) (clampI c)

theorem divU_range (n d : Nat) : 0 ≤ divU n d ∧ divU n d ≤ 1000000000000 := by
  unfold divU
  generalize n / d = q
  split
  · omega
  · split
    · omega
    · split <;> omega
theorem quoI_range (p c : Int) : -1000000000000 ≤ quoI p c ∧ quoI p c ≤ 1000000000000 := by
  have := divU_range p.natAbs c.natAbs
  unfold quoI; split
  · omega
  · split <;> omega
theorem mulDivI_range (a b c : Int) : -1000000000000 ≤ mulDivI a b c ∧ mulDivI a b c ≤ 1000000000000 := quoI_range _ _
theorem mulDivI_comm (a b c : Int) : mulDivI a b c = mulDivI b a c := by unfold mulDivI; rw [Int.mul_comm]
theorem quoI_neg (p c : Int) : quoI (-p) c = - quoI p c := by
  unfold quoI
  by_cases h : p = 0
  · subst h; simp
  · rw [if_neg (by omega), if_neg h, Int.natAbs_neg]
    by_cases h1 : p < 0
    · rw [decide_eq_true h1, decide_eq_false (by omega : ¬ -p < 0)]
      by_cases h2 : c < 0 <;> simp [h2]
    · rw [decide_eq_false h1, decide_eq_true (by omega : -p < 0)]
      by_cases h2 : c < 0 <;> simp [h2]
theorem mulDivI_neg (a b c : Int) : mulDivI (-a) b c = - mulDivI a b c := by
  unfold mulDivI; rw [clampI_neg, Int.neg_mul, quoI_neg]

/-- an exact quotient of a small number -/
theorem divU_exact (n d : Nat) (hd : 0 < d) (hn : n ≤ 1000000000000) (hdd : d ≤ 1000000000000) : divU (n * d) d = n := by
  have h1 : n * d / d = n := Nat.mul_div_cancel _ hd
  have h2 : n * d % d = 0 := Nat.mul_mod_left _ _
  have h3 : n * d / 18446744073709551616 < d := by
    rw [Nat.div_lt_iff_lt_mul (by decide), Nat.mul_comm n d]
    exact Nat.mul_lt_mul_of_pos_left (by omega) hd
  unfold divU
  rw [h1, h2, if_neg (by omega)]
  split <;> omega
theorem quoI_exact (n : Int) (h1 : -1000000000000 ≤ n) (h2 : n ≤ 1000000000000) : quoI (n * 1000) 1000 = n := by
  have h := divU_exact n.natAbs 1000 (by omega) (by omega) (by omega)
  have e : (n * 1000).natAbs = n.natAbs * 1000 := by rw [Int.natAbs_mul]; rfl
  unfold quoI
  by_cases h0 : n = 0
  · subst h0; rfl
  · rw [if_neg (by omega), e, show (1000 : Int).natAbs = 1000 from rfl, h]
    by_cases hs : n < 0
    · have hs' : n * 1000 < 0 := by omega
      simp [hs']; omega
    · have hs' : ¬ n * 1000 < 0 := by omega
      simp [hs']; omega

/-- the nearest one -/
theorem divU_near (n d : Nat) (hd : 0 < d) (hn : n ≤ 1000000000000) : 2 * ((n : Int) - divU n d * d) ≤ d ∧ -(d : Int) ≤ 2 * ((n : Int) - divU n d * d) := by
  have e := Nat.div_add_mod n d
  have hm := Nat.mod_lt n hd
  have hq : n / d ≤ n := Nat.div_le_self _ _
  have h0 : ¬ n / 18446744073709551616 ≥ d := by omega
  unfold divU
  rw [if_neg h0]
  by_cases h1 : n / d ≥ 1000000000000
  · have hd1 : d = 1 := by
      have : n / d * d ≤ n := Nat.div_mul_le_self n d
      rcases Nat.lt_or_ge d 2 with h | h
      · omega
      · have := Nat.mul_le_mul h1 h
        omega
    subst hd1
    rw [if_pos h1]
    rw [Nat.div_one] at h1
    omega
  · rw [if_neg h1]
    have e' : (d : Int) * ((n / d : Nat) : Int) + ((n % d : Nat) : Int) = (n : Int) := by exact_mod_cast e
    split
    · rw [Int.add_mul, Int.mul_comm ((n / d : Nat) : Int)]
      generalize (d : Int) * ((n / d : Nat) : Int) = P at *
      omega
    · rw [Int.mul_comm ((n / d : Nat) : Int)]
      generalize (d : Int) * ((n / d : Nat) : Int) = P at *
      omega
theorem quoI_near (p c : Int) (hc : 0 < c) (hp : p.natAbs ≤ 1000000000000) : 2 * (p - quoI p c * c) ≤ c ∧ -c ≤ 2 * (p - quoI p c * c) := by
  have h := divU_near p.natAbs c.natAbs (by omega) hp
  rw [show ((c.natAbs : Nat) : Int) = c by omega] at h
  unfold quoI
  by_cases h0 : p = 0
  · subst h0; simp; omega
  · rw [if_neg h0]
    have hc' : ¬ c < 0 := by omega
    by_cases hs : p < 0
    · simp only [hs, hc', decide_true, decide_false, bne_iff_ne, ne_eq, Bool.true_eq_false, not_false_eq_true, if_true]
      rw [show ((p.natAbs : Nat) : Int) = -p by omega] at h
      rw [Int.neg_mul]
      generalize divU p.natAbs c.natAbs * c = R at *
      omega
    · simp only [hs, hc', decide_false, bne_self_eq_false, if_false, Bool.false_eq_true]
      rw [show ((p.natAbs : Nat) : Int) = p by omega] at h
      exact h
/-! sizes of numbers -/
theorem lt_pow_bitLenAux : ∀ (f x : Nat), x < 2 ^ f → x < 2 ^ Lib.bitLenAux f x
  | 0, x, h => by simpa [Lib.bitLenAux] using h
  | f + 1, x, h => by
    unfold Lib.bitLenAux
    by_cases h0 : x = 0
    · subst h0; simp
    · rw [if_neg h0]
      have := lt_pow_bitLenAux f (x / 2) (by rw [Nat.pow_succ] at h; omega)
      rw [Nat.add_comm, Nat.pow_succ]
      omega
theorem bitLen_iff (x k : Nat) (hx : x < 18446744073709551616) : Lib.bitLen x ≤ k ↔ x < 2 ^ k := by
  constructor
  · intro h
    exact Nat.lt_of_lt_of_le (lt_pow_bitLenAux 64 x hx) (Nat.pow_le_pow_right (by omega) h)
  · intro h
    exact Lib.bitLenAux_le 64 x k h
end Go.Proofs.YtaobbedajgkmiaaDoor
