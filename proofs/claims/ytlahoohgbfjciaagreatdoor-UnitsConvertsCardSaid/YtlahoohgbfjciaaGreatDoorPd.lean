/- Plain facts on words: doubling a number of 128 bits, a bit of it. -/
import Derived.Test.YtlahoohgbfjciaaGreatDoorRh
import Derived.Laws.BitsAllLaws
namespace Go.Proofs.YtlahoohgbfjciaaGreatDoor
open Go.RowKit Go.Shelf

theorem or_even (x b : Int) (hx : 0 ≤ x) (hx2 : 2 * x < 18446744073709551616) (hb : b = 0 ∨ b = 1) : bits .or .u64 (2 * x) b = 2 * x + b := by
  rw [u64_or _ _ (by omega) (by omega) (by omega) (by omega)]
  obtain ⟨n, rfl⟩ := Int.eq_ofNat_of_zero_le hx
  have e1 : (2 * (n : Int)).toNat = 2 ^ 1 * n := by omega
  rcases hb with rfl | rfl
  · rw [e1, show (0 : Int).toNat = 0 from rfl, Nat.or_zero]; omega
  · rw [e1, show (1 : Int).toNat = 1 from rfl, ← Nat.two_pow_add_eq_or_of_lt (by decide)]; omega
theorem dbl_words (V b : Int) (hV : 0 ≤ V) (hV2 : V < 170141183460469231731687303715884105728) (hb : b = 0 ∨ b = 1) :
    bits .or .u64 (IntKind.u64.wrap (hiW V * 2)) (loW V / 9223372036854775808) = hiW (2 * V + b) ∧ bits .or .u64 (IntKind.u64.wrap (loW V * 2)) b = loW (2 * V + b) := by
  have r1 := hiW_range V
  have r2 := loW_range V
  have e1 : IntKind.u64.wrap (hiW V * 2) = 2 * hiW V := by rw [wrapU]; unfold uns; unfold hiW; omega
  have e2 : IntKind.u64.wrap (loW V * 2) = 2 * (loW V % 9223372036854775808) := by rw [wrapU]; unfold uns; unfold loW; omega
  rw [e1, e2]
  constructor
  · rw [or_even _ _ r1.1 (by unfold hiW; omega) (by omega)]
    unfold hiW loW
    omega
  · rw [or_even _ _ (by omega) (by omega) hb]
    unfold loW
    omega
theorem or_one (V : Int) : bits .or .u64 (loW (2 * V)) 1 = loW (2 * V + 1) ∧ hiW (2 * V) = hiW (2 * V + 1) := by
  have e : loW (2 * V) = 2 * (loW (2 * V) / 2) := by unfold loW; omega
  constructor
  · rw [e, or_even _ _ (by unfold loW; omega) (by unfold loW; omega) (.inr rfl)]
    unfold loW
    omega
  · unfold hiW; omega
theorem and_one (x : Int) (h0 : 0 ≤ x) (h1 : x < 18446744073709551616) : bits .and .u64 x 1 = x % 2 := by
  rw [u64_and _ _ h0 h1 (by decide) (by decide), show (1 : Int).toNat = 1 from rfl, Nat.and_one_is_mod]
  omega
theorem bit_hi (A : Nat) (i : Nat) (hA : A < 340282366920938463463374607431768211456) (h1 : 64 ≤ i) : hiW (A : Int) / 2 ^ (i - 64) % 2 = ((A / 2 ^ i % 2 : Nat) : Int) := by
  rw [hiW_nat A hA]
  have e : A / 2 ^ i = A / 18446744073709551616 / 2 ^ (i - 64) := by
    rw [Nat.div_div_eq_div_mul, show (18446744073709551616 : Nat) = 2 ^ 64 from rfl, ← Nat.pow_add, show 64 + (i - 64) = i by omega]
  rw [e]
  norm_cast
theorem bit_lo (A : Nat) (i : Nat) (h1 : i < 64) : loW (A : Int) / 2 ^ i % 2 = ((A / 2 ^ i % 2 : Nat) : Int) := by
  rw [loW_nat A]
  have e : A % 18446744073709551616 / 2 ^ i % 2 = A / 2 ^ i % 2 := by
    have t := Nat.testBit_mod_two_pow A 64 i
    rw [decide_eq_true h1, Bool.true_and] at t
    simp only [Nat.testBit_eq_decide_div_mod_eq, decide_eq_decide] at t
    rw [show (18446744073709551616 : Nat) = 2 ^ 64 from rfl]
    generalize A % 2 ^ 64 / 2 ^ i = x at t ⊢
    generalize A / 2 ^ i = y at t ⊢
    omega
  rw [← e]
  norm_cast
end Go.Proofs.YtlahoohgbfjciaaGreatDoor
