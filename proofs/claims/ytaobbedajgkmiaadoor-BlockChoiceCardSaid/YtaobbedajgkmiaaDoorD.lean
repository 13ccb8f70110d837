/- Plain facts: the division of two words by one, as the library's text reckons it. No Go; no conditions beyond what each states. -/
import Derived.Test.YtaobbedajgkmiaaDoorK
import Derived.Test.YtaobbedajgkmiaaDoorS
namespace Go.Proofs.YtaobbedajgkmiaaDoor
open Go.RowKit

/-- what is shifted out and in -/
theorem shift_parts (lo s : Nat) (hs : s ≤ 64) (hlo : lo < 18446744073709551616) :
    lo * 2 ^ s = lo / 2 ^ (64 - s) * 18446744073709551616 + lo * 2 ^ s % 18446744073709551616 ∧ lo / 2 ^ (64 - s) < 2 ^ s := by
  have e : 2 ^ (64 - s) * 2 ^ s = 18446744073709551616 := by rw [← Nat.pow_add, Nat.sub_add_cancel hs]
  have hp : 0 < 2 ^ s := Nat.two_pow_pos s
  have h1 : lo * 2 ^ s / 18446744073709551616 = lo / 2 ^ (64 - s) := by
    rw [← e, Nat.mul_div_mul_right _ _ hp]
  refine ⟨?_, ?_⟩
  · rw [← h1, Nat.mul_comm (lo * 2 ^ s / 18446744073709551616)]
    exact (Nat.div_add_mod _ _).symm
  · rw [Nat.div_lt_iff_lt_mul (Nat.two_pow_pos _), Nat.mul_comm, e]; exact hlo

/-- the divisor's shifted form -/
theorem norm_range (y s : Nat) (hs : s = 64 - Lib.bitLen y) (hl : Lib.bitLen y ≤ 64) (hlo : 2 ^ (Lib.bitLen y - 1) ≤ y) (hlt : y < 2 ^ Lib.bitLen y) (hb : 1 ≤ Lib.bitLen y) :
    9223372036854775808 ≤ y * 2 ^ s ∧ y * 2 ^ s < 18446744073709551616 := by
  have e1 : 2 ^ (Lib.bitLen y - 1) * 2 ^ s = 9223372036854775808 := by
    rw [← Nat.pow_add, show Lib.bitLen y - 1 + s = 63 by omega]
  have e2 : 2 ^ Lib.bitLen y * 2 ^ s = 18446744073709551616 := by
    rw [← Nat.pow_add, show Lib.bitLen y + s = 64 by omega]
  have hp : 0 < 2 ^ s := Nat.two_pow_pos s
  refine ⟨?_, ?_⟩
  · rw [← e1]; exact Nat.mul_le_mul_right _ hlo
  · rw [← e2]; exact Nat.mul_lt_mul_of_pos_right hlt hp

/-- the dividend, shifted -/
theorem dividend (hi lo s : Nat) (hs : s ≤ 64) (hlo : lo < 18446744073709551616) :
    (hi * 2 ^ s + lo / 2 ^ (64 - s)) * 18446744073709551616 + lo * 2 ^ s % 18446744073709551616 = (hi * 18446744073709551616 + lo) * 2 ^ s := by
  obtain ⟨h, _⟩ := shift_parts lo s hs hlo
  rw [Nat.add_mul (hi * 18446744073709551616), h, Nat.add_mul, Nat.mul_right_comm hi]
  omega
theorem first_lt (hi lo y s : Nat) (hs : s ≤ 64) (hlo : lo < 18446744073709551616) (hh : hi < y) :
    hi * 2 ^ s + lo / 2 ^ (64 - s) < y * 2 ^ s := by
  obtain ⟨_, h⟩ := shift_parts lo s hs hlo
  have : (hi + 1) * 2 ^ s ≤ y * 2 ^ s := Nat.mul_le_mul_right _ hh
  rw [Nat.add_mul] at this
  omega

/-- the whole -/
theorem div_whole (y s Y U W N : Nat) (h0 : 0 < y) (hY : Y = y * 2 ^ s) (e : U * 18446744073709551616 + W = N * 2 ^ s) :
    (U * 4294967296 + W / 4294967296) / Y * 4294967296 + ((U * 4294967296 + W / 4294967296) % Y * 4294967296 + W % 4294967296) / Y = N / y ∧
    ((U * 4294967296 + W / 4294967296) % Y * 4294967296 + W % 4294967296) % Y / 2 ^ s = N % y := by
  have hp : 0 < 2 ^ s := Nat.two_pow_pos s
  have hY0 : 0 < Y := by rw [hY]; exact Nat.mul_pos h0 hp
  obtain ⟨t1, t2⟩ := two_digits U (W / 4294967296) (W % 4294967296) Y hY0
  have e2 : W / 4294967296 * 4294967296 + W % 4294967296 = W := Nat.div_add_mod' W 4294967296
  have e3 : U * 18446744073709551616 + (W / 4294967296 * 4294967296 + W % 4294967296) = N * 2 ^ s := (congrArg (U * 18446744073709551616 + ·) e2).trans e
  have f1 : N * 2 ^ s / Y = N / y := by rw [hY, Nat.mul_div_mul_right _ _ hp]
  have f2 : N * 2 ^ s % Y / 2 ^ s = N % y := by rw [hY, Nat.mul_mod_mul_right, Nat.mul_div_cancel _ hp]
  exact ⟨t1.symm.trans ((congrArg (· / Y) e3).trans f1), ((congrArg (· / 2 ^ s) t2).symm.trans ((congrArg (· % Y / 2 ^ s) e3).trans f2))⟩
end Go.Proofs.YtaobbedajgkmiaaDoor
