/- Plain facts: a quotient of two digits by a number of two digits, digit by digit (Knuth's algorithm D). No conditions beyond what each states. -/
import Derived.Laws.BitsAllLaws
import Derived.Laws.Bits64
import Derived.RowKit
import Derived.Lib.BitFns
namespace Go.Proofs.YtaobbedajgkmiaaDoor
open Go.RowKit

/-- one digit: what is known at each test of the correcting loop -/
structure Dig (u c v1 v0 q r : Nat) : Prop where
  eq : u = q * v1 + r
  ge : (u * 4294967296 + c) / (v1 * 4294967296 + v0) ≤ q

theorem dig_prod (q v1 v0 : Nat) : q * (v1 * 4294967296 + v0) = q * v1 * 4294967296 + q * v0 := by rw [Nat.mul_add, Nat.mul_assoc]

/-- the first guess -/
theorem Dig.start (u c v1 v0 : Nat) (h1 : 0 < v1) (hc : c < 4294967296) : Dig u c v1 v0 (u / v1) (u % v1) := by
  refine ⟨by rw [Nat.mul_comm]; exact (Nat.div_add_mod u v1).symm, ?_⟩
  rw [Nat.le_div_iff_mul_le h1]
  have hv : 0 < v1 * 4294967296 + v0 := by omega
  have h := Nat.div_mul_le_self (u * 4294967296 + c) (v1 * 4294967296 + v0)
  generalize (u * 4294967296 + c) / (v1 * 4294967296 + v0) = q at *
  rw [dig_prod] at h
  generalize q * v1 = P at *
  omega

/-- the test says yes: one less -/
theorem Dig.down {u c v1 v0 q r : Nat} (h : Dig u c v1 v0 q r) (_h1 : 0 < v1) (hu : u < v1 * 4294967296 + v0) (hc : c < 4294967296) (ht : 4294967296 ≤ q ∨ 4294967296 * r + c < q * v0) :
    1 ≤ q ∧ Dig u c v1 v0 (q - 1) (r + v1) := by
  have hv : 0 < v1 * 4294967296 + v0 := by omega
  have hlt : (u * 4294967296 + c) / (v1 * 4294967296 + v0) < q := by
    rw [Nat.div_lt_iff_lt_mul hv]
    rcases ht with ht | ht
    · have h2 : 4294967296 * (v1 * 4294967296 + v0) ≤ q * (v1 * 4294967296 + v0) := Nat.mul_le_mul_right _ ht
      omega
    · rw [dig_prod]
      have he := h.eq
      generalize q * v1 = P at *
      omega
  have hq1 : 1 ≤ q := Nat.lt_of_le_of_lt (Nat.zero_le _) hlt
  refine ⟨hq1, ?_, Nat.le_sub_one_of_lt hlt⟩
  have he := h.eq
  clear hlt ht hu
  obtain ⟨q', rfl⟩ : ∃ q', q = q' + 1 := ⟨q - 1, by omega⟩
  rw [Nat.add_mul, Nat.one_mul] at he
  rw [Nat.add_sub_cancel]
  generalize q' * v1 = P at *
  omega

/-- the test says no, or the rest has grown past a digit: it is the digit -/
theorem Dig.stop {u c v1 v0 q r : Nat} (h : Dig u c v1 v0 q r) (h1 : 0 < v1) (ht : q * v0 ≤ 4294967296 * r + c) : q = (u * 4294967296 + c) / (v1 * 4294967296 + v0) := by
  refine Nat.le_antisymm ?_ h.ge
  rw [Nat.le_div_iff_mul_le (by omega), dig_prod]
  have he := h.eq
  generalize q * v1 = P at *
  omega
theorem Dig.past {u c v1 v0 q r : Nat} (h : Dig u c v1 v0 q r) (h0 : v0 < 4294967296) (hu : u < v1 * 4294967296 + v0) (hr : 4294967296 ≤ r) : q * v0 ≤ 4294967296 * r + c := by
  have he := h.eq
  have hq : q < 4294967296 := by
    rcases Nat.lt_or_ge q 4294967296 with hq | hq
    · exact hq
    · have := Nat.mul_le_mul_right v1 hq
      omega
  have h2 : q * v0 ≤ 4294967296 * 4294967296 := Nat.mul_le_mul (Nat.le_of_lt hq) (Nat.le_of_lt h0)
  omega
theorem Dig.fin {u c v1 v0 q r : Nat} (h : Dig u c v1 v0 q r) (Y : Nat) (hY : Y = v1 * 4294967296 + v0) (h1 : 0 < v1) (ht : q * v0 ≤ 4294967296 * r + c) : q = (u * 4294967296 + c) / Y := by
  rw [hY]; exact h.stop h1 ht
/-- the digit is less than the base -/
theorem dig_lt (u c v1 v0 : Nat) (_h1 : 0 < v1) (hu : u < v1 * 4294967296 + v0) (hc : c < 4294967296) : (u * 4294967296 + c) / (v1 * 4294967296 + v0) < 4294967296 := by
  rw [Nat.div_lt_iff_lt_mul (by omega)]
  omega

/-- the two digits together -/
theorem two_digits (u c1 c0 v : Nat) (hv : 0 < v) :
    (u * 18446744073709551616 + (c1 * 4294967296 + c0)) / v = (u * 4294967296 + c1) / v * 4294967296 + ((u * 4294967296 + c1) % v * 4294967296 + c0) / v ∧
    (u * 18446744073709551616 + (c1 * 4294967296 + c0)) % v = ((u * 4294967296 + c1) % v * 4294967296 + c0) % v := by
  have e : u * 18446744073709551616 + (c1 * 4294967296 + c0) = v * ((u * 4294967296 + c1) / v * 4294967296) + ((u * 4294967296 + c1) % v * 4294967296 + c0) := by
    have h := Nat.div_add_mod (u * 4294967296 + c1) v
    rw [← Nat.mul_assoc]
    generalize v * ((u * 4294967296 + c1) / v) = P at *
    generalize (u * 4294967296 + c1) % v = R at *
    omega
  rw [e, Nat.mul_add_div hv, Nat.mul_add_mod]
  exact ⟨rfl, rfl⟩
end Go.Proofs.YtaobbedajgkmiaaDoor
