/- Contracts of the functions of numbers of two words, the second part. -/
import Derived.Test.YtlahoohgbfjciaaGreatDoorH
import Derived.Laws.Externs
namespace Go.Proofs.YtlahoohgbfjciaaGreatDoor
open Go.RowKit

theorem bcell {W w1 : World} (hb : Below W.heap.size W w1) : (∀ b o, b < W.heap.size → w1.cell? ⟨b, o, none⟩ = W.cell? ⟨b, o, none⟩) ∧ (∀ b o, b < W.heap.size → w1.frozen? ⟨b, o, none⟩ = W.frozen? ⟨b, o, none⟩) :=
  ⟨fun b o h => hb.cell (p := ⟨b, o, none⟩) h, fun b o h => hb.frozen (p := ⟨b, o, none⟩) h⟩

theorem add64_int (x y c : Int) (hx : 0 ≤ x) (hy : 0 ≤ y) (hc : 0 ≤ c) (hc2 : c ≤ 1) (w : World) :
    (callFunc 26 #[.int .u64 x, .int .u64 y, .int .u64 c]).run Tryz.prog w =
      .ok (.value (.tuple #[.int .u64 ((x + y + c) % 18446744073709551616), .int .u64 ((x + y + c) / 18446744073709551616)])) w := by
  rw [run_callFunc_extern Tryz.func26 (by kernel_rfl) (by kernel_rfl) (by kernel_rfl) (e := add64Entry) (by kernel_rfl)]
  rw [run_add64 x y c hx hy hc hc2]
  rfl

theorem xor_max (x : Nat) (hx : x < 18446744073709551616) : 18446744073709551615 ^^^ x = 18446744073709551615 - x := by
  refine Nat.eq_of_testBit_eq fun i => ?_
  have h1 := Nat.testBit_two_pow_sub_succ (n := 64) (x := x) hx i
  have h2 := Nat.testBit_two_pow_sub_one 64 i
  rw [show 2 ^ 64 - (x + 1) = 18446744073709551615 - x by omega] at h1
  rw [show 2 ^ 64 - 1 = 18446744073709551615 by rfl] at h2
  rw [Nat.testBit_xor, h1, h2]
  by_cases hi : i < 64
  · simp [hi]
  · have h3 : x.testBit i = false := Nat.testBit_lt_two_pow (Nat.lt_of_lt_of_le hx (Nat.pow_le_pow_right (n := 2) (by omega) (by omega : 64 ≤ i)))
    simp [hi, h3]
theorem compl_word (x : Int) (h0 : 0 ≤ x) (h1 : x < 18446744073709551616) : bits .xor .u64 IntKind.u64.max x = 18446744073709551615 - x := by
  have e : IntKind.u64.max = 18446744073709551615 := by decide
  rw [e, u64_xor _ _ (by omega) (by omega) h0 h1]
  obtain ⟨n, rfl⟩ := Int.eq_ofNat_of_zero_le h0
  rw [Int.toNat_natCast, show (18446744073709551615 : Int).toNat = 18446744073709551615 by rfl, xor_max n (by omega)]
  omega

theorem hiW_nat (n : Nat) (h : n < 340282366920938463463374607431768211456) : hiW (n : Int) = ((n / 18446744073709551616 : Nat) : Int) := by unfold hiW; omega
theorem loW_nat (n : Nat) : loW (n : Int) = ((n % 18446744073709551616 : Nat) : Int) := by unfold loW; omega

end Go.Proofs.YtlahoohgbfjciaaGreatDoor
