/- Contracts of the specification's readers of texts and heads. -/
import Derived.Test.YtlhgbnjflemiiaaRF
namespace Go.Proofs.Ytlhgbnjflemiiaa
open Go.RowKit

theorem restL_tail (s : ByteArray) (at_ : Nat) : (restL s at_).drop 1 = restL s (at_ + 1) := by
  unfold restL; rw [List.drop_drop]
theorem ext_ext (s : ByteArray) (a b c : Nat) (h : a + c ≤ s.size) : (s.extract a s.size).extract b c = s.extract (a + b) (a + c) := by
  rw [ByteArray.extract_extract]
  congr 1
  omega

set_option maxHeartbeats 1000000 in
theorem readT_end (s : ByteArray) (at_ : Nat) (w : World) (hs : s.size ≤ at_) :
    Calls Try.prog 55 #[.string s, .int .i64 at_] w fun e w' => e = .returned (.tuple #[.string ⟨#[]⟩, .int .i64 0, .bool false]) ∧ w = w' := by
  have hd : decide ((s.size : Int) ≤ (at_ : Int)) = true := by simp; omega
  go_enter Try.func55, Try.ntmps55
  go_wp2
  go_ret3
  exact ⟨rfl, rfl⟩
set_option maxHeartbeats 1000000 in
theorem readT_other (s : ByteArray) (at_ : Nat) (w : World) (hs : at_ < s.size) (hc : s[at_].toNat ≠ 48) :
    Calls Try.prog 55 #[.string s, .int .i64 at_] w fun e w' => e = .returned (.tuple #[.string ⟨#[]⟩, .int .i64 0, .bool false]) ∧ w = w' := by
  have hd : decide ((s.size : Int) ≤ (at_ : Int)) = false := by simp; omega
  have hx : ((s[at_].toNat : Int) != 48) = true := by simp [bne]; omega
  go_enter Try.func55, Try.ntmps55
  go_wp2
  go_ret3
  exact ⟨rfl, rfl⟩
set_option maxHeartbeats 1000000 in
theorem readT_none (s : ByteArray) (at_ : Nat) (w : World) (hs : at_ < s.size) (hb : s.size ≤ 9223372036854775807) (hc : s[at_].toNat = 48)
    (HU : Hid (Calls Try.prog 53 #[.string s, .int .i64 ((at_ : Int) + 1)] w fun e w' => e = .returned (.tuple #[.int .u64 0, .int .i64 0, .bool false]) ∧ Below w.heap.size w w')) :
    Calls Try.prog 55 #[.string s, .int .i64 at_] w fun e w' => e = .returned (.tuple #[.string ⟨#[]⟩, .int .i64 0, .bool false]) ∧ Below w.heap.size w w' := by
  have hd : decide ((s.size : Int) ≤ (at_ : Int)) = false := by simp; omega
  have hx : ((s[at_].toNat : Int) != 48) = false := by simp [bne]; omega
  clear hc
  go_enter Try.func55, Try.ntmps55
  go_wp2_with (go_at_call 53; refine HU.out.mono ?_; rintro e w' ⟨rfl, hb⟩)
  go_ret3
  exact ⟨rfl, hb⟩
set_option maxHeartbeats 1000000 in
theorem readT_some (s : ByteArray) (at_ n a : Nat) (w : World) (hs : at_ < s.size) (hb : s.size ≤ 9223372036854775807) (hc : s[at_].toNat = 48) (ha : a ≤ s.size) (hn : n < 18446744073709551616)
    (HU : Hid (Calls Try.prog 53 #[.string s, .int .i64 ((at_ : Int) + 1)] w fun e w' => e = .returned (.tuple #[.int .u64 n, .int .i64 a, .bool true]) ∧ Below w.heap.size w w')) :
    Calls Try.prog 55 #[.string s, .int .i64 at_] w fun e w' => e = .returned (if n ≤ 65535 ∧ a + n ≤ s.size then .tuple #[.string (s.extract a (a + n)), .int .i64 ((a + n : Nat) : Int), .bool true] else .tuple #[.string ⟨#[]⟩, .int .i64 0, .bool false]) ∧ Below w.heap.size w w' := by
  have hd : decide ((s.size : Int) ≤ (at_ : Int)) = false := by simp; omega
  have hx : ((s[at_].toNat : Int) != 48) = false := by simp [bne]; omega
  clear hc
  by_cases h1 : n ≤ 65535
  · have hd1 : decide ((65535 : Int) < (n : Int)) = false := by simp; omega
    by_cases h2 : a + n ≤ s.size
    · have hd2 : decide ((s.size : Int) - (a : Int) < (n : Int)) = false := by simp; omega
      rw [if_pos ⟨h1, h2⟩]
      go_enter Try.func55, Try.ntmps55
      go_wp2_with (go_at_call 53; refine HU.out.mono ?_; rintro e w' ⟨rfl, hb⟩)
      go_ret3
      exact ⟨by go_num, hb⟩
    · have hd2 : decide ((s.size : Int) - (a : Int) < (n : Int)) = true := by simp; omega
      rw [if_neg (fun h => h2 h.2)]
      go_enter Try.func55, Try.ntmps55
      go_wp2_with (go_at_call 53; refine HU.out.mono ?_; rintro e w' ⟨rfl, hb⟩)
      go_ret3
      exact ⟨rfl, hb⟩
  · have hd1 : decide ((65535 : Int) < (n : Int)) = true := by simp; omega
    rw [if_neg (fun h => h1 h.1)]
    go_enter Try.func55, Try.ntmps55
    go_wp2_with (go_at_call 53; refine HU.out.mono ?_; rintro e w' ⟨rfl, hb⟩)
    go_ret3
    exact ⟨rfl, hb⟩
end Go.Proofs.Ytlhgbnjflemiiaa
