/- Contracts of the codec functions that only compute. No conditions beyond what each states. -/
import Derived.Test.YtlhgbnjflemiiaaChecked
import Derived.Test.YtlhgbnjflemiiaaS
import Derived.WalkKit
import Derived.WalkSpells
import Derived.WalkLawsBesides
import Derived.Handy
import Derived.Lib.BitFns
namespace Go.Proofs.Ytlhgbnjflemiiaa
open Go.RowKit

theorem ret_int {k : IntKind} {a b : Int} (h : a = b) : Ending.returned (.int k a) = .returned (.int k b) := by rw [h]

set_option maxHeartbeats 400000 in
theorem kindOf_some (s : ByteArray) (w : World) (h : 0 < s.size) (hn : s.toList.isEmpty = false) :
    Calls Try.prog 45 #[.string s] w fun e w' => e = .returned (.int .i64 (kindC s[0].toNat)) ∧ w = w' := by
  have hb : s[0].toNat < 256 := s[0].toNat_lt
  go_enter Try.func45, Try.ntmps45
  go_wp2
  all_goals
    go_ret
    refine ⟨ret_int ?_, rfl⟩
    simp only [beq_iff_eq, beq_eq_false_iff_ne, ne_eq] at *
    unfold kindC
    generalize s[0].toNat = c at *
    repeat (first | (rw [if_pos (by omega)]; done) | rw [if_neg (by omega)])

set_option maxHeartbeats 400000 in
theorem kindOf_none (s : ByteArray) (w : World) (hn : s.toList.isEmpty = true) :
    Calls Try.prog 45 #[.string s] w fun e w' => e = .returned (.int .i64 0) ∧ w = w' := by
  go_enter Try.func45, Try.ntmps45
  go_wp2
  go_ret
  exact ⟨rfl, rfl⟩

theorem loop_eq (s : ByteArray) : ∀ (n i : Nat) (r : List UInt8), s.size - i = n → ByteArray.toList.loop s i r = r.reverse ++ s.data.toList.drop i
  | 0, i, r, h => by
    unfold ByteArray.toList.loop
    rw [if_neg (by omega), List.drop_of_length_le (by simpa using (by omega : s.size ≤ i)), List.append_nil]
  | n + 1, i, r, h => by
    unfold ByteArray.toList.loop
    have hi : i < s.data.toList.length := by simpa using (by omega : i < s.size)
    rw [if_pos (by omega), loop_eq s n (i + 1) _ (by omega), List.reverse_cons, List.append_assoc, List.drop_eq_getElem_cons hi]
    have e : s.get! i = s.data.toList[i] := by
      have hs : i < s.size := by omega
      simp [ByteArray.get!, getElem!_pos, hs]
    rw [e]; rfl
theorem toList_eq (s : ByteArray) : s.toList = s.data.toList := by
  unfold ByteArray.toList
  rw [loop_eq s _ 0 [] rfl]; rfl

theorem ne_of_size {s : ByteArray} (h : 0 < s.size) : s.toList.isEmpty = false := by
  rw [toList_eq]
  cases e : s.data.toList with
  | nil => have hz := congrArg List.length e; rw [Array.length_toList] at hz; change s.size = 0 at hz; omega
  | cons => rfl
theorem nil_of_size {s : ByteArray} (h : s.size = 0) : s.toList.isEmpty = true := by
  rw [toList_eq]
  cases e : s.data.toList with
  | nil => rfl
  | cons => have hz := congrArg List.length e; rw [Array.length_toList] at hz; change s.size = _ at hz; simp at hz; omega

theorem kindOf_any (s : ByteArray) (w : World) :
    Calls Try.prog 45 #[.string s] w fun e w' => e = .returned (.int .i64 (kindL s.data.toList)) ∧ w = w' := by
  by_cases h : 0 < s.size
  · have e : kindL s.data.toList = kindC s[0].toNat := by
      cases e : s.data.toList with
      | nil => have hz := congrArg List.length e; rw [Array.length_toList] at hz; change s.size = 0 at hz; omega
      | cons c r =>
        have : s[0] = s.data.toList[0]'(by simpa using h) := rfl
        rw [this]; simp [e, kindL]
    rw [e]; exact kindOf_some s w h (ne_of_size h)
  · have e : s.data.toList = [] := List.eq_nil_of_length_eq_zero (by simpa using (by omega : s.size = 0))
    rw [e]; exact kindOf_none s w (nil_of_size (by omega))

set_option maxHeartbeats 400000 in
theorem takeNumber_no (s : ByteArray) (k m : Int) (w : World) (h : (kindL s.data.toList == k) = false) :
    Calls Try.prog 61 #[.string s, .int .i64 k, .int .i64 m] w fun e w' => e = .returned (.tuple #[.int .u64 0, .int .i64 0]) ∧ w = w' := by
  have h2 : (kindL s.data.toList != k) = true := by simp [bne, h]
  go_enter Try.func61, Try.ntmps61
  go_wp2_with (go_at_call 45; refine (kindOf_any _ _).mono ?_; rintro e w' ⟨rfl, rfl⟩)
  go_ret2
  exact ⟨rfl, rfl⟩

set_option maxHeartbeats 400000 in
theorem takeNumber_short (s : ByteArray) (k : Int) (m : Nat) (n : Nat) (w : World) (hk : (kindL s.data.toList == k) = true) (h : 0 < s.size) (hc : s[0].toNat = m + n) (hm : m ≤ 32) (hn : n ≤ 8) (hs : s.size ≤ n) :
    Calls Try.prog 61 #[.string s, .int .i64 k, .int .i64 m] w fun e w' => e = .returned (.tuple #[.int .u64 0, .int .i64 0]) ∧ w = w' := by
  have h2 : (kindL s.data.toList != k) = false := by simp [bne, hk]
  have hl : (m : Int) + n - m = n := by omega
  go_enter Try.func61, Try.ntmps61
  go_wp2_with (go_at_call 45; refine (kindOf_any _ _).mono ?_; rintro e w' ⟨rfl, rfl⟩)
  go_ret2
  exact ⟨rfl, rfl⟩

set_option maxHeartbeats 400000 in
theorem takeNumber_some (s : ByteArray) (k : Int) (m : Nat) (n : Nat) (w : World) (hk : (kindL s.data.toList == k) = true) (h : 0 < s.size) (hc : s[0].toNat = m + n) (hm : m ≤ 32) (hn : n ≤ 8) (hs : n < s.size) :
    Calls Try.prog 61 #[.string s, .int .i64 k, .int .i64 m] w fun e w' => e = .returned (.tuple #[.int .u64 (bep s.data.toList n), .int .i64 n]) ∧ w = w' := by
  have h2 : (kindL s.data.toList != k) = false := by simp [bne, hk]
  have hl : (m : Int) + n - m = n := by omega
  have hd : decide (s.size ≤ n) = false := by simp; omega
  go_enter Try.func61, Try.ntmps61
  go_wp2_with (go_at_call 45; refine (kindOf_any _ _).mono ?_; rintro e w' ⟨rfl, rfl⟩)
  go_loop [6, 23] (fun v i => ∃ j : Nat, j ≤ n ∧ i = .int .i64 j ∧ v = .int .u64 (bep s.data.toList j)) (fun _ i => n - (intOf i).toNat)
  case atStart => exact ⟨0, Nat.zero_le _, rfl, by rw [bep_zero]; rfl⟩
  case round =>
    obtain ⟨j, hj, rfl, rfl⟩ := hrel
    by_cases hlt : j < n
    · go_wp2
      go_round
      case rel => exact ⟨j + 1, by omega, by go_num, by
        rw [or_byte _ _ (Nat.lt_of_lt_of_le (bep_lt _ _) (pow_le_8 (by omega))) (UInt8.toNat_lt _), bep_succ _ _ (by rw [Array.length_toList]; show 1 + j < s.size; omega)]; rfl⟩
      case measure => simp [intOf]; omega
    · obtain rfl : n = j := by omega
      go_wp2
      go_ret2
      exact ⟨rfl, rfl⟩
end Go.Proofs.Ytlhgbnjflemiiaa
