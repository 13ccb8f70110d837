/- Contracts of the codec functions that measure and take numbers. -/
import Derived.Test.YtlhgbnjflemiiaaA
import Derived.Test.YtlhgbnjflemiiaaShelf
import Derived.Lib.Hide
namespace Go.Proofs.Ytlhgbnjflemiiaa
open Go.RowKit

set_option maxHeartbeats 400000 in
theorem unsignedSize_any (n : Nat) (w : World) (h : n < 18446744073709551616) :
    Calls Try.prog 59 #[.int .u64 n] w fun e w' => e = .returned (.int .i64 (usz n)) ∧ w = w' := by
  go_enter Try.func59, Try.ntmps59
  go_wp2_with (go_at_call 65; refine (Try.bits_Len64 _ _ (by omega) (by omega)).mono ?_; rintro e w' ⟨rfl, rfl⟩)
  go_ret
  exact ⟨ret_int (usz_int n h), rfl⟩

set_option maxHeartbeats 400000 in
theorem signedSize_any (n : Int) (w : World) (h : -9223372036854775808 ≤ n) (h' : n ≤ 9223372036854775807) :
    Calls Try.prog 60 #[.int .i64 n] w fun e w' => e = .returned (.int .i64 (ssz n)) ∧ w = w' := by
  have hs := ssz_int n h h'
  by_cases hn : n < 0
  · rw [if_pos hn] at hs
    have hx := not_i64 n h hn
    have hb : 0 ≤ -n - 1 := by omega
    have hs' : wrap64 (wrap64 (((Lib.bitLen ((-n).toNat - 1) : Nat) : Int) / 8) + 1) = (ssz n : Int) := by
      rw [show (-n).toNat - 1 = (-n - 1).toNat by omega, ← hs, Int.tdiv_eq_ediv_of_nonneg (by omega)]
    have H := Lib.hid hs'; clear hs hs'
    have hw : IntKind.u64.wrap (-n - 1) = -n - 1 := by rw [IntKind.wrap_u64]; omega
    go_enter Try.func60, Try.ntmps60
    go_wp2_with (go_at_call 65; refine (Try.bits_Len64 _ _ (by omega) (by omega)).mono ?_; rintro e w' ⟨rfl, rfl⟩)
    go_ret
    exact ⟨ret_int H.out, rfl⟩
  · rw [if_neg hn] at hs
    go_enter Try.func60, Try.ntmps60
    go_wp2_with (go_at_call 65; refine (Try.bits_Len64 _ _ (by omega) (by omega)).mono ?_; rintro e w' ⟨rfl, rfl⟩)
    go_ret
    exact ⟨ret_int hs, rfl⟩

/-- what takeNumber takes: the word and its length -/
def tkN (l : List UInt8) (k : Int) (m : Nat) : Nat × Nat :=
  if kindL l = k ∧ (l.headD 0).toNat - m < l.length then (bep l ((l.headD 0).toNat - m), (l.headD 0).toNat - m) else (0, 0)

theorem kind3 {c : Nat} (h : kindC c = 3) : 17 ≤ c ∧ c ≤ 24 := by unfold kindC at h; (repeat split at h) <;> omega
theorem kind4 {c : Nat} (h : kindC c = 4) : 33 ≤ c ∧ c ≤ 40 := by unfold kindC at h; (repeat split at h) <;> omega

theorem size_len (s : ByteArray) : s.data.toList.length = s.size := Array.length_toList
theorem headD_eq (s : ByteArray) (h : 0 < s.size) : s.data.toList.headD 0 = s[0] := by
  have h' : 0 < s.data.toList.length := by rw [size_len]; exact h
  have e : s[0] = s.data.toList[0]'h' := rfl
  rw [e, List.headD_eq_head?_getD, List.head?_eq_getElem?, List.getElem?_eq_getElem h']
  rfl

theorem takeNumber_any (s : ByteArray) (k : Int) (m : Nat) (w : World) (hkm : (k = 3 ∧ m = 16) ∨ (k = 4 ∧ m = 32)) :
    Calls Try.prog 61 #[.string s, .int .i64 k, .int .i64 m] w fun e w' => e = .returned (.tuple #[.int .u64 (tkN s.data.toList k m).1, .int .i64 (tkN s.data.toList k m).2]) ∧ w = w' := by
  by_cases hk : kindL s.data.toList = k
  · have h : 0 < s.size := by
      rw [← size_len]
      cases hl : s.data.toList with
      | nil => rw [hl] at hk; simp [kindL] at hk; omega
      | cons => simp
    have hd := headD_eq s h
    have hb : kindL s.data.toList = kindC s[0].toNat := by
      rw [← hd]
      cases hl : s.data.toList with
      | nil => rw [hl] at hk; simp [kindL] at hk; omega
      | cons => simp [kindL]
    have hr : m + 1 ≤ s[0].toNat ∧ s[0].toNat ≤ m + 8 := by
      rw [hb] at hk
      rcases hkm with ⟨rfl, rfl⟩ | ⟨rfl, rfl⟩
      · have := kind3 hk; omega
      · have := kind4 hk; omega
    unfold tkN
    rw [hd, size_len]
    by_cases hs : s[0].toNat - m < s.size
    · rw [if_pos ⟨hk, hs⟩]
      exact takeNumber_some s k m _ w (by simp [hk]) h (by omega) (by omega) (by omega) hs
    · rw [if_neg (by omega)]
      exact takeNumber_short s k m (s[0].toNat - m) w (by simp [hk]) h (by omega) (by omega) (by omega) (by omega)
  · unfold tkN
    rw [if_neg (fun h => hk h.1)]
    exact takeNumber_no s k m w (by simp [hk])

theorem tkN_lt (l : List UInt8) (k : Int) (m : Nat) (hkm : (k = 3 ∧ m = 16) ∨ (k = 4 ∧ m = 32)) : (tkN l k m).2 ≤ 8 ∧ (tkN l k m).1 < 256 ^ (tkN l k m).2 := by
  unfold tkN
  split
  · rename_i h
    refine ⟨?_, bep_lt _ _⟩
    cases l with
    | nil => simp at h
    | cons c r =>
      simp only [kindL, List.headD_cons] at *
      rcases hkm with ⟨rfl, rfl⟩ | ⟨rfl, rfl⟩
      · have := kind3 h.1; omega
      · have := kind4 h.1; omega
  · simp

/-- what takeUnsigned takes -/
def tkU (l : List UInt8) : Nat × Nat :=
  if (tkN l 3 16).2 = 0 ∨ (tkN l 3 16).2 ≠ usz (tkN l 3 16).1 then (0, 0) else ((tkN l 3 16).1, 1 + (tkN l 3 16).2)

theorem lt64_of {W n : Nat} (h : n ≤ 8 ∧ W < 256 ^ n) : W < 18446744073709551616 := by
  have : 256 ^ n ≤ 256 ^ 8 := Nat.pow_le_pow_right (by omega) h.1
  omega

set_option maxHeartbeats 400000 in
theorem takeUnsigned_any (s : ByteArray) (w : World) :
    Calls Try.prog 47 #[.string s] w fun e w' => e = .returned (.tuple #[.int .u64 (tkU s.data.toList).1, .int .i64 (tkU s.data.toList).2]) ∧ w = w' := by
  have hb := tkN_lt s.data.toList 3 16 (.inl ⟨rfl, rfl⟩)
  have hU : tkU s.data.toList = if (tkN s.data.toList 3 16).2 = 0 ∨ (tkN s.data.toList 3 16).2 ≠ usz (tkN s.data.toList 3 16).1 then (0, 0) else ((tkN s.data.toList 3 16).1, 1 + (tkN s.data.toList 3 16).2) := rfl
  have HN := takeNumber_any s 3 16 w (.inl ⟨rfl, rfl⟩)
  rw [hU]; clear hU
  generalize tkN s.data.toList 3 16 = p at *
  obtain ⟨W, n⟩ := p
  have h64 := lt64_of hb
  simp only at hb h64 HN ⊢
  have H := Lib.hid HN; clear HN
  have hn := hb.1
  clear hb
  by_cases h0 : n = 0
  · subst h0
    rw [if_pos (Or.inl rfl)]
    go_enter Try.func47, Try.ntmps47
    go_wp2_with (first | (go_at_call 61; refine H.out.mono ?_; rintro e w' ⟨rfl, rfl⟩) | (go_at_call 59; refine (unsignedSize_any _ _ (by omega)).mono ?_; rintro e w' ⟨rfl, rfl⟩))
    go_ret2
    exact ⟨rfl, rfl⟩
  · have h0' : ((n : Int) == 0) = false := by simp; omega
    by_cases hu : n = usz W
    · have hu' : ((n : Int) != (usz W : Int)) = false := by simp [bne]; omega
      rw [if_neg (by simp; omega)]
      clear hu
      go_enter Try.func47, Try.ntmps47
      go_wp2_with (first | (go_at_call 61; refine H.out.mono ?_; rintro e w' ⟨rfl, rfl⟩) | (go_at_call 59; refine (unsignedSize_any _ _ (by omega)).mono ?_; rintro e w' ⟨rfl, rfl⟩))
      go_ret2
      exact ⟨rfl, rfl⟩
    · have hu' : ((n : Int) != (usz W : Int)) = true := by simp [bne]; omega
      rw [if_pos (Or.inr hu)]
      clear hu
      go_enter Try.func47, Try.ntmps47
      go_wp2_with (first | (go_at_call 61; refine H.out.mono ?_; rintro e w' ⟨rfl, rfl⟩) | (go_at_call 59; refine (unsignedSize_any _ _ (by omega)).mono ?_; rintro e w' ⟨rfl, rfl⟩))
      go_ret2
      exact ⟨rfl, rfl⟩

/-- what takeSigned takes -/
def tkS (l : List UInt8) : Int × Nat :=
  if (tkN l 4 32).2 = 0 ∨ (tkN l 4 32).2 ≠ ssz (sx (tkN l 4 32).2 (tkN l 4 32).1) then (0, 0) else (sx (tkN l 4 32).2 (tkN l 4 32).1, 1 + (tkN l 4 32).2)

set_option maxHeartbeats 400000 in
theorem takeSigned_0 (s : ByteArray) (w : World) (HN : Hid (Calls Try.prog 61 #[.string s, .int .i64 4, .int .i64 32] w fun e w' => e = .returned (.tuple #[.int .u64 0, .int .i64 0]) ∧ w = w')) :
    Calls Try.prog 49 #[.string s] w fun e w' => e = .returned (.tuple #[.int .i64 0, .int .i64 0]) ∧ w = w' := by
  go_enter Try.func49, Try.ntmps49
  go_wp2_with (first | (go_at_call 61; refine HN.out.mono ?_; rintro e w' ⟨rfl, rfl⟩) | (go_at_call 60; fail))
  go_ret2
  exact ⟨rfl, rfl⟩

set_option maxHeartbeats 400000 in
theorem takeSigned_1 (s : ByteArray) (W : Nat) (v : Int) (w : World) (hW : W < 256) (hv : wrap64 ((W : Int) * 72057594037927936) / 72057594037927936 = v) (h1 : -9223372036854775808 ≤ v) (h2 : v ≤ 9223372036854775807)
    (HN : Hid (Calls Try.prog 61 #[.string s, .int .i64 4, .int .i64 32] w fun e w' => e = .returned (.tuple #[.int .u64 W, .int .i64 (1 : Nat)]) ∧ w = w')) :
    Calls Try.prog 49 #[.string s] w fun e w' => e = .returned (if 1 = ssz v then .tuple #[.int .i64 v, .int .i64 ((1 + 1 : Nat) : Int)] else .tuple #[.int .i64 0, .int .i64 0]) ∧ w = w' := by
  by_cases hs : 1 = ssz v
  · have hs' : ((1 : Int) != (ssz v : Int)) = false := by simp [bne]; omega
    rw [if_pos hs]; clear hs
    go_enter Try.func49, Try.ntmps49
    go_wp2_with (first | (go_at_call 61; refine HN.out.mono ?_; rintro e w' ⟨rfl, rfl⟩) | (go_at_call 60; refine (signedSize_any _ _ (by omega) (by omega)).mono ?_; rintro e w' ⟨rfl, rfl⟩))
    go_ret2
    exact ⟨rfl, rfl⟩
  · have hs' : ((1 : Int) != (ssz v : Int)) = true := by simp [bne]; omega
    rw [if_neg hs]; clear hs
    go_enter Try.func49, Try.ntmps49
    go_wp2_with (first | (go_at_call 61; refine HN.out.mono ?_; rintro e w' ⟨rfl, rfl⟩) | (go_at_call 60; refine (signedSize_any _ _ (by omega) (by omega)).mono ?_; rintro e w' ⟨rfl, rfl⟩))
    go_ret2
    exact ⟨rfl, rfl⟩

set_option maxHeartbeats 400000 in
theorem takeSigned_2 (s : ByteArray) (W : Nat) (v : Int) (w : World) (hW : W < 65536) (hv : wrap64 ((W : Int) * 281474976710656) / 281474976710656 = v) (h1 : -9223372036854775808 ≤ v) (h2 : v ≤ 9223372036854775807)
    (HN : Hid (Calls Try.prog 61 #[.string s, .int .i64 4, .int .i64 32] w fun e w' => e = .returned (.tuple #[.int .u64 W, .int .i64 (2 : Nat)]) ∧ w = w')) :
    Calls Try.prog 49 #[.string s] w fun e w' => e = .returned (if 2 = ssz v then .tuple #[.int .i64 v, .int .i64 ((1 + 2 : Nat) : Int)] else .tuple #[.int .i64 0, .int .i64 0]) ∧ w = w' := by
  by_cases hs : 2 = ssz v
  · have hs' : ((2 : Int) != (ssz v : Int)) = false := by simp [bne]; omega
    rw [if_pos hs]; clear hs
    go_enter Try.func49, Try.ntmps49
    go_wp2_with (first | (go_at_call 61; refine HN.out.mono ?_; rintro e w' ⟨rfl, rfl⟩) | (go_at_call 60; refine (signedSize_any _ _ (by omega) (by omega)).mono ?_; rintro e w' ⟨rfl, rfl⟩))
    go_ret2
    exact ⟨rfl, rfl⟩
  · have hs' : ((2 : Int) != (ssz v : Int)) = true := by simp [bne]; omega
    rw [if_neg hs]; clear hs
    go_enter Try.func49, Try.ntmps49
    go_wp2_with (first | (go_at_call 61; refine HN.out.mono ?_; rintro e w' ⟨rfl, rfl⟩) | (go_at_call 60; refine (signedSize_any _ _ (by omega) (by omega)).mono ?_; rintro e w' ⟨rfl, rfl⟩))
    go_ret2
    exact ⟨rfl, rfl⟩

set_option maxHeartbeats 400000 in
theorem takeSigned_3 (s : ByteArray) (W : Nat) (v : Int) (w : World) (hW : W < 16777216) (hv : wrap64 ((W : Int) * 1099511627776) / 1099511627776 = v) (h1 : -9223372036854775808 ≤ v) (h2 : v ≤ 9223372036854775807)
    (HN : Hid (Calls Try.prog 61 #[.string s, .int .i64 4, .int .i64 32] w fun e w' => e = .returned (.tuple #[.int .u64 W, .int .i64 (3 : Nat)]) ∧ w = w')) :
    Calls Try.prog 49 #[.string s] w fun e w' => e = .returned (if 3 = ssz v then .tuple #[.int .i64 v, .int .i64 ((1 + 3 : Nat) : Int)] else .tuple #[.int .i64 0, .int .i64 0]) ∧ w = w' := by
  by_cases hs : 3 = ssz v
  · have hs' : ((3 : Int) != (ssz v : Int)) = false := by simp [bne]; omega
    rw [if_pos hs]; clear hs
    go_enter Try.func49, Try.ntmps49
    go_wp2_with (first | (go_at_call 61; refine HN.out.mono ?_; rintro e w' ⟨rfl, rfl⟩) | (go_at_call 60; refine (signedSize_any _ _ (by omega) (by omega)).mono ?_; rintro e w' ⟨rfl, rfl⟩))
    go_ret2
    exact ⟨rfl, rfl⟩
  · have hs' : ((3 : Int) != (ssz v : Int)) = true := by simp [bne]; omega
    rw [if_neg hs]; clear hs
    go_enter Try.func49, Try.ntmps49
    go_wp2_with (first | (go_at_call 61; refine HN.out.mono ?_; rintro e w' ⟨rfl, rfl⟩) | (go_at_call 60; refine (signedSize_any _ _ (by omega) (by omega)).mono ?_; rintro e w' ⟨rfl, rfl⟩))
    go_ret2
    exact ⟨rfl, rfl⟩

set_option maxHeartbeats 400000 in
theorem takeSigned_4 (s : ByteArray) (W : Nat) (v : Int) (w : World) (hW : W < 4294967296) (hv : wrap64 ((W : Int) * 4294967296) / 4294967296 = v) (h1 : -9223372036854775808 ≤ v) (h2 : v ≤ 9223372036854775807)
    (HN : Hid (Calls Try.prog 61 #[.string s, .int .i64 4, .int .i64 32] w fun e w' => e = .returned (.tuple #[.int .u64 W, .int .i64 (4 : Nat)]) ∧ w = w')) :
    Calls Try.prog 49 #[.string s] w fun e w' => e = .returned (if 4 = ssz v then .tuple #[.int .i64 v, .int .i64 ((1 + 4 : Nat) : Int)] else .tuple #[.int .i64 0, .int .i64 0]) ∧ w = w' := by
  by_cases hs : 4 = ssz v
  · have hs' : ((4 : Int) != (ssz v : Int)) = false := by simp [bne]; omega
    rw [if_pos hs]; clear hs
    go_enter Try.func49, Try.ntmps49
    go_wp2_with (first | (go_at_call 61; refine HN.out.mono ?_; rintro e w' ⟨rfl, rfl⟩) | (go_at_call 60; refine (signedSize_any _ _ (by omega) (by omega)).mono ?_; rintro e w' ⟨rfl, rfl⟩))
    go_ret2
    exact ⟨rfl, rfl⟩
  · have hs' : ((4 : Int) != (ssz v : Int)) = true := by simp [bne]; omega
    rw [if_neg hs]; clear hs
    go_enter Try.func49, Try.ntmps49
    go_wp2_with (first | (go_at_call 61; refine HN.out.mono ?_; rintro e w' ⟨rfl, rfl⟩) | (go_at_call 60; refine (signedSize_any _ _ (by omega) (by omega)).mono ?_; rintro e w' ⟨rfl, rfl⟩))
    go_ret2
    exact ⟨rfl, rfl⟩

set_option maxHeartbeats 400000 in
theorem takeSigned_5 (s : ByteArray) (W : Nat) (v : Int) (w : World) (hW : W < 1099511627776) (hv : wrap64 ((W : Int) * 16777216) / 16777216 = v) (h1 : -9223372036854775808 ≤ v) (h2 : v ≤ 9223372036854775807)
    (HN : Hid (Calls Try.prog 61 #[.string s, .int .i64 4, .int .i64 32] w fun e w' => e = .returned (.tuple #[.int .u64 W, .int .i64 (5 : Nat)]) ∧ w = w')) :
    Calls Try.prog 49 #[.string s] w fun e w' => e = .returned (if 5 = ssz v then .tuple #[.int .i64 v, .int .i64 ((1 + 5 : Nat) : Int)] else .tuple #[.int .i64 0, .int .i64 0]) ∧ w = w' := by
  by_cases hs : 5 = ssz v
  · have hs' : ((5 : Int) != (ssz v : Int)) = false := by simp [bne]; omega
    rw [if_pos hs]; clear hs
    go_enter Try.func49, Try.ntmps49
    go_wp2_with (first | (go_at_call 61; refine HN.out.mono ?_; rintro e w' ⟨rfl, rfl⟩) | (go_at_call 60; refine (signedSize_any _ _ (by omega) (by omega)).mono ?_; rintro e w' ⟨rfl, rfl⟩))
    go_ret2
    exact ⟨rfl, rfl⟩
  · have hs' : ((5 : Int) != (ssz v : Int)) = true := by simp [bne]; omega
    rw [if_neg hs]; clear hs
    go_enter Try.func49, Try.ntmps49
    go_wp2_with (first | (go_at_call 61; refine HN.out.mono ?_; rintro e w' ⟨rfl, rfl⟩) | (go_at_call 60; refine (signedSize_any _ _ (by omega) (by omega)).mono ?_; rintro e w' ⟨rfl, rfl⟩))
    go_ret2
    exact ⟨rfl, rfl⟩

set_option maxHeartbeats 400000 in
theorem takeSigned_6 (s : ByteArray) (W : Nat) (v : Int) (w : World) (hW : W < 281474976710656) (hv : wrap64 ((W : Int) * 65536) / 65536 = v) (h1 : -9223372036854775808 ≤ v) (h2 : v ≤ 9223372036854775807)
    (HN : Hid (Calls Try.prog 61 #[.string s, .int .i64 4, .int .i64 32] w fun e w' => e = .returned (.tuple #[.int .u64 W, .int .i64 (6 : Nat)]) ∧ w = w')) :
    Calls Try.prog 49 #[.string s] w fun e w' => e = .returned (if 6 = ssz v then .tuple #[.int .i64 v, .int .i64 ((1 + 6 : Nat) : Int)] else .tuple #[.int .i64 0, .int .i64 0]) ∧ w = w' := by
  by_cases hs : 6 = ssz v
  · have hs' : ((6 : Int) != (ssz v : Int)) = false := by simp [bne]; omega
    rw [if_pos hs]; clear hs
    go_enter Try.func49, Try.ntmps49
    go_wp2_with (first | (go_at_call 61; refine HN.out.mono ?_; rintro e w' ⟨rfl, rfl⟩) | (go_at_call 60; refine (signedSize_any _ _ (by omega) (by omega)).mono ?_; rintro e w' ⟨rfl, rfl⟩))
    go_ret2
    exact ⟨rfl, rfl⟩
  · have hs' : ((6 : Int) != (ssz v : Int)) = true := by simp [bne]; omega
    rw [if_neg hs]; clear hs
    go_enter Try.func49, Try.ntmps49
    go_wp2_with (first | (go_at_call 61; refine HN.out.mono ?_; rintro e w' ⟨rfl, rfl⟩) | (go_at_call 60; refine (signedSize_any _ _ (by omega) (by omega)).mono ?_; rintro e w' ⟨rfl, rfl⟩))
    go_ret2
    exact ⟨rfl, rfl⟩

set_option maxHeartbeats 400000 in
theorem takeSigned_7 (s : ByteArray) (W : Nat) (v : Int) (w : World) (hW : W < 72057594037927936) (hv : wrap64 ((W : Int) * 256) / 256 = v) (h1 : -9223372036854775808 ≤ v) (h2 : v ≤ 9223372036854775807)
    (HN : Hid (Calls Try.prog 61 #[.string s, .int .i64 4, .int .i64 32] w fun e w' => e = .returned (.tuple #[.int .u64 W, .int .i64 (7 : Nat)]) ∧ w = w')) :
    Calls Try.prog 49 #[.string s] w fun e w' => e = .returned (if 7 = ssz v then .tuple #[.int .i64 v, .int .i64 ((1 + 7 : Nat) : Int)] else .tuple #[.int .i64 0, .int .i64 0]) ∧ w = w' := by
  by_cases hs : 7 = ssz v
  · have hs' : ((7 : Int) != (ssz v : Int)) = false := by simp [bne]; omega
    rw [if_pos hs]; clear hs
    go_enter Try.func49, Try.ntmps49
    go_wp2_with (first | (go_at_call 61; refine HN.out.mono ?_; rintro e w' ⟨rfl, rfl⟩) | (go_at_call 60; refine (signedSize_any _ _ (by omega) (by omega)).mono ?_; rintro e w' ⟨rfl, rfl⟩))
    go_ret2
    exact ⟨rfl, rfl⟩
  · have hs' : ((7 : Int) != (ssz v : Int)) = true := by simp [bne]; omega
    rw [if_neg hs]; clear hs
    go_enter Try.func49, Try.ntmps49
    go_wp2_with (first | (go_at_call 61; refine HN.out.mono ?_; rintro e w' ⟨rfl, rfl⟩) | (go_at_call 60; refine (signedSize_any _ _ (by omega) (by omega)).mono ?_; rintro e w' ⟨rfl, rfl⟩))
    go_ret2
    exact ⟨rfl, rfl⟩

set_option maxHeartbeats 400000 in
theorem takeSigned_8 (s : ByteArray) (W : Nat) (v : Int) (w : World) (hW : W < 18446744073709551616) (hv : wrap64 (W : Int) = v) (h1 : -9223372036854775808 ≤ v) (h2 : v ≤ 9223372036854775807)
    (HN : Hid (Calls Try.prog 61 #[.string s, .int .i64 4, .int .i64 32] w fun e w' => e = .returned (.tuple #[.int .u64 W, .int .i64 (8 : Nat)]) ∧ w = w')) :
    Calls Try.prog 49 #[.string s] w fun e w' => e = .returned (if 8 = ssz v then .tuple #[.int .i64 v, .int .i64 ((1 + 8 : Nat) : Int)] else .tuple #[.int .i64 0, .int .i64 0]) ∧ w = w' := by
  by_cases hs : 8 = ssz v
  · have hs' : ((8 : Int) != (ssz v : Int)) = false := by simp [bne]; omega
    rw [if_pos hs]; clear hs
    go_enter Try.func49, Try.ntmps49
    go_wp2_with (first | (go_at_call 61; refine HN.out.mono ?_; rintro e w' ⟨rfl, rfl⟩) | (go_at_call 60; refine (signedSize_any _ _ (by omega) (by omega)).mono ?_; rintro e w' ⟨rfl, rfl⟩))
    go_ret2
    exact ⟨rfl, rfl⟩
  · have hs' : ((8 : Int) != (ssz v : Int)) = true := by simp [bne]; omega
    rw [if_neg hs]; clear hs
    go_enter Try.func49, Try.ntmps49
    go_wp2_with (first | (go_at_call 61; refine HN.out.mono ?_; rintro e w' ⟨rfl, rfl⟩) | (go_at_call 60; refine (signedSize_any _ _ (by omega) (by omega)).mono ?_; rintro e w' ⟨rfl, rfl⟩))
    go_ret2
    exact ⟨rfl, rfl⟩

theorem takeSigned_any (s : ByteArray) (w : World) :
    Calls Try.prog 49 #[.string s] w fun e w' => e = .returned (.tuple #[.int .i64 (tkS s.data.toList).1, .int .i64 (tkS s.data.toList).2]) ∧ w = w' := by
  have hb := tkN_lt s.data.toList 4 32 (.inr ⟨rfl, rfl⟩)
  have HN := takeNumber_any s 4 32 w (.inr ⟨rfl, rfl⟩)
  unfold tkS
  generalize tkN s.data.toList 4 32 = p at *
  obtain ⟨W, n⟩ := p
  have h64 := lt64_of hb
  obtain ⟨hn, hW⟩ := hb
  simp only at hn hW h64 HN ⊢
  by_cases h0 : n = 0
  · subst h0
    rw [if_pos (Or.inl rfl)]
    obtain rfl : W = 0 := by simpa using hW
    exact takeSigned_0 s w HN
  · have hx := sx_i64 n W (by omega) hn hW
    have key : Calls Try.prog 49 #[.string s] w fun e w' => e = .returned (if n = ssz (sx n W) then .tuple #[.int .i64 (sx n W), .int .i64 ((1 + n : Nat) : Int)] else .tuple #[.int .i64 0, .int .i64 0]) ∧ w = w' := by
      have hcases : n = 1 ∨ n = 2 ∨ n = 3 ∨ n = 4 ∨ n = 5 ∨ n = 6 ∨ n = 7 ∨ n = 8 := by omega
      rcases hcases with rfl | rfl | rfl | rfl | rfl | rfl | rfl | rfl
      · exact takeSigned_1 s W _ w hW (sx1 W hW) hx.1 hx.2 HN
      · exact takeSigned_2 s W _ w hW (sx2 W hW) hx.1 hx.2 HN
      · exact takeSigned_3 s W _ w hW (sx3 W hW) hx.1 hx.2 HN
      · exact takeSigned_4 s W _ w hW (sx4 W hW) hx.1 hx.2 HN
      · exact takeSigned_5 s W _ w hW (sx5 W hW) hx.1 hx.2 HN
      · exact takeSigned_6 s W _ w hW (sx6 W hW) hx.1 hx.2 HN
      · exact takeSigned_7 s W _ w hW (sx7 W hW) hx.1 hx.2 HN
      · exact takeSigned_8 s W _ w hW (sx8 W hW) hx.1 hx.2 HN
    by_cases hs : n = ssz (sx n W)
    · rw [if_pos hs] at key
      rw [if_neg (by simp only [ne_eq, not_or, Decidable.not_not]; exact ⟨h0, hs⟩)]
      exact key
    · rw [if_neg hs] at key
      rw [if_pos (Or.inr hs)]
      exact key
end Go.Proofs.Ytlhgbnjflemiiaa
