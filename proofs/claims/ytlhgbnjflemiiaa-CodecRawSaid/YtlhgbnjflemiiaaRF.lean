/- Contract of the specification's reader of unsigned numbers. -/
import Derived.Test.YtlhgbnjflemiiaaRE
namespace Go.Proofs.Ytlhgbnjflemiiaa
open Go.RowKit

theorem be_take (t : ByteArray) (i : Nat) (h : i < t.size) : be (t.data.toList.take (i + 1)) = be (t.data.toList.take i) * 256 + t[i].toNat := by
  have h' : i < t.data.toList.length := by rw [size_len]; exact h
  rw [List.take_succ_eq_append_getElem h', be_snoc]
  rfl
theorem be_take_lt (t : ByteArray) (i : Nat) : be (t.data.toList.take i) < 256 ^ i :=
  Nat.lt_of_lt_of_le (be_lt _) (Nat.pow_le_pow_right (by omega) (List.length_take_le _ _))
theorem bep_ext (s : ByteArray) (at_ n : Nat) : bep (restL s at_) n = be (s.extract (at_ + 1) (at_ + 1 + n)).data.toList := by
  unfold bep restL
  have e : (s.extract (at_ + 1) (at_ + 1 + n)).data = s.data.extract (at_ + 1) (at_ + 1 + n) := by simp
  rw [e, Array.toList_extract, List.drop_drop, List.extract_eq_take_drop, Nat.add_sub_cancel_left]
theorem ext_size (s : ByteArray) (a n : Nat) (h : a + n ≤ s.size) : (s.extract a (a + n)).size = n := by
  rw [ByteArray.size_extract]; omega

set_option maxHeartbeats 1000000 in
theorem readU_none (s : ByteArray) (at_ : Nat) (w : World) (hs : s.size ≤ 9223372036854775807) (ha : at_ ≤ 9223372036854775807) (h0 : (tkN (restL s at_) 3 16).2 = 0) :
    Calls Try.prog 53 #[.string s, .int .i64 at_] w fun e w' => e = .returned (.tuple #[.int .u64 0, .int .i64 0, .bool false]) ∧ w = w' := by
  have HN := Lib.hid (number_ref_no s at_ 3 16 w (.inl ⟨rfl, rfl⟩) hs ha h0)
  clear h0
  go_enter Try.func53, Try.ntmps53
  go_wp2_with (go_at_call 63; refine HN.out.mono ?_; rintro e w' ⟨rfl, rfl⟩)
  go_loop [9, 10] (fun v i => v = .int .u64 0 ∧ i = .int .i64 0) (fun _ _ => 0)
  case atStart => exact ⟨rfl, rfl⟩
  case round =>
    obtain ⟨rfl, rfl⟩ := hrel
    go_wp2
    go_ret3
    exact ⟨rfl, rfl⟩

set_option maxHeartbeats 1000000 in
theorem readU_some (s : ByteArray) (at_ : Nat) (t : ByteArray) (n : Nat) (w : World) (hs : s.size ≤ 9223372036854775807) (ha : at_ + n < s.size) (ht : t.size = n) (h1 : 1 ≤ n) (h8 : n ≤ 8)
    (HN : Hid (Calls Try.prog 63 #[.string s, .int .i64 at_, .int .u8 16] w fun e w' => e = .returned (.tuple #[.string t, .bool true]) ∧ w = w')) :
    Calls Try.prog 53 #[.string s, .int .i64 at_] w fun e w' => e = .returned (if n = usz (be t.data.toList) then .tuple #[.int .u64 (be t.data.toList), .int .i64 ((at_ + (1 + n) : Nat) : Int), .bool true] else .tuple #[.int .u64 0, .int .i64 0, .bool false]) ∧ Below w.heap.size w w' := by
  subst ht
  have hW : be t.data.toList < 18446744073709551616 := lt64_of ⟨h8, by have := be_lt t.data.toList; rwa [size_len] at this⟩
  have HU := refUnsigned_any (be t.data.toList) w hW
  have hu := num_length 16 (be t.data.toList) (usz (be t.data.toList)) (usz_8 _ hW)
  have hend : be (t.data.toList.take t.size) = be t.data.toList := by rw [List.take_of_length_le (by rw [size_len]; exact Nat.le_refl _)]
  have hu8 := usz_8 _ hW
  obtain ⟨S, hS⟩ : ∃ S : ByteArray, S = ⟨(num 16 (be t.data.toList) (usz (be t.data.toList))).toArray⟩ := ⟨_, rfl⟩
  have hSs : S.size = 1 + usz (be t.data.toList) := by rw [hS, ← hu]; simp [ByteArray.size]
  rw [← hS] at HU
  clear hS hu
  generalize hWe : be t.data.toList = W at *
  generalize usz W = z at *
  have HU' := Lib.hid HU
  have HE := Lib.hid hend
  clear HU hend hWe
  have hx : ((S.size : Int) != (t.size : Int) + 1) = decide (t.size ≠ z) := by
    by_cases hz : t.size = z
    · rw [decide_eq_false (fun h => h hz)]; simp [bne]; omega
    · rw [decide_eq_true hz]; simp [bne]; omega
  rcases Classical.em (t.size = z) with hz | hz
  all_goals first | (rw [if_pos hz]; rw [decide_eq_false (fun h => h hz)] at hx) | (rw [if_neg hz]; rw [decide_eq_true hz] at hx)
  all_goals
    clear hz
    go_enter Try.func53, Try.ntmps53
    go_wp2_with (go_at_call 63; refine HN.out.mono ?_; rintro e w' ⟨rfl, rfl⟩)
    go_loop [9, 10] (fun v i => ∃ j : Nat, j ≤ t.size ∧ i = .int .i64 j ∧ v = .int .u64 (be (t.data.toList.take j))) (fun _ i => t.size - (intOf i).toNat)
    case atStart => exact ⟨0, Nat.zero_le _, rfl, rfl⟩
    case round =>
      obtain ⟨j, hj, rfl, rfl⟩ := hrel
      by_cases hlt : j < t.size
      · go_wp2
        go_round
        case rel => exact ⟨j + 1, by omega, by go_num, by
          rw [or_byte _ _ (Nat.lt_of_lt_of_le (be_take_lt _ _) (pow_le_8 (by omega))) (UInt8.toNat_lt _), be_take _ _ hlt]⟩
        case measure => simp [intOf]; omega
      · obtain rfl : t.size = j := by omega
        rw [HE.out]
        go_wp2_with (go_at_call 39; refine HU'.out.mono ?_; rintro e w' ⟨rfl, hb⟩)
        go_ret3
        exact ⟨by go_num, hb⟩

theorem readU_any (s : ByteArray) (at_ : Nat) (w : World) (hs : s.size ≤ 9223372036854775807) (ha : at_ ≤ 9223372036854775807) :
    Calls Try.prog 53 #[.string s, .int .i64 at_] w fun e w' => e = .returned (if (tkU (restL s at_)).2 = 0 then .tuple #[.int .u64 0, .int .i64 0, .bool false] else .tuple #[.int .u64 (tkU (restL s at_)).1, .int .i64 ((at_ + (tkU (restL s at_)).2 : Nat) : Int), .bool true]) ∧ Below w.heap.size w w' := by
  by_cases h0 : (tkN (restL s at_) 3 16).2 = 0
  · have e : tkU (restL s at_) = (0, 0) := by unfold tkU; rw [if_pos (.inl h0)]
    rw [e, if_pos rfl]
    refine (readU_none s at_ w hs ha h0).mono ?_
    rintro e w' ⟨rfl, rfl⟩
    exact ⟨rfl, Below.refl _ _⟩
  · have hb := tkN_lt (restL s at_) 3 16 (.inl ⟨rfl, rfl⟩)
    obtain ⟨hlt, HN⟩ := number_ref_yes s at_ 3 16 _ w (.inl ⟨rfl, rfl⟩) hs rfl h0
    have hv : (tkN (restL s at_) 3 16).1 = bep (restL s at_) (tkN (restL s at_) 3 16).2 := by
      unfold tkN at h0 ⊢
      split
      · rfl
      · rename_i h; rw [if_neg h] at h0; exact absurd rfl h0
    have hU : tkU (restL s at_) = if (tkN (restL s at_) 3 16).2 = 0 ∨ (tkN (restL s at_) 3 16).2 ≠ usz (tkN (restL s at_) 3 16).1 then (0, 0) else ((tkN (restL s at_) 3 16).1, 1 + (tkN (restL s at_) 3 16).2) := rfl
    rw [hU, hv, bep_ext]
    generalize (tkN (restL s at_) 3 16).2 = n at *
    have hsz : (s.extract (at_ + 1) (at_ + 1 + n)).size = n := ext_size s (at_ + 1) n (by omega)
    refine (readU_some s at_ _ n w hs (by omega) hsz (by omega) hb.1 (Lib.hid HN)).mono ?_
    rintro e w' ⟨rfl, hbl⟩
    refine ⟨?_, hbl⟩
    by_cases hz : n = usz (be (s.extract (at_ + 1) (at_ + 1 + n)).data.toList)
    · rw [if_pos hz, if_neg (show ¬ (n = 0 ∨ n ≠ _) by omega), if_neg (by simp)]
    · rw [if_neg hz, if_pos (show (n = 0 ∨ n ≠ _) by omega), if_pos rfl]
end Go.Proofs.Ytlhgbnjflemiiaa
