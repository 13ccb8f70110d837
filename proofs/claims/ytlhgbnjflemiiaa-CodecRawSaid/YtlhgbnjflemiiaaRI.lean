/- Contract of the specification's reader of signed numbers. -/
import Derived.Test.YtlhgbnjflemiiaaRH
namespace Go.Proofs.Ytlhgbnjflemiiaa
open Go.RowKit

theorem or_byte_i (v c : Int) (h1 : -36028797018963968 ≤ v) (h2 : v < 36028797018963968) (c0 : 0 ≤ c) (c1 : c < 256) : bits .or .i64 (v * 256) c = v * 256 + c := by
  show IntKind.i64.wrap ((BitVec.ofInt 64 (v * 256) ||| BitVec.ofInt 64 c).toNat : Int) = _
  have e1 : (BitVec.ofInt 64 (v * 256)).toNat = (v % 72057594037927936).toNat * 256 := by rw [BitVec.toNat_ofInt]; omega
  have e2 : (BitVec.ofInt 64 c).toNat = c.toNat := by rw [BitVec.toNat_ofInt]; omega
  rw [BitVec.toNat_or, e1, e2, nat_join 8 _ _ (by omega) (by omega)]
  simp [IntKind.wrap, IntKind.bits, IntKind.signed]
  omega

/-- the number that the first j bytes write, in two's complement -/
def sv (t : ByteArray) (j : Nat) : Int := if j = 0 then (if 128 ≤ (t.data.toList.headD 0).toNat then -1 else 0) else sx j (be (t.data.toList.take j))
theorem sx_step (j W c : Nat) (hj : 1 ≤ j) (hc : c < 256) : sx (j + 1) (W * 256 + c) = sx j W * 256 + c := by
  obtain ⟨m, rfl⟩ : ∃ m, j = m + 1 := ⟨j - 1, by omega⟩
  have hP : ((256 ^ m : Nat) : Int) = (256 : Int) ^ m := by simp
  unfold sx
  rw [Nat.add_sub_cancel, Nat.add_sub_cancel, Int.pow_succ, Int.pow_succ, ← hP, Nat.pow_succ]
  generalize 256 ^ m = P at *
  split <;> split <;> omega
theorem sv_step (t : ByteArray) (j : Nat) (h : j < t.size) : sv t (j + 1) = sv t j * 256 + t[j].toNat := by
  unfold sv
  rw [if_neg (by omega), be_take t j h]
  by_cases h0 : j = 0
  · subst h0
    have hh := headD_eq t h
    have hb : t[0].toNat < 256 := t[0].toNat_lt
    rw [if_pos rfl, hh]
    simp only [List.take_zero, be, List.foldl_nil, Nat.zero_mul, Nat.zero_add]
    unfold sx
    simp
    split <;> split <;> omega
  · rw [if_neg h0, sx_step _ _ _ (by omega) t[j].toNat_lt]
theorem sv_range (t : ByteArray) (j : Nat) (h : j < 8) : -36028797018963968 ≤ sv t j ∧ sv t j < 36028797018963968 := by
  unfold sv
  by_cases h0 : j = 0
  · rw [if_pos h0]; split <;> omega
  · rw [if_neg h0]
    have := sx_bounds j (be (t.data.toList.take j)) (by omega) (by omega) (be_take_lt t j)
    have hc : ((256 ^ (j - 1) : Nat) : Int) = (256 : Int) ^ (j - 1) := by simp
    have hp : 256 ^ (j - 1) ≤ 256 ^ 6 := Nat.pow_le_pow_right (by omega) (by omega)
    rw [← hc] at this
    omega

set_option maxHeartbeats 1000000 in
theorem readS_none (s : ByteArray) (at_ : Nat) (w : World) (hs : s.size ≤ 9223372036854775807) (ha : at_ ≤ 9223372036854775807) (h0 : (tkN (restL s at_) 4 32).2 = 0) :
    Calls Try.prog 54 #[.string s, .int .i64 at_] w fun e w' => e = .returned (.tuple #[.int .i64 0, .int .i64 0, .bool false]) ∧ w = w' := by
  have HN := Lib.hid (number_ref_no s at_ 4 32 w (.inr ⟨rfl, rfl⟩) hs ha h0)
  clear h0
  go_enter Try.func54, Try.ntmps54
  go_wp2_with (go_at_call 63; refine HN.out.mono ?_; rintro e w' ⟨rfl, rfl⟩)
  go_loop [9, 10] (fun v i => v = .int .i64 0 ∧ i = .int .i64 0) (fun _ _ => 0)
  case atStart => exact ⟨rfl, rfl⟩
  case round =>
    obtain ⟨rfl, rfl⟩ := hrel
    go_wp2
    go_ret3
    exact ⟨rfl, rfl⟩

set_option maxHeartbeats 2000000 in
theorem readS_some (s : ByteArray) (at_ : Nat) (t : ByteArray) (n : Nat) (w : World) (hs : s.size ≤ 9223372036854775807) (ha : at_ + n < s.size) (ht : t.size = n) (h1 : 1 ≤ n) (h8 : n ≤ 8)
    (HN : Hid (Calls Try.prog 63 #[.string s, .int .i64 at_, .int .u8 32] w fun e w' => e = .returned (.tuple #[.string t, .bool true]) ∧ w = w')) :
    Calls Try.prog 54 #[.string s, .int .i64 at_] w fun e w' => e = .returned (if n = ssz (sx n (be t.data.toList)) then .tuple #[.int .i64 (sx n (be t.data.toList)), .int .i64 ((at_ + (1 + n) : Nat) : Int), .bool true] else .tuple #[.int .i64 0, .int .i64 0, .bool false]) ∧ Below w.heap.size w w' := by
  subst ht
  have hW : be t.data.toList < 256 ^ t.size := by have := be_lt t.data.toList; rwa [size_len] at this
  have hV := sx_i64 t.size (be t.data.toList) h1 h8 hW
  have hend : sv t t.size = sx t.size (be t.data.toList) := by
    unfold sv; rw [if_neg (by omega), List.take_of_length_le (by rw [size_len]; exact Nat.le_refl _)]
  have hh := headD_eq t (by omega)
  have hb0 : t[0].toNat < 256 := t[0].toNat_lt
  have hst : sv t 0 = if 128 ≤ t[0].toNat then -1 else 0 := by unfold sv; rw [if_pos rfl, hh]
  clear hW hh
  generalize sx t.size (be t.data.toList) = V at *
  have HU := refSigned_any V w hV.1 hV.2
  have hz8 := ssz_8 V hV.1 hV.2
  have hu := num_length 32 (word V) (ssz V) hz8
  obtain ⟨S, hS⟩ : ∃ S : ByteArray, S = ⟨(num 32 (word V) (ssz V)).toArray⟩ := ⟨_, rfl⟩
  have hSs : S.size = 1 + ssz V := by rw [hS, ← hu]; simp [ByteArray.size]
  rw [← hS] at HU
  clear hS hu
  generalize ssz V = z at *
  have HU' := Lib.hid HU
  have HE := Lib.hid hend
  clear HU hend
  have hx : ((S.size : Int) != (t.size : Int) + 1) = decide (t.size ≠ z) := by
    by_cases hz : t.size = z
    · rw [decide_eq_false (fun h => h hz)]; simp [bne]; omega
    · rw [decide_eq_true hz]; simp [bne]; omega
  rcases Classical.em (t.size = z) with hz | hz
  all_goals first | (rw [if_pos hz]; rw [decide_eq_false (fun h => h hz)] at hx) | (rw [if_neg hz]; rw [decide_eq_true hz] at hx)
  all_goals
    clear hz
    by_cases hneg : 128 ≤ t[0].toNat
    all_goals first | rw [if_pos hneg] at hst | rw [if_neg hneg] at hst
    all_goals
      have HST := Lib.hid hst
      clear hst
      first | (have hd : decide ((128 : Int) ≤ (t[0].toNat : Int)) = true := by simp; omega) | (have hd : decide ((128 : Int) ≤ (t[0].toNat : Int)) = false := by simp; omega)
      go_enter Try.func54, Try.ntmps54
      go_wp2_with (go_at_call 63; refine HN.out.mono ?_; rintro e w' ⟨rfl, rfl⟩)
      go_loop [9, 10] (fun v i => ∃ j : Nat, j ≤ t.size ∧ i = .int .i64 j ∧ v = .int .i64 (sv t j)) (fun _ i => t.size - (intOf i).toNat)
      case atStart => exact ⟨0, Nat.zero_le _, rfl, by rw [HST.out]⟩
      case round =>
        obtain ⟨j, hj, rfl, rfl⟩ := hrel
        by_cases hlt : j < t.size
        · have hss := sv_step t j hlt
          have hsr := sv_range t j (by omega)
          have HSS := Lib.hid hss; clear hss
          generalize sv t j = X at *
          have hbj : t[j].toNat < 256 := t[j].toNat_lt
          go_wp2
          go_round
          case rel => exact ⟨j + 1, by omega, by go_num, by
            rw [HSS.out, or_byte_i _ _ hsr.1 hsr.2 (by omega) (by omega)]⟩
          case measure => simp [intOf]; omega
        · obtain rfl : t.size = j := by omega
          rw [HE.out]
          go_wp2_with (go_at_call 41; refine HU'.out.mono ?_; rintro e w' ⟨rfl, hb⟩)
          go_ret3
          exact ⟨by go_num, hb⟩
end Go.Proofs.Ytlhgbnjflemiiaa
