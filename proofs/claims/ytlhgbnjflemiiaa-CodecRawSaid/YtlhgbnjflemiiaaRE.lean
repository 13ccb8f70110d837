/- Contracts of the specification's readers of numbers. -/
import Derived.Test.YtlhgbnjflemiiaaP
import Derived.Test.YtlhgbnjflemiiaaY
namespace Go.Proofs.Ytlhgbnjflemiiaa
open Go.RowKit

theorem kindC_of {c m : Nat} {k : Int} (hkm : (k = 3 ∧ m = 16) ∨ (k = 4 ∧ m = 32)) : kindC c = k ↔ m < c ∧ c ≤ m + 8 := by
  unfold kindC
  rcases hkm with ⟨rfl, rfl⟩ | ⟨rfl, rfl⟩ <;> (repeat' split) <;> constructor <;> intro h <;> omega
theorem restL_cons (s : ByteArray) (at_ : Nat) (h : at_ < s.size) : restL s at_ = s[at_] :: restL s (at_ + 1) := by
  have h' : at_ < s.data.toList.length := by rw [size_len]; exact h
  unfold restL
  rw [List.drop_eq_getElem_cons h']
  rfl
theorem restL_nil (s : ByteArray) (at_ : Nat) (h : s.size ≤ at_) : restL s at_ = [] := List.eq_nil_of_length_eq_zero (by rw [restL_length]; omega)
theorem tkN_rest (s : ByteArray) (at_ : Nat) (k : Int) (m : Nat) (hkm : (k = 3 ∧ m = 16) ∨ (k = 4 ∧ m = 32)) (h : at_ < s.size) :
    tkN (restL s at_) k m = if (m < s[at_].toNat ∧ s[at_].toNat ≤ m + 8) ∧ s[at_].toNat - m < s.size - at_ then (bep (restL s at_) (s[at_].toNat - m), s[at_].toNat - m) else (0, 0) := by
  have hk : kindL (restL s at_) = kindC s[at_].toNat := by rw [restL_cons s at_ h]; rfl
  have hh : ((restL s at_).headD 0).toNat = s[at_].toNat := by rw [restL_cons s at_ h]; rfl
  unfold tkN
  rw [hk, hh, restL_length]
  by_cases hc : m < s[at_].toNat ∧ s[at_].toNat ≤ m + 8
  · rw [(kindC_of hkm).2 hc]
    by_cases hn : s[at_].toNat - m < s.size - at_
    · rw [if_pos ⟨rfl, hn⟩, if_pos ⟨hc, hn⟩]
    · rw [if_neg (fun h => hn h.2), if_neg (fun h => hn h.2)]
  · rw [if_neg (fun h => hc ((kindC_of hkm).1 h.1)), if_neg (fun h => hc h.1)]
theorem tkN_nil (k : Int) (m : Nat) (hkm : (k = 3 ∧ m = 16) ∨ (k = 4 ∧ m = 32)) : tkN [] k m = (0, 0) := by
  unfold tkN
  rw [if_neg]
  rintro ⟨h, _⟩
  simp [kindL] at h
  omega

set_option maxHeartbeats 1000000 in
theorem number_ref_no (s : ByteArray) (at_ : Nat) (k : Int) (m : Nat) (w : World) (hkm : (k = 3 ∧ m = 16) ∨ (k = 4 ∧ m = 32)) (_hs : s.size ≤ 9223372036854775807) (_ha : at_ ≤ 9223372036854775807) (h0 : (tkN (restL s at_) k m).2 = 0) :
    Calls Try.prog 63 #[.string s, .int .i64 at_, .int .u8 m] w fun e w' => e = .returned (.tuple #[.string ⟨#[]⟩, .bool false]) ∧ w = w' := by
  have hm : m ≤ 32 := by omega
  by_cases hlt : at_ < s.size
  · rw [tkN_rest s at_ k m hkm hlt] at h0
    have hb : s[at_].toNat < 256 := s[at_].toNat_lt
    have hd : decide ((s.size : Int) ≤ (at_ : Int)) = false := by simp; omega
    by_cases c1 : m < s[at_].toNat
    · by_cases c2 : s[at_].toNat ≤ m + 8
      · have hn : ¬ s[at_].toNat - m < s.size - at_ := fun h => by rw [if_pos ⟨⟨c1, c2⟩, h⟩] at h0; simp only at h0; omega
        have hn2 : (s.size : Int) - (at_ : Int) - 1 < (s[at_].toNat : Int) - (m : Int) := by omega
        clear h0 hn
        go_enter Try.func63, Try.ntmps63
        go_wp2
        go_ret2
        exact ⟨rfl, rfl⟩
      · clear h0
        go_enter Try.func63, Try.ntmps63
        go_wp2
        go_ret2
        exact ⟨rfl, rfl⟩
    · clear h0
      go_enter Try.func63, Try.ntmps63
      go_wp2
      go_ret2
      exact ⟨rfl, rfl⟩
  · clear h0
    have hd : decide ((s.size : Int) ≤ (at_ : Int)) = true := by simp; omega
    go_enter Try.func63, Try.ntmps63
    go_wp2
    go_ret2
    exact ⟨rfl, rfl⟩
set_option maxHeartbeats 1000000 in
theorem number_ref_yes (s : ByteArray) (at_ : Nat) (k : Int) (m n : Nat) (w : World) (hkm : (k = 3 ∧ m = 16) ∨ (k = 4 ∧ m = 32)) (hs : s.size ≤ 9223372036854775807) (hn : (tkN (restL s at_) k m).2 = n) (h0 : n ≠ 0) :
    at_ + n < s.size ∧ Calls Try.prog 63 #[.string s, .int .i64 at_, .int .u8 m] w fun e w' => e = .returned (.tuple #[.string (s.extract (at_ + 1) (at_ + 1 + n)), .bool true]) ∧ w = w' := by
  have hm : m ≤ 32 := by omega
  have hlt : at_ < s.size := by
    rcases Nat.lt_or_ge at_ s.size with h | h
    · exact h
    · rw [restL_nil s at_ h, tkN_nil k m hkm] at hn; simp only at hn; omega
  rw [tkN_rest s at_ k m hkm hlt] at hn
  split at hn
  · rename_i hc
    obtain ⟨⟨c1, c2⟩, c3⟩ := hc
    simp only at hn
    have hb : s[at_].toNat < 256 := s[at_].toNat_lt
    have hd : decide ((s.size : Int) ≤ (at_ : Int)) = false := by simp; omega
    have hx : (s[at_].toNat : Int) - (m : Int) = (n : Int) := by omega
    have hle : at_ + 1 + n ≤ s.size := by omega
    refine ⟨by omega, ?_⟩
    have HN := Lib.hid hn; clear hn
    go_enter Try.func63, Try.ntmps63
    go_wp2
    go_ret2
    exact ⟨rfl, rfl⟩
  · simp only at hn; omega
end Go.Proofs.Ytlhgbnjflemiiaa
