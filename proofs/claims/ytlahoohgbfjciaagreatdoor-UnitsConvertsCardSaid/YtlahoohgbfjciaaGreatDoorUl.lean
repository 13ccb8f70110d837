/- The contract of units.isLetters. -/
import Derived.Test.YtlahoohgbfjciaaGreatDoorUd
import Derived.LoopTactic
namespace Go.Proofs.YtlahoohgbfjciaaGreatDoor
open Go.RowKit Go.Shelf

theorem take_snoc (s : ByteArray) (k : Nat) (h : k < s.size) : s.data.toList.take (k + 1) = s.data.toList.take k ++ [s[k]] := by
  rw [List.take_succ_eq_append_getElem (by simpa using h)]; rfl
theorem loop_eq (s : ByteArray) : ∀ (n i : Nat) (r : List UInt8), s.size - i = n → ByteArray.toList.loop s i r = r.reverse ++ s.data.toList.drop i
  | 0, i, r, h => by
    unfold ByteArray.toList.loop
    rw [if_neg (by omega), List.drop_of_length_le (by simpa using (by omega : s.size ≤ i)), List.append_nil]
  | n + 1, i, r, h => by
    unfold ByteArray.toList.loop
    have hi : i < s.data.toList.length := by simpa using (by omega : i < s.size)
    rw [if_pos (by omega), loop_eq s n (i + 1) _ (by omega), List.reverse_cons, List.append_assoc, List.drop_eq_getElem_cons hi]
    have e : s.get! i = s.data.toList[i] := by
      have hs : i < s.size := by omega
      simp [ByteArray.get!, getElem!_pos, hs]
    rw [e]; rfl
theorem toList_eq (s : ByteArray) : s.toList = s.data.toList := by
  unfold ByteArray.toList
  rw [loop_eq s _ 0 [] rfl]; rfl
def letB (c : UInt8) : Bool := !((decide (c.toNat < 65) || decide (90 < c.toNat)) && (decide (c.toNat < 97) || decide (122 < c.toNat)))
/-- one or more letters -/
def lettersB (l : List UInt8) : Bool := !l.isEmpty && l.all letB
theorem letters_stop (s : ByteArray) (k : Nat) (h : k < s.size) (hc : letB s[k] = false) : lettersB s.data.toList = false := by
  unfold lettersB
  have hk : k < s.data.toList.length := by simpa using h
  have : s.data.toList.all letB = false := by
    rw [List.all_eq_false]
    exact ⟨s.data.toList[k], List.getElem_mem hk, by rw [show s.data.toList[k] = s[k] from rfl, hc]; simp⟩
  rw [this, Bool.and_false]

set_option maxHeartbeats 1000000 in
theorem isLetters_any (s : ByteArray) (w : World) (hs : s.size ≤ 1000) :
    Calls Tryz.prog 59 #[.string s] w fun e w' => e = .returned (.bool (lettersB s.data.toList)) ∧ w = w' := by
  go_enter Tryz.func59, Tryz.ntmps59
  go_wp2_with fail
  go_loop [6] (fun i => ∃ k : Nat, k ≤ s.size ∧ i = .int .i64 k ∧ Hid ((s.data.toList.take k).all letB = true)) (fun i => s.size - (intOf i).toNat)
  case atStart => exact ⟨0, Nat.zero_le _, rfl, Lib.hid rfl⟩
  case round =>
  obtain ⟨k, hk, rfl, HK⟩ := hrel
  by_cases hlt : k < s.size
  · have h : s[k].toNat < 65 ∨ (65 ≤ s[k].toNat ∧ s[k].toNat ≤ 90) ∨ (90 < s[k].toNat ∧ s[k].toNat < 97) ∨ (97 ≤ s[k].toNat ∧ s[k].toNat ≤ 122) ∨ 122 < s[k].toNat := by omega
    rcases h with h | h | h | h | h
    · have t0 : decide ((s[k].toNat : Int) < 65) = true := decide_eq_true (by omega)
      have t1 : decide (90 < (s[k].toNat : Int)) = false := decide_eq_false (by omega)
      have t2 : decide ((s[k].toNat : Int) < 97) = true := decide_eq_true (by omega)
      have t3 : decide (122 < (s[k].toNat : Int)) = false := decide_eq_false (by omega)
      have HC := Lib.hid (show letB s[k] = false by
        unfold letB
        rw [decide_eq_true (show s[k].toNat < 65 by omega), decide_eq_false (show ¬ 90 < s[k].toNat by omega), decide_eq_true (show s[k].toNat < 97 by omega), decide_eq_false (show ¬ 122 < s[k].toNat by omega)]; rfl)
      clear h
      go_wp2_with fail
      go_ret
      exact ⟨by rw [letters_stop s k hlt HC.out]; rfl, rfl⟩
    · have t0 : decide ((s[k].toNat : Int) < 65) = false := decide_eq_false (by omega)
      have t1 : decide (90 < (s[k].toNat : Int)) = false := decide_eq_false (by omega)
      have t2 : decide ((s[k].toNat : Int) < 97) = true := decide_eq_true (by omega)
      have t3 : decide (122 < (s[k].toNat : Int)) = false := decide_eq_false (by omega)
      have HC := Lib.hid (show letB s[k] = true by
        unfold letB
        rw [decide_eq_false (show ¬ s[k].toNat < 65 by omega), decide_eq_false (show ¬ 90 < s[k].toNat by omega), decide_eq_true (show s[k].toNat < 97 by omega), decide_eq_false (show ¬ 122 < s[k].toNat by omega)]; rfl)
      clear h
      go_wp2_with fail
      go_round
      case rel => exact ⟨k + 1, by omega, by go_num, Lib.hid (by rw [take_snoc s k hlt, List.all_append, HK.out]; simp [HC.out])⟩
      case measure => simp [intOf]; omega
    · have t0 : decide ((s[k].toNat : Int) < 65) = false := decide_eq_false (by omega)
      have t1 : decide (90 < (s[k].toNat : Int)) = true := decide_eq_true (by omega)
      have t2 : decide ((s[k].toNat : Int) < 97) = true := decide_eq_true (by omega)
      have t3 : decide (122 < (s[k].toNat : Int)) = false := decide_eq_false (by omega)
      have HC := Lib.hid (show letB s[k] = false by
        unfold letB
        rw [decide_eq_false (show ¬ s[k].toNat < 65 by omega), decide_eq_true (show 90 < s[k].toNat by omega), decide_eq_true (show s[k].toNat < 97 by omega), decide_eq_false (show ¬ 122 < s[k].toNat by omega)]; rfl)
      clear h
      go_wp2_with fail
      go_ret
      exact ⟨by rw [letters_stop s k hlt HC.out]; rfl, rfl⟩
    · have t0 : decide ((s[k].toNat : Int) < 65) = false := decide_eq_false (by omega)
      have t1 : decide (90 < (s[k].toNat : Int)) = true := decide_eq_true (by omega)
      have t2 : decide ((s[k].toNat : Int) < 97) = false := decide_eq_false (by omega)
      have t3 : decide (122 < (s[k].toNat : Int)) = false := decide_eq_false (by omega)
      have HC := Lib.hid (show letB s[k] = true by
        unfold letB
        rw [decide_eq_false (show ¬ s[k].toNat < 65 by omega), decide_eq_true (show 90 < s[k].toNat by omega), decide_eq_false (show ¬ s[k].toNat < 97 by omega), decide_eq_false (show ¬ 122 < s[k].toNat by omega)]; rfl)
      clear h
      go_wp2_with fail
      go_round
      case rel => exact ⟨k + 1, by omega, by go_num, Lib.hid (by rw [take_snoc s k hlt, List.all_append, HK.out]; simp [HC.out])⟩
      case measure => simp [intOf]; omega
    · have t0 : decide ((s[k].toNat : Int) < 65) = false := decide_eq_false (by omega)
      have t1 : decide (90 < (s[k].toNat : Int)) = true := decide_eq_true (by omega)
      have t2 : decide ((s[k].toNat : Int) < 97) = false := decide_eq_false (by omega)
      have t3 : decide (122 < (s[k].toNat : Int)) = true := decide_eq_true (by omega)
      have HC := Lib.hid (show letB s[k] = false by
        unfold letB
        rw [decide_eq_false (show ¬ s[k].toNat < 65 by omega), decide_eq_true (show 90 < s[k].toNat by omega), decide_eq_false (show ¬ s[k].toNat < 97 by omega), decide_eq_true (show 122 < s[k].toNat by omega)]; rfl)
      clear h
      go_wp2_with fail
      go_ret
      exact ⟨by rw [letters_stop s k hlt HC.out]; rfl, rfl⟩
  · obtain rfl : k = s.size := by omega
    have HA := Lib.hid (show s.data.toList.all letB = true by have := HK.out; rwa [List.take_of_length_le (by rw [← Lib.size_eq]; exact Nat.le_refl _)] at this)
    clear HK
    by_cases h0 : s.size = 0
    · obtain rfl : s = ⟨#[]⟩ := by
        obtain ⟨⟨l⟩⟩ := s
        have : l = [] := List.eq_nil_of_length_eq_zero h0
        rw [this]
      go_wp2_with fail
      go_ret
      exact ⟨rfl, rfl⟩
    · have he : ¬ s.toList = [] := by
        rw [toList_eq]
        intro e
        exact h0 (by rw [Lib.size_eq, e]; rfl)
      have he2 : s.data.toList.isEmpty = false := by
        rw [List.isEmpty_eq_false_iff]
        intro e
        exact h0 (by rw [Lib.size_eq, e]; rfl)
      have HE := Lib.hid (show lettersB s.data.toList = true by unfold lettersB; rw [he2, HA.out]; rfl)
      clear he2
      go_wp2_with fail
      go_ret
      exact ⟨by rw [HE.out]; simp [he], rfl⟩
end Go.Proofs.YtlahoohgbfjciaaGreatDoor
