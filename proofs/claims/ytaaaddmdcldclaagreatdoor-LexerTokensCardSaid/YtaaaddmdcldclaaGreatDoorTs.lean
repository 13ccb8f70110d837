/- Contracts of the specification's word, Sign, field. -/
import Derived.Test.YtaaaddmdcldclaaGreatDoorTr
namespace Go.Proofs.YtaaaddmdcldclaaGreatDoor
open Go.RowKit Go.Shelf
set_option linter.unusedVariables false
set_option linter.unusedSimpArgs false

def wordsB (s : ByteArray) : Bool := decide (runF (fun k => wordB (byteI s k)) s.size 0 = s.size)
def wordOkB (s : ByteArray) : Bool := decide (0 < s.size) && decide (s.size ≤ 49) && letB (byteI s 0) && wordsB s
theorem words_yes {s : ByteArray} (h : ∀ j, j < s.size → wordB (byteI s j) = true) : wordsB s = true := by
  unfold wordsB
  exact decide_eq_true (runF_eq (Nat.zero_le _) (by omega) (fun j _ b => h j b) (.inl (by omega)))
theorem words_no {s : ByteArray} {j : Nat} (hj : j < s.size) (h : wordB (byteI s j) = false) : wordsB s = false := by
  unfold wordsB
  refine decide_eq_false (fun e => ?_)
  have hs : wordB (byteI s j) = true := (runF_spec (fun k => wordB (byteI s k)) s.size 0).1 j (Nat.zero_le _) (by omega)
  rw [h] at hs
  cases hs
set_option maxHeartbeats 8000000 in
set_option maxRecDepth 100000 in
theorem word_any (s : ByteArray) (w : World) : Calls Tryz.prog 39 #[.string s] w fun e w' => e = .returned (.bool (wordOkB s)) ∧ Below w.heap.size w w' := by
  by_cases h0 : s.size = 0
  · have HY := Lib.hid (show wordOkB s = false by unfold wordOkB; rw [decide_eq_false (show ¬ 0 < s.size by omega)]; rfl)
    have t0 : (s.size : Int) < 1 := by omega
    clear h0
    go_enter Tryz.func39, Tryz.ntmps39
    go_wp2_with fail
    go_ret
    exact ⟨by rw [HY.out]; (first | done | rfl), Below.refl _ _⟩
  have t0 : ¬ (s.size : Int) < 1 := by omega
  by_cases h49 : 49 < s.size
  · have HY := Lib.hid (show wordOkB s = false by unfold wordOkB; rw [decide_eq_false (show ¬ s.size ≤ 49 by omega)]; simp)
    have t1 : (49 : Int) < (s.size : Int) := by omega
    clear h0 h49
    go_enter Tryz.func39, Tryz.ntmps39
    go_wp2_with fail
    go_ret
    exact ⟨by rw [HY.out]; (first | done | rfl), Below.refl _ _⟩
  have t1 : ¬ (49 : Int) < (s.size : Int) := by omega
  have hpos : 0 < s.size := by omega
  have k0 : (0 : Int) < (s.size : Int) := by omega
  have HS := Lib.hid (show s.size ≤ 49 by omega)
  obtain ⟨y, hy⟩ : ∃ y : Int, y = (s[0].toNat : Int) := ⟨_, rfl⟩
  have hyb : byteI s 0 = y := (byteI_at hpos).trans hy.symm
  have hy2 : (s[0].toNat : Int) = y := hy.symm
  have hlt1 := fun w => rlet_any y w
  obtain ⟨F, hF⟩ : ∃ D, D = letB y := ⟨_, rfl⟩
  rw [← hF] at hlt1
  have HLT := Lib.hid hlt1
  have HF := Lib.hid hF
  have HYB := Lib.hid hyb
  clear hy hlt1 hF hyb h0 h49
  go_enter Tryz.func39, Tryz.ntmps39
  go_wp2_with fail
  refine (HLT.out _).mono ?_
  rintro e w1 ⟨rfl, hb⟩
  have HB1 := Lib.hid hb
  clear hb HLT
  cases F
  · have HY := Lib.hid (show wordOkB s = false by unfold wordOkB; rw [HYB.out, ← HF.out]; simp)
    go_wp2_with fail
    go_ret
    exact ⟨by rw [HY.out]; (first | done | rfl), HB1.out⟩
  have HP := Lib.hid (show 0 < s.size ∧ s.size ≤ 49 ∧ letB (byteI s 0) = true from ⟨hpos, HS.out, by rw [HYB.out]; exact HF.out.symm⟩)
  go_wp2_with fail
  go_loopw [3] (fun iv wr => ∃ k : Nat, k ≤ s.size ∧ iv = .int .i64 k ∧ Hid ((∀ j, j < k → wordB (byteI s j) = true) ∧ Below w.heap.size w wr)) (fun iv _ => s.size - (intOf iv).toNat)
  case atStart => exact ⟨0, Nat.zero_le _, rfl, Lib.hid ⟨fun j h => by omega, HB1.out⟩⟩
  case round =>
    obtain ⟨k, hk, rfl, hH⟩ := hrel
    have HD := Lib.hid hH.out.1
    have HB := Lib.hid hH.out.2
    clear hH
    by_cases hlt : k < s.size
    · obtain ⟨x, hx⟩ : ∃ x : Int, x = (s[k].toNat : Int) := ⟨_, rfl⟩
      have HXB := Lib.hid (show byteI s k = x from (byteI_at hlt).trans hx.symm)
      have hx2 : (s[k].toNat : Int) = x := hx.symm
      have k1 : (0 : Int) ≤ (k : Int) := by omega
      have k2 : (k : Int) < (s.size : Int) := by omega
      have k3 : IntKind.i64.wrap ((k : Int) + 1) = (k : Int) + 1 := IntWalk.i64_in _ (by have := HS.out; omega)
      have hlt1 := fun w => rlet_any x w
      have hdg := fun w => rdig_any x w
      obtain ⟨F, hF⟩ : ∃ D, D = letB x := ⟨_, rfl⟩
      obtain ⟨D, hD⟩ : ∃ D, D = digB x := ⟨_, rfl⟩
      rw [← hF] at hlt1
      rw [← hD] at hdg
      have HLT := Lib.hid hlt1
      have HDG := Lib.hid hdg
      have HF := Lib.hid hF
      have HDD := Lib.hid hD
      clear hx hdg hD hlt1 hF
      go_wp2_with fail
      refine (HLT.out _).mono ?_
      rintro e w2 ⟨rfl, hb⟩
      have HB := Lib.hid (HB.out.trans (hb.mono HB.out.size))
      clear hb
      cases F
      rotate_left
      · have HWB := Lib.hid (show wordB x = true by unfold wordB; rw [← HF.out]; simp)
        go_wp2_with fail
        go_roundw
        case rel => exact ⟨k + 1, by omega, by go_num, Lib.hid ⟨fun j hj => by (by_cases h : j = k; rw [h, HXB.out]; exact HWB.out; exact HD.out j (by omega)), HB.out⟩⟩
        case measure => (simp [intOf]) <;> omega
      go_wp2_with fail
      refine (HDG.out _).mono ?_
      rintro e w2 ⟨rfl, hb⟩
      have HB := Lib.hid (HB.out.trans (hb.mono HB.out.size))
      clear hb
      cases D
      rotate_left
      · have HWB := Lib.hid (show wordB x = true by unfold wordB; rw [← HDD.out]; simp)
        go_wp2_with fail
        go_roundw
        case rel => exact ⟨k + 1, by omega, by go_num, Lib.hid ⟨fun j hj => by (by_cases h : j = k; rw [h, HXB.out]; exact HWB.out; exact HD.out j (by omega)), HB.out⟩⟩
        case measure => (simp [intOf]) <;> omega
      by_cases h95 : x = 95
      · have t95 : (x != 95) = false := by simpa using h95
        have HWB := Lib.hid (show wordB x = true by unfold wordB; rw [decide_eq_true h95]; simp)
        clear h95
        go_wp2_with fail
        go_roundw
        case rel => exact ⟨k + 1, by omega, by go_num, Lib.hid ⟨fun j hj => by (by_cases h : j = k; rw [h, HXB.out]; exact HWB.out; exact HD.out j (by omega)), HB.out⟩⟩
        case measure => (simp [intOf]) <;> omega
      have t95 : (x != 95) = true := by simpa using h95
      by_cases h47 : x = 47
      · have t47 : (x != 47) = false := by simpa using h47
        have HWB := Lib.hid (show wordB x = true by unfold wordB; rw [decide_eq_true h47]; simp)
        clear h47 h95
        go_wp2_with fail
        go_roundw
        case rel => exact ⟨k + 1, by omega, by go_num, Lib.hid ⟨fun j hj => by (by_cases h : j = k; rw [h, HXB.out]; exact HWB.out; exact HD.out j (by omega)), HB.out⟩⟩
        case measure => (simp [intOf]) <;> omega
      have t47 : (x != 47) = true := by simpa using h47
      have HWB := Lib.hid (show wordB x = false by unfold wordB; rw [← HF.out, ← HDD.out, decide_eq_false h95, decide_eq_false h47]; rfl)
      have HY := Lib.hid (show wordOkB s = false by unfold wordOkB; rw [words_no hlt (by rw [HXB.out]; exact HWB.out)]; simp)
      clear h95 h47
      go_wp2_with fail
      go_ret
      exact ⟨by rw [HY.out]; (first | done | rfl), HB.out⟩
    · obtain rfl : k = s.size := by omega
      have HY := Lib.hid (show wordOkB s = true by unfold wordOkB; rw [words_yes HD.out, decide_eq_true HP.out.1, decide_eq_true HP.out.2.1, HP.out.2.2]; rfl)
      go_wp2_with fail
      go_ret
      exact ⟨by rw [HY.out]; (first | done | rfl), HB.out⟩
end Go.Proofs.YtaaaddmdcldclaaGreatDoor
