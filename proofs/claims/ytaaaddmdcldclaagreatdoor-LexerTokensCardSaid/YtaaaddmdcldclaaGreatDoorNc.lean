/- Contracts of the specification's Lower, Digit and Name. -/
import Derived.Test.YtaaaddmdcldclaaGreatDoorNb
namespace Go.Proofs.YtaaaddmdcldclaaGreatDoor
open Go.RowKit Go.Shelf

theorem rlow_any (c : Int) (w : World) : Calls Tryz.prog 48 #[.int .u8 c] w fun e w' => e = .returned (.bool (lowB c)) ∧ Below w.heap.size w w' := by
  by_cases h1 : 97 ≤ c
  · have HY := Lib.hid (show lowB c = decide (c ≤ 122) by unfold lowB; rw [decide_eq_true h1, Bool.true_and])
    go_enter Tryz.func48, Tryz.ntmps48
    go_wp2_with fail
    go_ret
    exact ⟨by rw [HY.out]; (first | done | rfl), Below.refl _ _⟩
  · have HY := Lib.hid (show lowB c = false by unfold lowB; rw [decide_eq_false h1, Bool.false_and])
    go_enter Tryz.func48, Tryz.ntmps48
    go_wp2_with fail
    go_ret
    exact ⟨by rw [HY.out]; (first | done | rfl), Below.refl _ _⟩
theorem rdig_any (c : Int) (w : World) : Calls Tryz.prog 49 #[.int .u8 c] w fun e w' => e = .returned (.bool (digB c)) ∧ Below w.heap.size w w' := by
  by_cases h1 : 48 ≤ c
  · have HY := Lib.hid (show digB c = decide (c ≤ 57) by unfold digB; rw [decide_eq_true h1, Bool.true_and])
    go_enter Tryz.func49, Tryz.ntmps49
    go_wp2_with fail
    go_ret
    exact ⟨by rw [HY.out]; (first | done | rfl), Below.refl _ _⟩
  · have HY := Lib.hid (show digB c = false by unfold digB; rw [decide_eq_false h1, Bool.false_and])
    go_enter Tryz.func49, Tryz.ntmps49
    go_wp2_with fail
    go_ret
    exact ⟨by rw [HY.out]; (first | done | rfl), Below.refl _ _⟩
theorem runF_all {p : Nat → Bool} {N : Nat} : ∀ n k, k + n = N → (runF p n k = N ↔ ∀ j, k ≤ j → j < N → p j = true)
  | 0, k, h => ⟨fun _ j h1 h2 => by omega, fun _ => by show k = N; omega⟩
  | n + 1, k, h => by
    show (if p k = true then runF p n (k + 1) else k) = N ↔ _
    by_cases hp : p k = true
    · rw [if_pos hp, runF_all n (k + 1) (by omega)]
      constructor
      · intro h1 j h2 h3
        by_cases h4 : j = k
        · rw [h4]; exact hp
        · exact h1 j (by omega) h3
      · exact fun h1 j h2 h3 => h1 j (by omega) h3
    · rw [if_neg hp]
      constructor
      · intro h1; omega
      · intro h1; exact absurd (h1 k (Nat.le_refl _) (by omega)) hp
theorem name_yes {s : ByteArray} (h1 : 0 < s.size) (h2 : s.size ≤ 24) (h3 : lowB (byteI s 0) = true) (h4 : ∀ j, 1 ≤ j → j < s.size → nextB (byteI s j) = true) : nameB s = true := by
  unfold nameB
  rw [decide_eq_true h1, decide_eq_true h2, h3, decide_eq_true ((runF_all (N := s.size) (s.size - 1) 1 (by omega)).2 h4)]; rfl
theorem name_no {s : ByteArray} {j : Nat} (h1 : 1 ≤ j) (h2 : j < s.size) (h3 : nextB (byteI s j) = false) : nameB s = false := by
  unfold nameB
  rw [decide_eq_false (show ¬ runF (fun k => nextB (byteI s k)) (s.size - 1) 1 = s.size from fun h => by
    have := (runF_all (N := s.size) (s.size - 1) 1 (by omega)).1 h j h1 h2
    rw [h3] at this; cases this), Bool.and_false]

set_option maxHeartbeats 4000000 in
set_option maxRecDepth 100000 in
theorem rname_any (s : ByteArray) (w : World) : Calls Tryz.prog 23 #[.string s] w fun e w' => e = .returned (.bool (nameB s)) ∧ Below w.heap.size w w' := by
  obtain ⟨N, hN⟩ : ∃ N, N = s.size := ⟨_, rfl⟩
  by_cases h1 : s.size < 1
  · have HY := Lib.hid (show nameB s = false by unfold nameB; rw [decide_eq_false (by omega)]; rfl)
    have h1' : (s.size : Int) < 1 := by omega
    go_enter Tryz.func23, Tryz.ntmps23
    go_wp2_with fail
    go_ret
    exact ⟨by rw [HY.out]; (first | done | rfl), Below.refl _ _⟩
  by_cases h2 : 24 < s.size
  · have HY := Lib.hid (show nameB s = false by unfold nameB; rw [decide_eq_false (show ¬ s.size ≤ 24 by omega)]; simp)
    have h1' : ¬ (s.size : Int) < 1 := by omega
    have h2' : 24 < (s.size : Int) := by omega
    go_enter Tryz.func23, Tryz.ntmps23
    go_wp2_with fail
    go_ret
    exact ⟨by rw [HY.out]; (first | done | rfl), Below.refl _ _⟩
  have h0 : 0 < s.size := by omega
  have h1' : ¬ (s.size : Int) < 1 := by omega
  have h2' : ¬ 24 < (s.size : Int) := by omega
  obtain ⟨c0, hc0⟩ : ∃ c : Int, c = (s[0].toNat : Int) := ⟨_, rfl⟩
  have hb0 : byteI s 0 = c0 := (byteI_at h0).trans hc0.symm
  have hlo := fun w => rlow_any c0 w
  obtain ⟨F, hF⟩ : ∃ F, F = lowB c0 := ⟨_, rfl⟩
  rw [← hF] at hlo
  have HLO := Lib.hid hlo
  have HF := Lib.hid (show F = lowB (byteI s 0) by rw [hb0]; exact hF)
  have hc0' : (s[0].toNat : Int) = c0 := hc0.symm
  have HB0 := Lib.hid hb0
  clear hlo hF hc0 hb0
  go_enter Tryz.func23, Tryz.ntmps23
  go_wp2_with fail
  refine (HLO.out _).mono ?_
  rintro e w1 ⟨rfl, hb⟩
  have HB1 := Lib.hid hb
  clear hb
  cases F
  · have HY := Lib.hid (show nameB s = false by unfold nameB; rw [← HF.out]; simp)
    go_wp2_with fail
    go_ret
    exact ⟨by rw [HY.out]; (first | done | rfl), HB1.out⟩
  have HN := Lib.hid hN
  have HLOW := Lib.hid (show lowB (byteI s 0) = true from HF.out.symm)
  have HS24 := Lib.hid (show 0 < s.size ∧ s.size ≤ 24 by omega)
  go_wp2_with fail
  clear h1 h2 h0 h1' h2' hc0' HF hN
  go_loopw [3] (fun i wr => ∃ j : Nat, 1 ≤ j ∧ j ≤ s.size ∧ i = .int .i64 j ∧ Hid ((∀ k, 1 ≤ k → k < j → nextB (byteI s k) = true) ∧ Below w.heap.size w wr)) (fun i _ => s.size - (intOf i).toNat)
  case atStart => exact ⟨1, by omega, by have := HS24.out; omega, rfl, Lib.hid ⟨fun k h1 h2 => by omega, HB1.out⟩⟩
  case round =>
    obtain ⟨j, hj1, hj2, rfl, hH⟩ := hrel
    have HK := Lib.hid hH.out.1
    have HBR := Lib.hid hH.out.2
    clear hH
    by_cases hlt : j < s.size
    · obtain ⟨c, hc⟩ : ∃ c : Int, c = (s[j].toNat : Int) := ⟨_, rfl⟩
      have hbj : byteI s j = c := (byteI_at hlt).trans hc.symm
      have hlo := fun w => rlow_any c w
      have hdi := fun w => rdig_any c w
      obtain ⟨F, hF⟩ : ∃ F, F = lowB c := ⟨_, rfl⟩
      obtain ⟨D, hD⟩ : ∃ F, F = digB c := ⟨_, rfl⟩
      rw [← hF] at hlo
      rw [← hD] at hdi
      have HLO2 := Lib.hid hlo
      have HDI := Lib.hid hdi
      have HNX := Lib.hid (show nextB (byteI s j) = (F || D || decide (c = 95)) by rw [hbj, hF, hD]; rfl)
      have hc' : (s[j].toNat : Int) = c := hc.symm
      have k1 : (0 : Int) ≤ (j : Int) := by omega
      have k2 : (j : Int) < (s.size : Int) := by omega
      have HSZ := Lib.hid HS24.out.2
      have k3 : IntKind.i64.wrap ((j : Int) + 1) = ((j + 1 : Nat) : Int) := by have := HSZ.out; rw [IntWalk.i64_in _ ⟨by omega, by omega⟩]; rfl
      clear hlo hdi hF hD hc hbj
      go_wp2_with fail
      refine (HLO2.out _).mono ?_
      rintro e w2 ⟨rfl, hb⟩
      have HB2 := Lib.hid (HBR.out.trans (hb.mono HBR.out.size))
      clear hb
      cases F
      · go_wp2_with fail
        refine (HDI.out _).mono ?_
        rintro e w3 ⟨rfl, hb⟩
        have HB3 := Lib.hid (HB2.out.trans (hb.mono HB2.out.size))
        clear hb
        cases D
        · by_cases h95 : c = 95
          · have HK2 := Lib.hid (show ∀ k, 1 ≤ k → k < j + 1 → nextB (byteI s k) = true from fun k h1 h2 => by
              by_cases h : k = j
              · rw [h, HNX.out, decide_eq_true h95]; rfl
              · exact HK.out k h1 (by omega))
            have t1 : (c != 95) = false := by simp [h95]
            clear h95
            go_wp2_with fail
            go_roundw
            case rel => exact ⟨j + 1, by omega, by omega, by go_num, Lib.hid ⟨HK2.out, HB3.out⟩⟩
            case measure => (simp [intOf]) <;> omega
          · have HY := Lib.hid (name_no hj1 hlt (by rw [HNX.out, decide_eq_false h95]; rfl))
            have t1 : (c != 95) = true := by simpa using h95
            clear h95
            go_wp2_with fail
            go_ret
            exact ⟨by rw [HY.out]; (first | done | rfl), HB3.out⟩
        · have HK2 := Lib.hid (show ∀ k, 1 ≤ k → k < j + 1 → nextB (byteI s k) = true from fun k h1 h2 => by
            by_cases h : k = j
            · rw [h, HNX.out]; rfl
            · exact HK.out k h1 (by omega))
          go_wp2_with fail
          go_roundw
          case rel => exact ⟨j + 1, by omega, by omega, by go_num, Lib.hid ⟨HK2.out, HB3.out⟩⟩
          case measure => (simp [intOf]) <;> omega
      · have HB3 := HB2
        have HK2 := Lib.hid (show ∀ k, 1 ≤ k → k < j + 1 → nextB (byteI s k) = true from fun k h1 h2 => by
          by_cases h : k = j
          · rw [h, HNX.out]; rfl
          · exact HK.out k h1 (by omega))
        go_wp2_with fail
        go_roundw
        case rel => exact ⟨j + 1, by omega, by omega, by go_num, Lib.hid ⟨HK2.out, HB3.out⟩⟩
        case measure => (simp [intOf]) <;> omega
    · obtain rfl : j = s.size := by omega
      have HY := Lib.hid (name_yes HS24.out.1 HS24.out.2 HLOW.out HK.out)
      go_wp2_with fail
      go_ret
      exact ⟨by rw [HY.out]; (first | done | rfl), HBR.out⟩
end Go.Proofs.YtaaaddmdcldclaaGreatDoor
