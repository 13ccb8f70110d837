/- The law FixedRange returns true for every input. Asked: strconv's table reads as laid. -/
import Derived.Test.YtckbfkkohkmcaaaDoorW
namespace Go.Proofs.YtckbfkkohkmcaaaDoor
open Go.RowKit

theorem within_yes (n : Int) (w : World) (h1 : -1000000000000 ≤ n) (h2 : n ≤ 1000000000000) :
    Calls Tryd.prog 17 #[.int .i64 n] w fun e w' => e = .returned (.bool true) ∧ w = w' := by
  have t1 : decide (-1000000000000 ≤ n) = true := decide_eq_true h1
  have t2 : decide (n ≤ 1000000000000) = true := decide_eq_true h2
  clear h1 h2
  go_enter Tryd.func17, Tryd.ntmps17
  go_wp2_with fail
  go_ret
  exact ⟨rfl, rfl⟩
theorem within_low (n : Int) (w : World) (h1 : n < -1000000000000) :
    Calls Tryd.prog 17 #[.int .i64 n] w fun e w' => e = .returned (.bool false) ∧ w = w' := by
  have t1 : decide (-1000000000000 ≤ n) = false := by rw [decide_eq_false_iff_not]; omega
  clear h1
  go_enter Tryd.func17, Tryd.ntmps17
  go_wp2_with fail
  go_ret
  exact ⟨rfl, rfl⟩
theorem within_high (n : Int) (w : World) (h1 : 1000000000000 < n) :
    Calls Tryd.prog 17 #[.int .i64 n] w fun e w' => e = .returned (.bool false) ∧ w = w' := by
  have t1 : decide (-1000000000000 ≤ n) = true := by rw [decide_eq_true_eq]; omega
  have t2 : decide (n ≤ 1000000000000) = false := by rw [decide_eq_false_iff_not]; omega
  clear h1
  go_enter Tryd.func17, Tryd.ntmps17
  go_wp2_with fail
  go_ret
  exact ⟨rfl, rfl⟩

theorem addI_range (a b : Int) : -1000000000000 ≤ addI a b ∧ addI a b ≤ 1000000000000 := clampI_range _
theorem addI_comm (a b : Int) : addI a b = addI b a := by unfold addI; rw [Int.add_comm]
theorem mul_thousand (a : Int) (h1 : -1000000000000 ≤ a) (h2 : a ≤ 1000000000000) : mulDivI a 1000 1000 = a := by
  unfold mulDivI
  rw [clampI_in a h1 h2, clampI_in 1000 (by omega) (by omega)]
  exact quoI_exact a h1 h2

set_option maxRecDepth 100000 in
set_option maxHeartbeats 4000000 in
theorem range_law (a b c : Int) (w : World) (ht : Tab w) :
    Calls Tryd.prog 5 #[.int .i64 a, .int .i64 b, .int .i64 c] w fun e w' => e = .returned (.bool true) ∧ Below w.heap.size w w' := by
  have HW := Lib.hid (awake_any w ht)
  clear ht
  have B0 := Lib.hid (Below.refl w.heap.size w)
  have ra := addI_range a b
  have rm := mulDivI_range a b 1000
  have rd := mulDivI_range a 1000 b
  have rq := mulDivI_range a b c
  have rc := clampI_range a
  obtain ⟨A, hA⟩ : ∃ A, A = addI a b := ⟨_, rfl⟩
  obtain ⟨M, hM⟩ : ∃ M, M = mulDivI a b 1000 := ⟨_, rfl⟩
  obtain ⟨D, hD⟩ : ∃ D, D = mulDivI a 1000 b := ⟨_, rfl⟩
  obtain ⟨Q, hQ⟩ : ∃ Q, Q = mulDivI a b c := ⟨_, rfl⟩
  obtain ⟨C, hC⟩ : ∃ C, C = clampI a := ⟨_, rfl⟩
  have h : ∀ w, Calls Tryd.prog 18 #[.int .i64 a, .int .i64 b] w fun e w' => e = .returned (.int .i64 A) ∧ Below w.heap.size w w' := fun w => by
    have h := add_any a b w
    rw [← hA] at h
    exact h
  have HA1 := Lib.hid h
  clear h
  have h : ∀ w, Calls Tryd.prog 18 #[.int .i64 b, .int .i64 a] w fun e w' => e = .returned (.int .i64 A) ∧ Below w.heap.size w w' := fun w => by
    have h := add_any b a w
    rw [addI_comm b a, ← hA] at h
    exact h
  have HA2 := Lib.hid h
  clear h
  have h : ∀ w, Calls Tryd.prog 19 #[.int .i64 a, .int .i64 b] w fun e w' => e = .returned (.int .i64 M) ∧ Below w.heap.size w w' := fun w => by
    have h := mul_any a b w
    rw [← hM] at h
    exact h
  have HM1 := Lib.hid h
  clear h
  have h : ∀ w, Calls Tryd.prog 19 #[.int .i64 b, .int .i64 a] w fun e w' => e = .returned (.int .i64 M) ∧ Below w.heap.size w w' := fun w => by
    have h := mul_any b a w
    rw [mulDivI_comm b a, ← hM] at h
    exact h
  have HM2 := Lib.hid h
  clear h
  have h : ∀ w, Calls Tryd.prog 19 #[.int .i64 (-a), .int .i64 b] w fun e w' => e = .returned (.int .i64 (-M)) ∧ Below w.heap.size w w' := fun w => by
    have h := mul_any (-a) b w
    rw [mulDivI_neg, ← hM] at h
    exact h
  have HM3 := Lib.hid h
  clear h
  have h : ∀ w, Calls Tryd.prog 20 #[.int .i64 a, .int .i64 b] w fun e w' => e = .returned (.int .i64 D) ∧ Below w.heap.size w w' := fun w => by
    have h := div_any a b w
    rw [← hD] at h
    exact h
  have HD1 := Lib.hid h
  clear h
  have h : ∀ w, Calls Tryd.prog 20 #[.int .i64 (-a), .int .i64 b] w fun e w' => e = .returned (.int .i64 (-D)) ∧ Below w.heap.size w w' := fun w => by
    have h := div_any (-a) b w
    rw [mulDivI_neg, ← hD] at h
    exact h
  have HD2 := Lib.hid h
  clear h
  have h : ∀ w, Calls Tryd.prog 21 #[.int .i64 a, .int .i64 b, .int .i64 c] w fun e w' => e = .returned (.int .i64 Q) ∧ Below w.heap.size w w' := fun w => by
    have h := muldiv_any a b c w
    rw [← hQ] at h
    exact h
  have HQ1 := Lib.hid h
  clear h
  have h : ∀ w, Calls Tryd.prog 21 #[.int .i64 b, .int .i64 a, .int .i64 c] w fun e w' => e = .returned (.int .i64 Q) ∧ Below w.heap.size w w' := fun w => by
    have h := muldiv_any b a c w
    rw [mulDivI_comm b a, ← hQ] at h
    exact h
  have HQ2 := Lib.hid h
  clear h
  have h : ∀ w, Calls Tryd.prog 21 #[.int .i64 (-a), .int .i64 b, .int .i64 c] w fun e w' => e = .returned (.int .i64 (-Q)) ∧ Below w.heap.size w w' := fun w => by
    have h := muldiv_any (-a) b c w
    rw [mulDivI_neg, ← hQ] at h
    exact h
  have HQ3 := Lib.hid h
  clear h
  have h : ∀ w, Calls Tryd.prog 16 #[.int .i64 a] w fun e w' => e = .returned (.int .i64 C) ∧ w = w' := fun w => by
    have h := clamp_any a w
    rw [← hC] at h
    exact h
  have HC1 := Lib.hid h
  clear h
  rw [← hA] at ra
  rw [← hM] at rm
  rw [← hD] at rd
  rw [← hQ] at rq
  rw [← hC] at rc
  have WA := Lib.hid fun w => within_yes A w ra.1 ra.2
  have WM := Lib.hid fun w => within_yes M w rm.1 rm.2
  have WD := Lib.hid fun w => within_yes D w rd.1 rd.2
  have WQ := Lib.hid fun w => within_yes Q w rq.1 rq.2
  have WC := Lib.hid fun w => within_yes C w rc.1 rc.2
  have e2 : wrap64 (-M) = -M := by unfold wrap64; omega
  have e3 : wrap64 (-D) = -D := by unfold wrap64; omega
  have e4 : wrap64 (-Q) = -Q := by unfold wrap64; omega
  clear ra rm rd rq rc hA hM hD hQ hC
  by_cases h1 : -1000000000000 ≤ a
  · by_cases h2 : a ≤ 1000000000000
    · have WI := Lib.hid fun w => within_yes a w h1 h2
      have e1 : wrap64 (-a) = -a := by unfold wrap64; omega
      have ht := mul_thousand a h1 h2
      have h : ∀ w, Calls Tryd.prog 19 #[.int .i64 a, .int .i64 1000] w fun e w' => e = .returned (.int .i64 a) ∧ Below w.heap.size w w' := fun w => by
        have h := mul_any a 1000 w
        rw [ht] at h
        exact h
      have HM4 := Lib.hid h
      clear h
      have h : ∀ w, Calls Tryd.prog 20 #[.int .i64 a, .int .i64 1000] w fun e w' => e = .returned (.int .i64 a) ∧ Below w.heap.size w w' := fun w => by
        have h := div_any a 1000 w
        rw [ht] at h
        exact h
      have HD4 := Lib.hid h
      clear h
      clear h1 h2 ht
      go_enter Tryd.func5, Tryd.ntmps5
      go_wp2_with fail
      refine HW.out.mono ?_
      rintro e w1 ⟨rfl, hb⟩
      have B1 := Lib.hid (B0.out.trans (hb.mono B0.out.size))
      clear hb
      go_wp2_with fail
      refine (HA1.out _).mono ?_
      rintro e w2 ⟨rfl, hb⟩
      have B2 := Lib.hid (B1.out.trans (hb.mono B1.out.size))
      clear hb
      go_wp2_with fail
      refine (WA.out _).mono ?_
      rintro e w' ⟨rfl, rfl⟩
      go_wp2_with fail
      refine (HM1.out _).mono ?_
      rintro e w3 ⟨rfl, hb⟩
      have B3 := Lib.hid (B2.out.trans (hb.mono B2.out.size))
      clear hb
      go_wp2_with fail
      refine (WM.out _).mono ?_
      rintro e w' ⟨rfl, rfl⟩
      go_wp2_with fail
      refine (HD1.out _).mono ?_
      rintro e w4 ⟨rfl, hb⟩
      have B4 := Lib.hid (B3.out.trans (hb.mono B3.out.size))
      clear hb
      go_wp2_with fail
      refine (WD.out _).mono ?_
      rintro e w' ⟨rfl, rfl⟩
      go_wp2_with fail
      refine (HQ1.out _).mono ?_
      rintro e w5 ⟨rfl, hb⟩
      have B5 := Lib.hid (B4.out.trans (hb.mono B4.out.size))
      clear hb
      go_wp2_with fail
      refine (WQ.out _).mono ?_
      rintro e w' ⟨rfl, rfl⟩
      go_wp2_with fail
      refine (HC1.out _).mono ?_
      rintro e w' ⟨rfl, rfl⟩
      go_wp2_with fail
      refine (WC.out _).mono ?_
      rintro e w' ⟨rfl, rfl⟩
      go_wp2_with fail
      refine (HA1.out _).mono ?_
      rintro e w6 ⟨rfl, hb⟩
      have B6 := Lib.hid (B5.out.trans (hb.mono B5.out.size))
      clear hb
      go_wp2_with fail
      refine (HA2.out _).mono ?_
      rintro e w7 ⟨rfl, hb⟩
      have B7 := Lib.hid (B6.out.trans (hb.mono B6.out.size))
      clear hb
      go_wp2_with fail
      refine (HM1.out _).mono ?_
      rintro e w8 ⟨rfl, hb⟩
      have B8 := Lib.hid (B7.out.trans (hb.mono B7.out.size))
      clear hb
      go_wp2_with fail
      refine (HM2.out _).mono ?_
      rintro e w9 ⟨rfl, hb⟩
      have B9 := Lib.hid (B8.out.trans (hb.mono B8.out.size))
      clear hb
      go_wp2_with fail
      refine (HQ1.out _).mono ?_
      rintro e w10 ⟨rfl, hb⟩
      have B10 := Lib.hid (B9.out.trans (hb.mono B9.out.size))
      clear hb
      go_wp2_with fail
      refine (HQ2.out _).mono ?_
      rintro e w11 ⟨rfl, hb⟩
      have B11 := Lib.hid (B10.out.trans (hb.mono B10.out.size))
      clear hb
      go_wp2_with fail
      refine (WI.out _).mono ?_
      rintro e w' ⟨rfl, rfl⟩
      go_wp2_with fail
      refine (HM3.out _).mono ?_
      rintro e w12 ⟨rfl, hb⟩
      have B12 := Lib.hid (B11.out.trans (hb.mono B11.out.size))
      clear hb
      go_wp2_with fail
      refine (HM1.out _).mono ?_
      rintro e w13 ⟨rfl, hb⟩
      have B13 := Lib.hid (B12.out.trans (hb.mono B12.out.size))
      clear hb
      go_wp2_with fail
      refine (HD2.out _).mono ?_
      rintro e w14 ⟨rfl, hb⟩
      have B14 := Lib.hid (B13.out.trans (hb.mono B13.out.size))
      clear hb
      go_wp2_with fail
      refine (HD1.out _).mono ?_
      rintro e w15 ⟨rfl, hb⟩
      have B15 := Lib.hid (B14.out.trans (hb.mono B14.out.size))
      clear hb
      go_wp2_with fail
      refine (HQ3.out _).mono ?_
      rintro e w16 ⟨rfl, hb⟩
      have B16 := Lib.hid (B15.out.trans (hb.mono B15.out.size))
      clear hb
      go_wp2_with fail
      refine (HQ1.out _).mono ?_
      rintro e w17 ⟨rfl, hb⟩
      have B17 := Lib.hid (B16.out.trans (hb.mono B16.out.size))
      clear hb
      go_wp2_with fail
      refine (HM4.out _).mono ?_
      rintro e w18 ⟨rfl, hb⟩
      have B18 := Lib.hid (B17.out.trans (hb.mono B17.out.size))
      clear hb
      go_wp2_with fail
      refine (HD4.out _).mono ?_
      rintro e w19 ⟨rfl, hb⟩
      have B19 := Lib.hid (B18.out.trans (hb.mono B18.out.size))
      clear hb
      go_wp2_with fail
      go_ret
      exact ⟨rfl, B19.out⟩
    · have WI := Lib.hid fun w => within_high a w (by omega)
      clear h1 h2
      go_enter Tryd.func5, Tryd.ntmps5
      go_wp2_with fail
      refine HW.out.mono ?_
      rintro e w1 ⟨rfl, hb⟩
      have B1 := Lib.hid (B0.out.trans (hb.mono B0.out.size))
      clear hb
      go_wp2_with fail
      refine (HA1.out _).mono ?_
      rintro e w2 ⟨rfl, hb⟩
      have B2 := Lib.hid (B1.out.trans (hb.mono B1.out.size))
      clear hb
      go_wp2_with fail
      refine (WA.out _).mono ?_
      rintro e w' ⟨rfl, rfl⟩
      go_wp2_with fail
      refine (HM1.out _).mono ?_
      rintro e w3 ⟨rfl, hb⟩
      have B3 := Lib.hid (B2.out.trans (hb.mono B2.out.size))
      clear hb
      go_wp2_with fail
      refine (WM.out _).mono ?_
      rintro e w' ⟨rfl, rfl⟩
      go_wp2_with fail
      refine (HD1.out _).mono ?_
      rintro e w4 ⟨rfl, hb⟩
      have B4 := Lib.hid (B3.out.trans (hb.mono B3.out.size))
      clear hb
      go_wp2_with fail
      refine (WD.out _).mono ?_
      rintro e w' ⟨rfl, rfl⟩
      go_wp2_with fail
      refine (HQ1.out _).mono ?_
      rintro e w5 ⟨rfl, hb⟩
      have B5 := Lib.hid (B4.out.trans (hb.mono B4.out.size))
      clear hb
      go_wp2_with fail
      refine (WQ.out _).mono ?_
      rintro e w' ⟨rfl, rfl⟩
      go_wp2_with fail
      refine (HC1.out _).mono ?_
      rintro e w' ⟨rfl, rfl⟩
      go_wp2_with fail
      refine (WC.out _).mono ?_
      rintro e w' ⟨rfl, rfl⟩
      go_wp2_with fail
      refine (HA1.out _).mono ?_
      rintro e w6 ⟨rfl, hb⟩
      have B6 := Lib.hid (B5.out.trans (hb.mono B5.out.size))
      clear hb
      go_wp2_with fail
      refine (HA2.out _).mono ?_
      rintro e w7 ⟨rfl, hb⟩
      have B7 := Lib.hid (B6.out.trans (hb.mono B6.out.size))
      clear hb
      go_wp2_with fail
      refine (HM1.out _).mono ?_
      rintro e w8 ⟨rfl, hb⟩
      have B8 := Lib.hid (B7.out.trans (hb.mono B7.out.size))
      clear hb
      go_wp2_with fail
      refine (HM2.out _).mono ?_
      rintro e w9 ⟨rfl, hb⟩
      have B9 := Lib.hid (B8.out.trans (hb.mono B8.out.size))
      clear hb
      go_wp2_with fail
      refine (HQ1.out _).mono ?_
      rintro e w10 ⟨rfl, hb⟩
      have B10 := Lib.hid (B9.out.trans (hb.mono B9.out.size))
      clear hb
      go_wp2_with fail
      refine (HQ2.out _).mono ?_
      rintro e w11 ⟨rfl, hb⟩
      have B11 := Lib.hid (B10.out.trans (hb.mono B10.out.size))
      clear hb
      go_wp2_with fail
      refine (WI.out _).mono ?_
      rintro e w' ⟨rfl, rfl⟩
      go_wp2_with fail
      go_ret
      exact ⟨rfl, B11.out⟩
  · have WI := Lib.hid fun w => within_low a w (by omega)
    clear h1
    go_enter Tryd.func5, Tryd.ntmps5
    go_wp2_with fail
    refine HW.out.mono ?_
    rintro e w1 ⟨rfl, hb⟩
    have B1 := Lib.hid (B0.out.trans (hb.mono B0.out.size))
    clear hb
    go_wp2_with fail
    refine (HA1.out _).mono ?_
    rintro e w2 ⟨rfl, hb⟩
    have B2 := Lib.hid (B1.out.trans (hb.mono B1.out.size))
    clear hb
    go_wp2_with fail
    refine (WA.out _).mono ?_
    rintro e w' ⟨rfl, rfl⟩
    go_wp2_with fail
    refine (HM1.out _).mono ?_
    rintro e w3 ⟨rfl, hb⟩
    have B3 := Lib.hid (B2.out.trans (hb.mono B2.out.size))
    clear hb
    go_wp2_with fail
    refine (WM.out _).mono ?_
    rintro e w' ⟨rfl, rfl⟩
    go_wp2_with fail
    refine (HD1.out _).mono ?_
    rintro e w4 ⟨rfl, hb⟩
    have B4 := Lib.hid (B3.out.trans (hb.mono B3.out.size))
    clear hb
    go_wp2_with fail
    refine (WD.out _).mono ?_
    rintro e w' ⟨rfl, rfl⟩
    go_wp2_with fail
    refine (HQ1.out _).mono ?_
    rintro e w5 ⟨rfl, hb⟩
    have B5 := Lib.hid (B4.out.trans (hb.mono B4.out.size))
    clear hb
    go_wp2_with fail
    refine (WQ.out _).mono ?_
    rintro e w' ⟨rfl, rfl⟩
    go_wp2_with fail
    refine (HC1.out _).mono ?_
    rintro e w' ⟨rfl, rfl⟩
    go_wp2_with fail
    refine (WC.out _).mono ?_
    rintro e w' ⟨rfl, rfl⟩
    go_wp2_with fail
    refine (HA1.out _).mono ?_
    rintro e w6 ⟨rfl, hb⟩
    have B6 := Lib.hid (B5.out.trans (hb.mono B5.out.size))
    clear hb
    go_wp2_with fail
    refine (HA2.out _).mono ?_
    rintro e w7 ⟨rfl, hb⟩
    have B7 := Lib.hid (B6.out.trans (hb.mono B6.out.size))
    clear hb
    go_wp2_with fail
    refine (HM1.out _).mono ?_
    rintro e w8 ⟨rfl, hb⟩
    have B8 := Lib.hid (B7.out.trans (hb.mono B7.out.size))
    clear hb
    go_wp2_with fail
    refine (HM2.out _).mono ?_
    rintro e w9 ⟨rfl, hb⟩
    have B9 := Lib.hid (B8.out.trans (hb.mono B8.out.size))
    clear hb
    go_wp2_with fail
    refine (HQ1.out _).mono ?_
    rintro e w10 ⟨rfl, hb⟩
    have B10 := Lib.hid (B9.out.trans (hb.mono B9.out.size))
    clear hb
    go_wp2_with fail
    refine (HQ2.out _).mono ?_
    rintro e w11 ⟨rfl, hb⟩
    have B11 := Lib.hid (B10.out.trans (hb.mono B10.out.size))
    clear hb
    go_wp2_with fail
    refine (WI.out _).mono ?_
    rintro e w' ⟨rfl, rfl⟩
    go_wp2_with fail
    go_ret
    exact ⟨rfl, B11.out⟩
end Go.Proofs.YtckbfkkohkmcaaaDoor
