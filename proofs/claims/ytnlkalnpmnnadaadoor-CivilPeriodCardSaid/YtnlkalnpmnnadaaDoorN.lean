/- The laws CivilInstants and CivilPeriod return true for every input. Asked: the tables read as laid. -/
import Derived.Test.YtnlkalnpmnnadaaDoorM
namespace Go.Proofs.YtnlkalnpmnnadaaDoor
open Go.RowKit

set_option maxRecDepth 100000 in
set_option maxHeartbeats 4000000 in
theorem instants_yes (day minute instant : Int) (w : World) (hg : Gl w) (hi : 0 ≤ instant ∧ instant ≤ 6311433599) :
    Calls Tryd.prog 6 #[.int .i64 day, .int .i64 minute, .int .i64 instant] w fun e w' => e = .returned (.bool true) ∧ Below w.heap.size w w' := by
    have HW := Lib.hid (awake_any w hg)
    clear hg
    have hA := fun w => at_any day minute w
    have hS := fun w => split_yes instant w hi.1 hi.2
    obtain ⟨d, hd⟩ : ∃ d, d = instant / 86400 := ⟨_, rfl⟩
    obtain ⟨m, hm⟩ : ∃ m, m = instant % 86400 / 60 := ⟨_, rfl⟩
    obtain ⟨s, hs⟩ : ∃ s, s = instant % 86400 % 60 := ⟨_, rfl⟩
    rw [← hd, ← hm, ← hs] at hS
    have hd1 : 0 ≤ d ∧ d ≤ 73048 := by omega
    have hm1 : 0 ≤ m ∧ m < 1440 := by omega
    have hs1 : 0 ≤ s ∧ s < 60 := by omega
    have hB := fun w => at_any d m w
    rw [if_pos hd1, if_pos hm1] at hB
    obtain ⟨V, hV⟩ : ∃ V, V = d * 86400 + m * 60 := ⟨_, rfl⟩
    rw [← hV] at hB
    have hVs : V + s = instant := by omega
    have hV1 : 0 ≤ V ∧ V ≤ 6311433599 := by omega
    have f1 : ((V + s) == instant) = true := by rw [beq_iff_eq]; exact hVs
    have HS := Lib.hid hS
    have HB := Lib.hid hB
    obtain ⟨i1, i2⟩ := hi
    clear hS hB hd hm hs hd1 hm1 hV hVs
    by_cases h1 : 0 ≤ day ∧ day ≤ 73048
    · rw [if_pos h1] at hA
      by_cases h2 : 0 ≤ minute ∧ minute < 1440
      · rw [if_pos h2] at hA
        obtain ⟨A, hAA⟩ : ∃ A, A = day * 86400 + minute * 60 := ⟨_, rfl⟩
        rw [← hAA] at hA
        have f2 : (A != day * 86400 + 60 * minute) = false := by rw [bne_eq_false_iff_eq]; omega
        have HA := Lib.hid hA
        obtain ⟨h3, h4⟩ := h1
        obtain ⟨h5, h6⟩ := h2
        clear hA hAA
        go_enter Tryd.func6, Tryd.ntmps6
        go_wp2_with fail
        refine HW.out.mono ?_
        rintro e w1 ⟨rfl, hb1⟩
        have B1 := Lib.hid hb1
        clear hb1
        go_wp2_with fail
        refine (HA.out _).mono ?_
        rintro e w' ⟨rfl, rfl⟩
        go_wp2_with fail
        refine (HS.out _).mono ?_
        rintro e w' ⟨rfl, rfl⟩
        go_wp2_with fail
        refine (HB.out _).mono ?_
        rintro e w' ⟨rfl, rfl⟩
        go_wp2_with fail
        go_ret
        exact ⟨rfl, B1.out⟩
      · rw [if_neg h2] at hA
        have HA := Lib.hid hA
        obtain ⟨h3, h4⟩ := h1
        clear hA
        rcases (by omega : minute < 0 ∨ (¬ minute < 0 ∧ 1440 ≤ minute)) with h5 | ⟨h5, h6⟩
        all_goals
          clear h2
          go_enter Tryd.func6, Tryd.ntmps6
          go_wp2_with fail
          refine HW.out.mono ?_
          rintro e w1 ⟨rfl, hb1⟩
          have B1 := Lib.hid hb1
          clear hb1
          go_wp2_with fail
          refine (HA.out _).mono ?_
          rintro e w' ⟨rfl, rfl⟩
          go_wp2_with fail
          refine (HS.out _).mono ?_
          rintro e w' ⟨rfl, rfl⟩
          go_wp2_with fail
          refine (HB.out _).mono ?_
          rintro e w' ⟨rfl, rfl⟩
          go_wp2_with fail
          go_ret
          exact ⟨rfl, B1.out⟩
    · rw [if_neg h1] at hA
      have HA := Lib.hid hA
      clear hA
      rcases (by omega : day < 0 ∨ (¬ day < 0 ∧ 73048 < day)) with h5 | ⟨h5, h6⟩
      all_goals
        clear h1
        go_enter Tryd.func6, Tryd.ntmps6
        go_wp2_with fail
        refine HW.out.mono ?_
        rintro e w1 ⟨rfl, hb1⟩
        have B1 := Lib.hid hb1
        clear hb1
        go_wp2_with fail
        refine (HA.out _).mono ?_
        rintro e w' ⟨rfl, rfl⟩
        go_wp2_with fail
        refine (HS.out _).mono ?_
        rintro e w' ⟨rfl, rfl⟩
        go_wp2_with fail
        refine (HB.out _).mono ?_
        rintro e w' ⟨rfl, rfl⟩
        go_wp2_with fail
        go_ret
        exact ⟨rfl, B1.out⟩

set_option maxRecDepth 100000 in
set_option maxHeartbeats 4000000 in
theorem instants_no (day minute instant : Int) (w : World) (hg : Gl w) (hi : instant < 0 ∨ (¬ instant < 0 ∧ 6311433599 < instant)) :
    Calls Tryd.prog 6 #[.int .i64 day, .int .i64 minute, .int .i64 instant] w fun e w' => e = .returned (.bool true) ∧ Below w.heap.size w w' := by
  have HW := Lib.hid (awake_any w hg)
  clear hg
  have hA := fun w => at_any day minute w
  have hS := fun w => split_no instant w (by omega)
  have HS := Lib.hid hS
  clear hS
  rcases hi with hi | ⟨hi1, hi2⟩
  all_goals
    by_cases h1 : 0 ≤ day ∧ day ≤ 73048
    · rw [if_pos h1] at hA
      by_cases h2 : 0 ≤ minute ∧ minute < 1440
      · rw [if_pos h2] at hA
        obtain ⟨A, hAA⟩ : ∃ A, A = day * 86400 + minute * 60 := ⟨_, rfl⟩
        rw [← hAA] at hA
        have f2 : (A != day * 86400 + 60 * minute) = false := by rw [bne_eq_false_iff_eq]; omega
        have HA := Lib.hid hA
        obtain ⟨h3, h4⟩ := h1
        obtain ⟨h5, h6⟩ := h2
        clear hA hAA
        go_enter Tryd.func6, Tryd.ntmps6
        go_wp2_with fail
        refine HW.out.mono ?_
        rintro e w1 ⟨rfl, hb1⟩
        have B1 := Lib.hid hb1
        clear hb1
        go_wp2_with fail
        refine (HA.out _).mono ?_
        rintro e w' ⟨rfl, rfl⟩
        go_wp2_with fail
        refine (HS.out _).mono ?_
        rintro e w' ⟨rfl, rfl⟩
        go_wp2_with fail
        go_ret
        exact ⟨rfl, B1.out⟩
      · rw [if_neg h2] at hA
        have HA := Lib.hid hA
        obtain ⟨h3, h4⟩ := h1
        clear hA
        rcases (by omega : minute < 0 ∨ (¬ minute < 0 ∧ 1440 ≤ minute)) with h5 | ⟨h5, h6⟩
        all_goals
          clear h2
          go_enter Tryd.func6, Tryd.ntmps6
          go_wp2_with fail
          refine HW.out.mono ?_
          rintro e w1 ⟨rfl, hb1⟩
          have B1 := Lib.hid hb1
          clear hb1
          go_wp2_with fail
          refine (HA.out _).mono ?_
          rintro e w' ⟨rfl, rfl⟩
          go_wp2_with fail
          refine (HS.out _).mono ?_
          rintro e w' ⟨rfl, rfl⟩
          go_wp2_with fail
          go_ret
          exact ⟨rfl, B1.out⟩
    · rw [if_neg h1] at hA
      have HA := Lib.hid hA
      clear hA
      rcases (by omega : day < 0 ∨ (¬ day < 0 ∧ 73048 < day)) with h5 | ⟨h5, h6⟩
      all_goals
        clear h1
        go_enter Tryd.func6, Tryd.ntmps6
        go_wp2_with fail
        refine HW.out.mono ?_
        rintro e w1 ⟨rfl, hb1⟩
        have B1 := Lib.hid hb1
        clear hb1
        go_wp2_with fail
        refine (HA.out _).mono ?_
        rintro e w' ⟨rfl, rfl⟩
        go_wp2_with fail
        refine (HS.out _).mono ?_
        rintro e w' ⟨rfl, rfl⟩
        go_wp2_with fail
        go_ret
        exact ⟨rfl, B1.out⟩

theorem instants_law (day minute instant : Int) (w : World) (hg : Gl w) :
    Calls Tryd.prog 6 #[.int .i64 day, .int .i64 minute, .int .i64 instant] w fun e w' => e = .returned (.bool true) ∧ Below w.heap.size w w' := by
  by_cases hi : 0 ≤ instant ∧ instant ≤ 6311433599
  · exact instants_yes day minute instant w hg hi
  · exact instants_no day minute instant w hg (by omega)

/-- the days of the first months -/
theorem bef_sum (y m : Int) (h1 : 1 ≤ m) (h2 : m ≤ 12) : bef y m + dim y m = bef y (m + 1) := (bef_succ y m h1 h2).symm
theorem leap400 (y : Int) : leapB (y + 400) = leapB y := by
  rw [Bool.eq_iff_iff, leapB_iff, leapB_iff]; omega

set_option maxRecDepth 100000 in
set_option maxHeartbeats 4000000 in
theorem period_law (y : Int) (w : World) (hg : Gl w) :
    Calls Tryd.prog 10 #[.int .i64 y] w fun e w' => e = .returned (.bool true) ∧ Below w.heap.size w w' := by
  have HW := Lib.hid (awake_any w hg)
  have HG := Lib.hid hg
  clear hg
  rcases (by omega : y < -1000000 ∨ (¬ y < -1000000 ∧ 1000000 < y) ∨ (-1000000 ≤ y ∧ y ≤ 1000000)) with h | ⟨h1, h⟩ | ⟨h1, h2⟩
  · go_enter Tryd.func10, Tryd.ntmps10
    go_wp2_with fail
    refine HW.out.mono ?_
    rintro e w1 ⟨rfl, hb1⟩
    have B1 := Lib.hid hb1
    clear hb1
    go_wp2_with fail
    go_ret
    exact ⟨rfl, B1.out⟩
  · go_enter Tryd.func10, Tryd.ntmps10
    go_wp2_with fail
    refine HW.out.mono ?_
    rintro e w1 ⟨rfl, hb1⟩
    have B1 := Lib.hid hb1
    clear hb1
    go_wp2_with fail
    go_ret
    exact ⟨rfl, B1.out⟩
  · have HI := Lib.hid fun m w (h : BefT w) => daysIn_any y m w h
    go_enter Tryd.func10, Tryd.ntmps10
    go_wp2_with fail
    refine HW.out.mono ?_
    rintro e w1 ⟨rfl, hb1⟩
    have B1 := Lib.hid hb1
    clear hb1
    go_wp2_with fail
    go_loop [3, 4] (fun n i => ∃ m : Int, 1 ≤ m ∧ m ≤ 13 ∧ i = .int .i64 m ∧ n = .int .i64 (bef y m)) (fun _ i => (14 - intOf i).toNat)
    case atStart => exact ⟨1, by omega, by omega, rfl, by rw [bef_one]⟩
    case round =>
      obtain ⟨m, m1, m2, rfl, rfl⟩ := hrel
      by_cases hlt : m ≤ 12
      · have hs := bef_succ y m m1 hlt
        have hr := bef_range y m m1 (by omega)
        have hd := dim_range y m m1 hlt
        have HIm := Lib.hid fun w (h : BefT w) => HI.out m w h
        obtain ⟨a, ha⟩ : ∃ a, a = bef y m := ⟨_, rfl⟩
        obtain ⟨b, hb⟩ : ∃ a, a = dim y m := ⟨_, rfl⟩
        rw [← ha, ← hb] at hs
        rw [← ha] at hr ⊢
        rw [← hb] at HIm hd
        have HS := Lib.hid hs
        clear ha hb hs
        go_wp2_with fail
        refine (HIm.out _ (HG.out.below B1.out).bef).mono ?_
        rintro e w' ⟨rfl, rfl⟩
        go_wp2_with fail
        go_round
        case rel => exact ⟨m + 1, by omega, by omega, rfl, by rw [HS.out]⟩
        case measure => simp [intOf]; omega
      · obtain rfl : m = 13 := by omega
        rw [bef_13]
        have hL := fun w => leap_any y w
        have hL4 := fun w => leap_any (y + 400) w
        rw [leap400] at hL4
        have e12 : bef y 12 = 334 + lp y := rfl
        have n12 : numD y 12 31 = nY y + (334 + lp y) + 31 - 1 := by unfold numD; rw [e12]
        have n1 : numD y 1 1 = nY y := by unfold numD; rw [bef_one]; omega
        by_cases hy : 2000 ≤ y ∧ y ≤ 2199
        · have i1 : IsD y 1 1 := ⟨hy.1, hy.2, by omega, by omega, by omega, by have := dim_range y 1 (by omega) (by omega); omega⟩
          have i12 : IsD y 12 31 := ⟨hy.1, hy.2, by omega, by omega, by omega, by show (31 : Int) ≤ dim y 12; rw [show dim y 12 = 31 by rfl]; omega⟩
          have hA := fun w h => day_yes y 1 1 w h i1
          have hB := fun w h => day_yes y 12 31 w h i12
          rw [n1] at hA
          rw [n12] at hB
          have hr := nY_range y (by omega) (by omega)
          obtain ⟨a, ha⟩ : ∃ a, a = nY y := ⟨_, rfl⟩
          rw [← ha] at hA hB hr
          clear hy i1 i12 n1 n12 e12 ha hlt
          cases hl : leapB y
          · rw [hl] at hL hL4
            rw [lp_false hl] at hB ⊢
            have HL := Lib.hid hL
            have HL4 := Lib.hid hL4
            have HA := Lib.hid hA
            have HB := Lib.hid hB
            clear hL hL4 hA hB hl
            go_wp2_with fail
            refine (HL.out _).mono ?_
            rintro e w' ⟨rfl, rfl⟩
            go_wp2_with fail
            refine (HL4.out _).mono ?_
            rintro e w' ⟨rfl, rfl⟩
            go_wp2_with fail
            refine (HL.out _).mono ?_
            rintro e w' ⟨rfl, rfl⟩
            go_wp2_with fail
            refine (HA.out _ (HG.out.below B1.out).bef).mono ?_
            rintro e w2 ⟨rfl, hb2⟩
            have B2 := Lib.hid (B1.out.trans (hb2.mono B1.out.size))
            clear hb2
            go_wp2_with fail
            refine (HB.out _ (HG.out.below B2.out).bef).mono ?_
            rintro e w3 ⟨rfl, hb3⟩
            have B3 := Lib.hid (B2.out.trans (hb3.mono B2.out.size))
            clear hb3
            go_wp2_with fail
            go_ret
            first | exact ⟨rfl, B3.out⟩ | exact ⟨congrArg (fun b => Ending.returned (Value.bool b)) (beq_iff_eq.2 (by omega)), B3.out⟩
          · rw [hl] at hL hL4
            rw [lp_true hl] at hB ⊢
            have HL := Lib.hid hL
            have HL4 := Lib.hid hL4
            have HA := Lib.hid hA
            have HB := Lib.hid hB
            clear hL hL4 hA hB hl
            go_wp2_with fail
            refine (HL.out _).mono ?_
            rintro e w' ⟨rfl, rfl⟩
            go_wp2_with fail
            refine (HL4.out _).mono ?_
            rintro e w' ⟨rfl, rfl⟩
            go_wp2_with fail
            refine (HL.out _).mono ?_
            rintro e w' ⟨rfl, rfl⟩
            go_wp2_with fail
            refine (HA.out _ (HG.out.below B1.out).bef).mono ?_
            rintro e w2 ⟨rfl, hb2⟩
            have B2 := Lib.hid (B1.out.trans (hb2.mono B1.out.size))
            clear hb2
            go_wp2_with fail
            refine (HB.out _ (HG.out.below B2.out).bef).mono ?_
            rintro e w3 ⟨rfl, hb3⟩
            have B3 := Lib.hid (B2.out.trans (hb3.mono B2.out.size))
            clear hb3
            go_wp2_with fail
            go_ret
            first | exact ⟨rfl, B3.out⟩ | exact ⟨congrArg (fun b => Ending.returned (Value.bool b)) (beq_iff_eq.2 (by omega)), B3.out⟩
        · have hc1 : checkI y 1 1 = 1 := by unfold checkI; rw [if_neg hy]
          have hc2 : checkI y 12 31 = 1 := by unfold checkI; rw [if_neg hy]
          have hA := fun w h => day_no y 1 1 w h (by rw [hc1]; decide)
          have hB := fun w h => day_no y 12 31 w h (by rw [hc2]; decide)
          rw [hc1] at hA
          rw [hc2] at hB
          clear hy hc1 hc2 n1 n12 e12 hlt
          cases hl : leapB y
          · rw [hl] at hL hL4
            rw [lp_false hl]
            have HL := Lib.hid hL
            have HL4 := Lib.hid hL4
            have HA := Lib.hid hA
            have HB := Lib.hid hB
            clear hL hL4 hA hB hl
            go_wp2_with fail
            refine (HL.out _).mono ?_
            rintro e w' ⟨rfl, rfl⟩
            go_wp2_with fail
            refine (HL4.out _).mono ?_
            rintro e w' ⟨rfl, rfl⟩
            go_wp2_with fail
            refine (HL.out _).mono ?_
            rintro e w' ⟨rfl, rfl⟩
            go_wp2_with fail
            refine (HA.out _ (HG.out.below B1.out).bef).mono ?_
            rintro e w2 ⟨rfl, hb2⟩
            have B2 := Lib.hid (B1.out.trans (hb2.mono B1.out.size))
            clear hb2
            go_wp2_with fail
            refine (HB.out _ (HG.out.below B2.out).bef).mono ?_
            rintro e w3 ⟨rfl, hb3⟩
            have B3 := Lib.hid (B2.out.trans (hb3.mono B2.out.size))
            clear hb3
            go_wp2_with fail
            go_ret
            first | exact ⟨rfl, B3.out⟩ | exact ⟨congrArg (fun b => Ending.returned (Value.bool b)) (beq_iff_eq.2 (by omega)), B3.out⟩
          · rw [hl] at hL hL4
            rw [lp_true hl]
            have HL := Lib.hid hL
            have HL4 := Lib.hid hL4
            have HA := Lib.hid hA
            have HB := Lib.hid hB
            clear hL hL4 hA hB hl
            go_wp2_with fail
            refine (HL.out _).mono ?_
            rintro e w' ⟨rfl, rfl⟩
            go_wp2_with fail
            refine (HL4.out _).mono ?_
            rintro e w' ⟨rfl, rfl⟩
            go_wp2_with fail
            refine (HL.out _).mono ?_
            rintro e w' ⟨rfl, rfl⟩
            go_wp2_with fail
            refine (HA.out _ (HG.out.below B1.out).bef).mono ?_
            rintro e w2 ⟨rfl, hb2⟩
            have B2 := Lib.hid (B1.out.trans (hb2.mono B1.out.size))
            clear hb2
            go_wp2_with fail
            refine (HB.out _ (HG.out.below B2.out).bef).mono ?_
            rintro e w3 ⟨rfl, hb3⟩
            have B3 := Lib.hid (B2.out.trans (hb3.mono B2.out.size))
            clear hb3
            go_wp2_with fail
            go_ret
            first | exact ⟨rfl, B3.out⟩ | exact ⟨congrArg (fun b => Ending.returned (Value.bool b)) (beq_iff_eq.2 (by omega)), B3.out⟩
end Go.Proofs.YtnlkalnpmnnadaaDoor
