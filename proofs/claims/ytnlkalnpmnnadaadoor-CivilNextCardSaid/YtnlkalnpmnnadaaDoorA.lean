/- Contracts of civil's functions of years and months, and of the specification's. Asked: the table of the days before each month, where it is read. -/
import Derived.Test.YtnlkalnpmnnadaaDoorProg
import Derived.Test.YtnlkalnpmnnadaaDoorK
import Derived.WalkKit
import Derived.WalkSpells
import Derived.WalkLawsBesides
import Derived.Handy
import Derived.Below
import Derived.LoopTactic
import Derived.Deep.QuietTactic
import Derived.Deep.RegionWith
import Derived.BigQuiet
import Derived.RegionTactic
import Derived.ChangeAlike
import Derived.Lib.SmallJoins
import Derived.Lib.Hide
namespace Go.Proofs.YtnlkalnpmnnadaaDoor
open Go.RowKit

theorem ret_int {k : IntKind} {a b : Int} (h : a = b) : Ending.returned (.int k a) = .returned (.int k b) := by rw [h]
theorem below_drewN (B : Nat) (w : World) (n : Nat) : Below B w (w.drewN n) := ⟨rfl, rfl, rfl, Nat.le_refl _, fun _ _ => rfl⟩

/-- the table reads as laid -/
def BefT (w : World) : Prop := Lib.TabIs Tryd.prog w "plenum/civil.before" .i64 befTab
theorem BefT.below {w w' : World} (h : BefT w) (hb : Below w.heap.size w w') : BefT w' := Go.Joins.tab_stays (g := 0) (by kernel_rfl) h hb (Nat.le_refl _)
theorem BefT.at {w : World} (h : BefT w) (m : Int) (h1 : 1 ≤ m) (h2 : m ≤ 13) : w.cell? ⟨0, m.toNat - 1, none⟩ = some (.int .i64 (bef0 m)) := by
  have h3 := Lib.TabIs.cell (g := 0) h (by kernel_rfl) (m.toNat - 1) (by show m.toNat - 1 < 13; omega)
  rw [h3]; unfold bef0; rw [show (m - 1).toNat = m.toNat - 1 by omega]

set_option maxHeartbeats 400000 in
theorem leap_any (y : Int) (w : World) :
    Calls Tryd.prog 12 #[.int .i64 y] w fun e w' => e = .returned (.bool (leapB y)) ∧ w = w' := by
  unfold leapB
  go_enter Tryd.func12, Tryd.ntmps12
  go_wp2
  all_goals
    go_ret
    exact ⟨by simp_all, rfl⟩
set_option maxHeartbeats 400000 in
theorem rleap_any (y : Int) (w : World) :
    Calls Tryd.prog 13 #[.int .i64 y] w fun e w' => e = .returned (.bool (leapB y)) ∧ w = w' := by
  unfold leapB
  go_enter Tryd.func13, Tryd.ntmps13
  go_wp2
  all_goals
    go_ret
    exact ⟨by simp_all, rfl⟩
theorem lp_true {y : Int} (h : leapB y = true) : lp y = 1 := by unfold lp; rw [if_pos h]
theorem lp_false {y : Int} (h : leapB y = false) : lp y = 0 := by unfold lp; rw [h]; rfl

set_option maxHeartbeats 400000 in
theorem daysBefore_any (y m : Int) (w : World) (h1 : 1 ≤ m) (h2 : m ≤ 13) (hT : BefT w) :
    Calls Tryd.prog 38 #[.int .i64 y, .int .i64 m] w fun e w' => e = .returned (.int .i64 (bef y m)) ∧ w = w' := by
  have hc := hT.at m h1 h2
  have hr := bef0_range m h1 h2
  have hb : bef y m = bef0 m + if 2 < m then lp y else 0 := rfl
  obtain ⟨z, hz⟩ : ∃ z, z = bef0 m := ⟨_, rfl⟩
  rw [← hz] at hc hr hb
  have HT := Lib.hid hT
  have HB := Lib.hid hb
  clear hT hz hb
  have HL := Lib.hid fun w => leap_any y w
  by_cases h3 : 2 < m
  · cases hl : leapB y
    · have HL2 := Lib.hid (lp_false hl)
      rw [hl] at HL
      clear hl
      go_enter Tryd.func38, Tryd.ntmps38
      go_wp2_with fail
      refine (HL.out _).mono ?_
      rintro e w' ⟨rfl, rfl⟩
      go_wp2_with fail
      go_ret
      exact ⟨ret_int (by rw [HB.out, if_pos h3, HL2.out]; omega), rfl⟩
    · have HL2 := Lib.hid (lp_true hl)
      rw [hl] at HL
      clear hl
      go_enter Tryd.func38, Tryd.ntmps38
      go_wp2_with fail
      refine (HL.out _).mono ?_
      rintro e w' ⟨rfl, rfl⟩
      go_wp2_with fail
      go_ret
      exact ⟨ret_int (by rw [HB.out, if_pos h3, HL2.out]), rfl⟩
  · go_enter Tryd.func38, Tryd.ntmps38
    go_wp2_with fail
    go_ret
    exact ⟨ret_int (by rw [HB.out, if_neg (by omega)]; omega), rfl⟩

set_option maxHeartbeats 400000 in
theorem daysIn_any (y m : Int) (w : World) (hT : BefT w) :
    Calls Tryd.prog 14 #[.int .i64 y, .int .i64 m] w fun e w' => e = .returned (.int .i64 (dim y m)) ∧ w = w' := by
  by_cases h1 : 1 ≤ m
  · by_cases h2 : m ≤ 12
    · have Hs := Lib.hid (bef_succ y m h1 h2)
      have Ha := Lib.hid (daysBefore_any y m w h1 (by omega) hT)
      have Hb := Lib.hid (daysBefore_any y (m + 1) w (by omega) (by omega) hT)
      have r1 := bef_range y m h1 (by omega)
      have r2 := bef_range y (m + 1) (by omega) (by omega)
      obtain ⟨a, ha⟩ : ∃ a, a = bef y m := ⟨_, rfl⟩
      obtain ⟨b, hb⟩ : ∃ b, b = bef y (m + 1) := ⟨_, rfl⟩
      rw [← ha] at Ha r1 Hs
      rw [← hb] at Hb r2 Hs
      clear hT ha hb
      go_enter Tryd.func14, Tryd.ntmps14
      go_wp2_with fail
      refine Hb.out.mono ?_
      rintro e w' ⟨rfl, rfl⟩
      go_wp2_with fail
      refine Ha.out.mono ?_
      rintro e w' ⟨rfl, rfl⟩
      go_wp2_with fail
      go_ret
      exact ⟨ret_int (by rw [Hs.out]; omega), rfl⟩
    · rw [dim_out y m (by omega)]
      clear hT
      go_enter Tryd.func14, Tryd.ntmps14
      go_wp2_with fail
      go_ret
      exact ⟨rfl, rfl⟩
  · rw [dim_out y m (by omega)]
    clear hT
    go_enter Tryd.func14, Tryd.ntmps14
    go_wp2_with fail
    go_ret
    exact ⟨rfl, rfl⟩

set_option maxHeartbeats 400000 in
theorem rdaysIn_any (y m : Int) (w : World) :
    Calls Tryd.prog 15 #[.int .i64 y, .int .i64 m] w fun e w' => e = .returned (.int .i64 (dim y m)) ∧ w = w' := by
  have HL := Lib.hid fun w => rleap_any y w
  by_cases h2 : m = 2
  · subst h2
    have hd : dim y 2 = 28 + lp y := rfl
    cases hl : leapB y
    · rw [lp_false hl] at hd
      rw [hl] at HL
      rw [hd]
      clear hl hd
      go_enter Tryd.func15, Tryd.ntmps15
      go_wp2_with fail
      refine (HL.out _).mono ?_
      rintro e w' ⟨rfl, rfl⟩
      go_wp2_with fail
      go_ret
      exact ⟨rfl, rfl⟩
    · rw [lp_true hl] at hd
      rw [hl] at HL
      rw [hd]
      clear hl hd
      go_enter Tryd.func15, Tryd.ntmps15
      go_wp2_with fail
      refine (HL.out _).mono ?_
      rintro e w' ⟨rfl, rfl⟩
      go_wp2_with fail
      go_ret
      exact ⟨rfl, rfl⟩
  · have hd : dim y m = if m = 4 ∨ m = 6 ∨ m = 9 ∨ m = 11 then 30 else if m < 1 ∨ 12 < m then 0 else 31 := by unfold dim; rw [if_neg h2]
    have HD := Lib.hid hd
    have h2' : (m == 2) = false := by rw [beq_eq_false_iff_ne]; exact h2
    clear hd
    go_enter Tryd.func15, Tryd.ntmps15
    go_wp2_with fail
    all_goals
      go_ret
      refine ⟨ret_int ?_, rfl⟩
      rw [HD.out]
      clear HL HD
      simp_all
      try omega

set_option maxHeartbeats 400000 in
theorem leapsBefore_any (y : Int) (w : World) (h1 : 1000 ≤ y) (h2 : y ≤ 3000) :
    Calls Tryd.prog 49 #[.int .i64 y] w fun e w' => e = .returned (.int .i64 (lB y)) ∧ w = w' := by
  go_enter Tryd.func49, Tryd.ntmps49
  go_wp2_with fail
  go_ret
  exact ⟨rfl, rfl⟩

theorem lB_2000 : lB 2000 = 484 := by decide +kernel
set_option maxHeartbeats 400000 in
theorem newYear_any (y : Int) (w : World) (h1 : 1990 ≤ y) (h2 : y ≤ 2210) (hT : BefT w) :
    Calls Tryd.prog 39 #[.int .i64 y] w fun e w' => e = .returned (.int .i64 (nY y)) ∧ ∃ n, w' = w.drewN n := by
  have hr := lB_range y (by omega) (by omega)
  have H1 := Lib.hid fun w => leapsBefore_any y w (by omega) (by omega)
  have H2 := Lib.hid fun w => (by have h := leapsBefore_any 2000 w (by omega) (by omega); rw [lB_2000] at h; exact h : Calls Tryd.prog 49 #[.int .i64 2000] w fun e w' => e = .returned (.int .i64 484) ∧ w = w')
  have hN : nY y = (y - 2000) * 365 + lB y - 484 := rfl
  have hc : w.cell? ⟨0, 12, none⟩ = some (.int .i64 365) := hT.at 13 (by omega) (by omega)
  obtain ⟨a, ha⟩ : ∃ a, a = lB y := ⟨_, rfl⟩
  rw [← ha] at hr H1 hN
  rw [hN]
  clear hN ha hT
  go_enter Tryd.func39, Tryd.ntmps39
  go_wp2_with fail
  go_quiet ((first | (go_at_call_of 49 (Value.int IntKind.i64 y); exact Calls.quiet_of_same ((H1.out _).mono fun e w' h => ⟨h.1, h.2.symm⟩)) | (go_at_call 49; exact Calls.quiet_of_same ((H2.out _).mono fun e w' h => ⟨h.1, h.2.symm⟩))))
  go_wp2_with fail
  go_ret
  exact ⟨ret_int (by omega), _, rfl⟩

set_option maxHeartbeats 400000 in
theorem yearOf_any (d : Int) (w : World) (h1 : -10 ≤ d) (h2 : d ≤ 73060) (hT : BefT w) :
    Calls Tryd.prog 44 #[.int .i64 d] w fun e w' => e = .returned (.int .i64 (yOf d)) ∧ ∃ n, w' = w.drewN n := by
  have g1 : 1999 ≤ 1999 + (d + 366) / 366 := by omega
  have g2 : 1999 + (d + 366) / 366 ≤ 2200 := by omega
  have hY : yOf d = if nY (1999 + (d + 366) / 366 + 1) ≤ d then 1999 + (d + 366) / 366 + 1 else 1999 + (d + 366) / 366 := rfl
  have HY := Lib.hid hY
  clear hY
  have H := Lib.hid (newYear_any (1999 + (d + 366) / 366 + 1) w (by omega) (by omega) hT)
  clear hT
  by_cases hc : nY (1999 + (d + 366) / 366 + 1) ≤ d
  · go_enter Tryd.func44, Tryd.ntmps44
    go_wp2_with fail
    refine H.out.mono ?_
    rintro e w' ⟨rfl, n, rfl⟩
    go_wp2_with fail
    go_ret
    exact ⟨ret_int (by rw [HY.out, if_pos hc]), _, rfl⟩
  · go_enter Tryd.func44, Tryd.ntmps44
    go_wp2_with fail
    refine H.out.mono ?_
    rintro e w' ⟨rfl, n, rfl⟩
    go_wp2_with fail
    go_ret
    exact ⟨ret_int (by rw [HY.out, if_neg (Int.not_le.2 hc)]), _, rfl⟩

set_option maxHeartbeats 400000 in
theorem checkDay_any (d : Int) (w : World) :
    Calls Tryd.prog 43 #[.int .i64 d] w fun e w' => e = .returned (.int .i64 (if 0 ≤ d ∧ d ≤ 73048 then 0 else 1)) ∧ w = w' := by
  go_enter Tryd.func43, Tryd.ntmps43
  go_wp2
  all_goals
    go_ret
    refine ⟨ret_int ?_, rfl⟩
    first | rfl | (rw [if_pos (by omega)]) | (rw [if_neg (by omega)])
set_option maxHeartbeats 400000 in
theorem checkMinute_any (d : Int) (w : World) :
    Calls Tryd.prog 45 #[.int .i64 d] w fun e w' => e = .returned (.int .i64 (if 0 ≤ d ∧ d < 1440 then 0 else 6)) ∧ w = w' := by
  go_enter Tryd.func45, Tryd.ntmps45
  go_wp2
  all_goals
    go_ret
    refine ⟨ret_int ?_, rfl⟩
    first | rfl | (rw [if_pos (by omega)]) | (rw [if_neg (by omega)])
end Go.Proofs.YtnlkalnpmnnadaaDoor
