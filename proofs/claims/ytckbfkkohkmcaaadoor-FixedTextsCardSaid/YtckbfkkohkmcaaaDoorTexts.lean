/- The law FixedTexts returns true for every input. Asked: strconv's table reads as laid. -/
import Derived.Test.YtckbfkkohkmcaaaDoorW
import Derived.Test.YtckbfkkohkmcaaaDoorC
namespace Go.Proofs.YtckbfkkohkmcaaaDoor
open Go.RowKit

theorem textB_size (n : Int) : (textB n).size ≤ 100 := by
  have r0 := clampI_range n
  have hq1 := Lib.itoa_length_le (((clampI n).natAbs : Int) / 1000) (by omega) (by omega)
  have hq2 := Lib.itoa_length_le (1000 + ((clampI n).natAbs : Int) % 1000) (by omega) (by omega)
  have hq3 := trimRightB_le ((Lib.itoa (1000 + ((clampI n).natAbs : Int) % 1000)).drop 1) 48
  rw [List.length_drop] at hq3
  have s1 := bs_size (Lib.itoa (((clampI n).natAbs : Int) / 1000))
  have s3 := bs_size (Lib.trimRightB ((Lib.itoa (1000 + ((clampI n).natAbs : Int) % 1000)).drop 1) 48)
  have sg : ∀ b : Bool, (if b = true then (⟨#[45]⟩ : ByteArray) else ⟨#[]⟩).size ≤ 1 := by intro b; cases b <;> decide
  have sg1 := sg (decide (clampI n < 0))
  have dot : (⟨#[46]⟩ : ByteArray).size = 1 := rfl
  unfold textB textOf
  split
  · rw [ByteArray.size_append]; omega
  · rw [ByteArray.size_append, ByteArray.size_append, ByteArray.size_append]; omega

set_option maxHeartbeats 1000000 in
theorem texts_law (n d : Int) (s : ByteArray) (w : World) (ht : Tab w) :
    Calls Tryd.prog 4 #[.int .i64 n, .int .i64 d, .string s] w fun e w' => e = .returned (.bool true) ∧ Below w.heap.size w w' := by
  have HW := Lib.hid (awake_any w ht)
  by_cases hs : s.size ≤ 100
  · obtain ⟨q1, q2, HR1, HR2⟩ : ∃ q1 q2, (∀ w, Calls Tryd.prog 10 #[.int .i64 n, .int .i64 d] w fun e w' => e = .returned (.tuple #[.int .i64 q1, .int .i64 q2]) ∧ Below w.heap.size w w') ∧ (∀ w, Calls Tryd.prog 11 #[.int .i64 n, .int .i64 d] w fun e w' => e = .returned (.tuple #[.int .i64 q1, .int .i64 q2]) ∧ w = w') := by
      by_cases hd : 0 ≤ d ∧ d ≤ 3
      · obtain ⟨k, rfl⟩ : ∃ k : Nat, d = k := ⟨d.toNat, by omega⟩
        exact ⟨_, _, fun w => round_in n k w (by omega), fun w => rround_in n k w (by omega)⟩
      · exact ⟨_, _, fun w => round_out n d w (by omega), fun w => rround_out n d w (by omega)⟩
    have HP1 := fun w => parse_any s w hs
    have HP2 := fun w => rparse_any s w hs
    obtain ⟨p1, hp1⟩ : ∃ p, p = (parseL s.data.toList).1 := ⟨_, rfl⟩
    obtain ⟨p2, hp2⟩ : ∃ p, p = (parseL s.data.toList).2 := ⟨_, rfl⟩
    rw [← hp1, ← hp2] at HP1 HP2
    have HT1 := fun w ht => text_any n w ht
    have HT2 := fun w ht => rtext_any n w ht
    have HP3 := fun w => parse_any (textB n) w (textB_size n)
    rw [parse_text] at HP3
    obtain ⟨Z, hZ⟩ : ∃ Z, Z = textB n := ⟨_, rfl⟩
    rw [← hZ] at HT1 HT2 HP3
    clear hZ hp1 hp2
    have HC := fun w => clamp_any n w
    obtain ⟨C, hC⟩ : ∃ C, C = clampI n := ⟨_, rfl⟩
    rw [← hC] at HC HP3
    clear hC
    have HR1 := Lib.hid HR1
    have HR2 := Lib.hid HR2
    have HP1 := Lib.hid HP1
    have HP2 := Lib.hid HP2
    have HP3 := Lib.hid HP3
    have HT1 := Lib.hid HT1
    have HT2 := Lib.hid HT2
    have HC := Lib.hid HC
    have HT := Lib.hid ht
    clear ht
    have t0 : decide ((100 : Int) < ↑s.size) = false := by rw [decide_eq_false_iff_not]; omega
    go_enter Tryd.func4, Tryd.ntmps4
    go_wp2_with fail
    refine HW.out.mono ?_
    rintro e w1 ⟨rfl, hb1⟩
    have B1 := Lib.hid hb1
    clear hb1
    go_wp2_with fail
    refine (HR1.out _).mono ?_
    rintro e w2 ⟨rfl, hb2⟩
    have B2 := Lib.hid (B1.out.trans (hb2.mono B1.out.size))
    clear hb2
    go_wp2_with fail
    refine (HR2.out _).mono ?_
    rintro e w3 ⟨rfl, rfl⟩
    go_wp2_with fail
    refine (HP1.out _).mono ?_
    rintro e w4 ⟨rfl, hb4⟩
    have B4 := Lib.hid (B2.out.trans (hb4.mono B2.out.size))
    clear hb4
    go_wp2_with fail
    refine (HP2.out _).mono ?_
    rintro e w5 ⟨rfl, rfl⟩
    go_wp2_with fail
    refine (HT1.out _ (HT.out.below B4.out)).mono ?_
    rintro e w6 ⟨rfl, hb6⟩
    have B6 := Lib.hid (B4.out.trans (hb6.mono B4.out.size))
    clear hb6
    go_wp2_with fail
    refine (HP3.out _).mono ?_
    rintro e w7 ⟨rfl, hb7⟩
    have B7 := Lib.hid (B6.out.trans (hb7.mono B6.out.size))
    clear hb7
    go_wp2_with fail
    refine (HT1.out _ (HT.out.below B7.out)).mono ?_
    rintro e w8 ⟨rfl, hb8⟩
    have B8 := Lib.hid (B7.out.trans (hb8.mono B7.out.size))
    clear hb8
    go_wp2_with fail
    refine (HT2.out _ (HT.out.below B8.out)).mono ?_
    rintro e w9 ⟨rfl, hb9⟩
    have B9 := Lib.hid (B8.out.trans (hb9.mono B8.out.size))
    clear hb9
    go_wp2_with fail
    refine (HC.out _).mono ?_
    rintro e w10 ⟨rfl, rfl⟩
    go_wp2_with fail
    go_ret
    exact ⟨rfl, B9.out⟩
  · have t0 : decide ((100 : Int) < ↑s.size) = true := by rw [decide_eq_true_eq]; omega
    clear hs ht
    go_enter Tryd.func4, Tryd.ntmps4
    go_wp2_with fail
    refine HW.out.mono ?_
    rintro e w1 ⟨rfl, hb1⟩
    have B1 := Lib.hid hb1
    clear hb1
    go_wp2_with fail
    go_ret
    exact ⟨rfl, B1.out⟩
end Go.Proofs.YtckbfkkohkmcaaaDoor
