/- awake of the fixed laws returns true: the chapter's examples. Asked: strconv's table reads as laid. -/
import Derived.Test.YtckbfkkohkmcaaaDoorP
namespace Go.Proofs.YtckbfkkohkmcaaaDoor
open Go.RowKit

theorem x_parse : parseL [48, 48, 55, 46, 53, 48] = (7500, 0) := by decide +kernel
theorem x_round : roundI (-1250) 1 = -1300 := by decide +kernel
theorem x_add : addI 1 2 = 3 := by decide +kernel
theorem x_sub : subI 1 2 = -1 := by decide +kernel
theorem x_mul1 : mulDivI 1500 1500 1000 = 2250 := by decide +kernel
theorem x_mul2 : mulDivI (-1) 500 1000 = -1 := by decide +kernel
theorem x_div1 : mulDivI 1000 1000 3000 = 333 := by decide +kernel
theorem x_div2 : mulDivI 5 1000 0 = 1000000000000 := by decide +kernel
theorem x_muldiv : mulDivI 7 9 2 = 32 := by decide +kernel
theorem x_mean : quoI (clampI 1 + clampI 2) 2 = 2 := by decide +kernel
theorem x_line : lineI 5000 0 20000 10000 10000 = 15000 := by decide +kernel
theorem dec1050 : Lib.decDigits 1050 = [49, 48, 53, 48] := by
  rw [Lib.decDigits, dif_neg (by decide), show 1050 / 10 = 105 by decide, Lib.decDigits, dif_neg (by decide), show 105 / 10 = 10 by decide, Lib.decDigits_two (by decide) (by decide)]
  decide +kernel
theorem dec0 : Lib.decDigits 0 = [48] := by rw [Lib.decDigits_one (by decide)]; decide +kernel
theorem x_text : textB (-50) = ⟨#[45, 48, 46, 48, 53]⟩ := by
  have e1 : (((clampI (-50)).natAbs : Int) / 1000) = ((0 : Nat) : Int) := by decide +kernel
  have e2 : 1000 + (((clampI (-50)).natAbs : Int) % 1000) = ((1050 : Nat) : Int) := by decide +kernel
  have e3 : (((clampI (-50)).natAbs : Int) % 1000) = 50 := by decide +kernel
  have e4 : decide (clampI (-50) < 0) = true := by decide +kernel
  unfold textB
  rw [e1, e2, e3, e4, Lib.itoa_nonneg, Lib.itoa_nonneg, dec0, dec1050]
  decide +kernel

theorem x_clamp : clampI 5 = 5 := by decide +kernel

theorem l_clamp (w : World) : Calls Tryd.prog 16 #[.int .i64 5] w fun e w' => e = .returned (.int .i64 5) ∧ w = w' := by
  have h := clamp_any 5 w
  rw [x_clamp] at h
  exact h
theorem l_add (w : World) : Calls Tryd.prog 18 #[.int .i64 1, .int .i64 2] w fun e w' => e = .returned (.int .i64 3) ∧ Below w.heap.size w w' := by
  have h := add_any 1 2 w
  rw [x_add] at h
  exact h
theorem l_sub (w : World) : Calls Tryd.prog 22 #[.int .i64 1, .int .i64 2] w fun e w' => e = .returned (.int .i64 (-1)) ∧ Below w.heap.size w w' := by
  have h := sub_any 1 2 w
  rw [x_sub] at h
  exact h
theorem l_mul1 (w : World) : Calls Tryd.prog 19 #[.int .i64 1500, .int .i64 1500] w fun e w' => e = .returned (.int .i64 2250) ∧ Below w.heap.size w w' := by
  have h := mul_any 1500 1500 w
  rw [x_mul1] at h
  exact h
theorem l_mul2 (w : World) : Calls Tryd.prog 19 #[.int .i64 (-1), .int .i64 500] w fun e w' => e = .returned (.int .i64 (-1)) ∧ Below w.heap.size w w' := by
  have h := mul_any (-1) 500 w
  rw [x_mul2] at h
  exact h
theorem l_div1 (w : World) : Calls Tryd.prog 20 #[.int .i64 1000, .int .i64 3000] w fun e w' => e = .returned (.int .i64 333) ∧ Below w.heap.size w w' := by
  have h := div_any 1000 3000 w
  rw [x_div1] at h
  exact h
theorem l_div2 (w : World) : Calls Tryd.prog 20 #[.int .i64 5, .int .i64 0] w fun e w' => e = .returned (.int .i64 1000000000000) ∧ Below w.heap.size w w' := by
  have h := div_any 5 0 w
  rw [x_div2] at h
  exact h
theorem l_muldiv (w : World) : Calls Tryd.prog 21 #[.int .i64 7, .int .i64 9, .int .i64 2] w fun e w' => e = .returned (.int .i64 32) ∧ Below w.heap.size w w' := by
  have h := muldiv_any 7 9 2 w
  rw [x_muldiv] at h
  exact h
theorem l_line (w : World) : Calls Tryd.prog 8 #[.int .i64 5000, .int .i64 0, .int .i64 20000, .int .i64 10000, .int .i64 10000] w fun e w' => e = .returned (.int .i64 15000) ∧ Below w.heap.size w w' := by
  have h := line_any 5000 0 20000 10000 10000 w
  rw [x_line] at h
  exact h
theorem l_sum (b o : Nat) (w : World) (ha : w.cell? ⟨b, o, none⟩ = some (.int .i64 1)) (hb : w.cell? ⟨b, o + 1, none⟩ = some (.int .i64 2)) : Calls Tryd.prog 23 #[.slice (some ⟨b, o, none⟩) 2 2] w fun e w' => e = .returned (.int .i64 3) ∧ w = w' := by
  have h := sum_two 1 2 b o w ha hb
  rw [x_add] at h
  exact h
theorem l_mean (b o : Nat) (w : World) (ha : w.cell? ⟨b, o, none⟩ = some (.int .i64 1)) (hb : w.cell? ⟨b, o + 1, none⟩ = some (.int .i64 2)) : Calls Tryd.prog 24 #[.slice (some ⟨b, o, none⟩) 2 2] w fun e w' => e = .returned (.int .i64 2) ∧ Below w.heap.size w w' := by
  have h := mean_two 1 2 b o w ha hb
  rw [x_mean] at h
  exact h
theorem l_text (w : World) (ht : Tab w) : Calls Tryd.prog 14 #[.int .i64 (-50)] w fun e w' => e = .returned (.string ⟨#[45, 48, 46, 48, 53]⟩) ∧ Below w.heap.size w w' := by
  have h := text_any (-50) w ht
  rw [x_text] at h
  exact h
theorem l_parse (w : World) : Calls Tryd.prog 12 #[.string ⟨#[48, 48, 55, 46, 53, 48]⟩] w fun e w' => e = .returned (.tuple #[.int .i64 7500, .int .i64 0]) ∧ Below w.heap.size w w' := by
  have h := parse_any ⟨#[48, 48, 55, 46, 53, 48]⟩ w (by decide)
  rw [show parseL (⟨#[48, 48, 55, 46, 53, 48]⟩ : ByteArray).data.toList = (7500, 0) from x_parse] at h
  exact h
theorem l_round (w : World) : Calls Tryd.prog 10 #[.int .i64 (-1250), .int .i64 1] w fun e w' => e = .returned (.tuple #[.int .i64 (-1300), .int .i64 0]) ∧ Below w.heap.size w w' := by
  have h := round_in (-1250) 1 w (by omega)
  rw [x_round] at h
  exact h

set_option maxRecDepth 100000 in
set_option maxHeartbeats 4000000 in
theorem awake_any (w : World) (ht : Tab w) : Calls Tryd.prog 7 #[] w fun e w' => e = .returned (.bool true) ∧ Below w.heap.size w w' := by
  have HT := Lib.hid ht
  have B0 := Lib.hid (Below.refl w.heap.size w)
  clear ht
  go_enter Tryd.func7, Tryd.ntmps7
  go_wp2_with fail
  refine (l_parse _).mono ?_
  rintro e w1 ⟨rfl, hb⟩
  have B1 := Lib.hid (B0.out.trans (hb.mono B0.out.size))
  clear hb
  go_wp2_with fail
  refine (l_round _).mono ?_
  rintro e w2 ⟨rfl, hb⟩
  have B2 := Lib.hid (B1.out.trans (hb.mono B1.out.size))
  clear hb
  go_wp2_with fail
  refine (l_clamp _).mono ?_
  rintro e w' ⟨rfl, rfl⟩
  go_wp2_with fail
  refine (l_add _).mono ?_
  rintro e w3 ⟨rfl, hb⟩
  have B3 := Lib.hid (B2.out.trans (hb.mono B2.out.size))
  clear hb
  go_wp2_with fail
  refine (l_sub _).mono ?_
  rintro e w4 ⟨rfl, hb⟩
  have B4 := Lib.hid (B3.out.trans (hb.mono B3.out.size))
  clear hb
  go_wp2_with fail
  refine (l_mul1 _).mono ?_
  rintro e w5 ⟨rfl, hb⟩
  have B5 := Lib.hid (B4.out.trans (hb.mono B4.out.size))
  clear hb
  go_wp2_with fail
  refine (l_mul2 _).mono ?_
  rintro e w6 ⟨rfl, hb⟩
  have B6 := Lib.hid (B5.out.trans (hb.mono B5.out.size))
  clear hb
  go_wp2_with fail
  refine (l_div1 _).mono ?_
  rintro e w7 ⟨rfl, hb⟩
  have B7 := Lib.hid (B6.out.trans (hb.mono B6.out.size))
  clear hb
  go_wp2_with fail
  refine (l_div2 _).mono ?_
  rintro e w8 ⟨rfl, hb⟩
  have B8 := Lib.hid (B7.out.trans (hb.mono B7.out.size))
  clear hb
  go_wp2_with fail
  refine (l_muldiv _).mono ?_
  rintro e w9 ⟨rfl, hb⟩
  have B9 := Lib.hid (B8.out.trans (hb.mono B8.out.size))
  clear hb
  go_wp2_with fail
  refine (l_sum _ _ _ (by simp [World.cell?_alloc_new]) (by simp [World.cell?_alloc_new])).mono ?_
  rintro e w' ⟨rfl, rfl⟩
  go_wp2_with fail
  refine (l_mean _ _ _ (by simp) (by simp)).mono ?_
  rintro e w10 ⟨rfl, hb⟩
  have B10 := Lib.hid (((B9.out.alloc B9.out.size _).alloc (by simp; have := B9.out.size; omega) _).trans (hb.mono (by simp; have := B9.out.size; omega)))
  clear hb
  go_wp2_with fail
  refine (l_line _).mono ?_
  rintro e w11 ⟨rfl, hb⟩
  have B11 := Lib.hid (B10.out.trans (hb.mono B10.out.size))
  clear hb
  go_wp2_with fail
  refine (l_text _ (HT.out.below B11.out)).mono ?_
  rintro e w12 ⟨rfl, hb⟩
  have B12 := Lib.hid (B11.out.trans (hb.mono B11.out.size))
  clear hb
  go_wp2_with fail
  go_ret
  exact ⟨rfl, B12.out⟩
end Go.Proofs.YtckbfkkohkmcaaaDoor
