/- Contracts of the specification's MulDiv (for a positive divisor), its limits, table, Ratio, Humidity, Enthalpy; degrees. -/
import Derived.Test.YtgpbcdelaipifaaDoorZ
import Derived.Test.YtgpbcdelaipifaaDoorPc
import Derived.Test.YtgpbcdelaipifaaDoorSl
namespace Go.Proofs.YtgpbcdelaipifaaDoor
open Go.RowKit Go.Shelf

set_option maxHeartbeats 4000000 in
theorem rmuldiv_core (a b c A B : Int) (sA sB : Bool) (Z : Int) (n : Nat) (w : World) (hc : 0 < c) (hc2 : c ≤ 1000000000000) (hA : A = clampI a) (hB : B = clampI b) (A0 : A ≠ 0) (B0 : B ≠ 0) (hsA : decide (A < 0) = sA) (hsB : decide (B < 0) = sB)
    (hn : n = A.natAbs * B.natAbs) (hZ : (if (sA != sB) = true then -divU n c.natAbs else divU n c.natAbs) = Z) :
    Calls Tryd.prog 37 #[.int .i64 a, .int .i64 b, .int .i64 c] w fun e w' => e = .returned (.int .i64 Z) ∧ Below w.heap.size w w' := by
  have rA := clampI_range a
  have rB := clampI_range b
  rw [← hA] at rA
  rw [← hB] at rB
  have KA := Lib.hid (fun w => show Calls Tryd.prog 45 #[.int .i64 a] w fun e w' => e = .returned (.int .i64 A) ∧ w = w' by rw [hA]; exact rclamp_any a w)
  have KB := Lib.hid (fun w => show Calls Tryd.prog 45 #[.int .i64 b] w fun e w' => e = .returned (.int .i64 B) ∧ w = w' by rw [hB]; exact rclamp_any b w)
  have KC := Lib.hid (fun w => show Calls Tryd.prog 45 #[.int .i64 c] w fun e w' => e = .returned (.int .i64 c) ∧ w = w' by have h := rclamp_any c w; rw [clampI_in c (by omega) hc2] at h; exact h)
  have SA := Lib.hid (fun w => rsize_any A w (by omega) (by omega))
  have SB := Lib.hid (fun w => rsize_any B w (by omega) (by omega))
  have SC := Lib.hid (fun w => show Calls Tryd.prog 54 #[.int .i64 c] w fun e w' => e = .returned (.int .u64 (c.natAbs : Int)) ∧ w = w' from rsize_any c w (by omega) (by omega))
  have KP := Lib.hid (fun w => show Calls Tryd.prog 55 #[.int .u64 (A.natAbs : Int), .int .u64 (B.natAbs : Int)] w fun e w' => e = .returned (wideV n) ∧ Below w.heap.size w w' by rw [hn]; exact rprod_any A.natAbs B.natAbs w (by omega) (by omega))
  obtain ⟨an, han⟩ : ∃ v, v = A.natAbs := ⟨_, rfl⟩
  obtain ⟨bn, hbn⟩ : ∃ v, v = B.natAbs := ⟨_, rfl⟩
  obtain ⟨cn, hcn⟩ : ∃ v, v = c.natAbs := ⟨_, rfl⟩
  have hc0 : 0 < cn := by omega
  have hc64 : cn < 18446744073709551616 := by omega
  rw [← hcn] at SC hZ
  rw [← han] at SA KP
  rw [← hbn] at SB KP
  have KR := Lib.hid (fun neg w => rround_any neg n cn w hc0 hc64)
  have HZ := Lib.hid hZ
  have f1 : (A == 0) = false := by rw [beq_eq_false_iff_ne]; exact A0
  have f2 : (B == 0) = false := by rw [beq_eq_false_iff_ne]; exact B0
  have f3 : (c == 0) = false := by rw [beq_eq_false_iff_ne]; omega
  have f4 : decide (c < 0) = false := by rw [decide_eq_false_iff_not]; omega
  clear hn hZ hA hB A0 B0 han hbn hcn hc0 hc64 rA rB hc hc2
  cases sA <;> cases sB
  all_goals
    go_enter Tryd.func37, Tryd.ntmps37
    go_wp2_with (first | ((with_reducible refine (KA.out _).mono ?_); rintro e w' ⟨rfl, rfl⟩) | ((with_reducible refine (KB.out _).mono ?_); rintro e w' ⟨rfl, rfl⟩) | ((with_reducible refine (KC.out _).mono ?_); rintro e w' ⟨rfl, rfl⟩) | ((with_reducible refine (SA.out _).mono ?_); rintro e w' ⟨rfl, rfl⟩) | ((with_reducible refine (SB.out _).mono ?_); rintro e w' ⟨rfl, rfl⟩) | ((with_reducible refine (SC.out _).mono ?_); rintro e w' ⟨rfl, rfl⟩) | fail)
    refine (KP.out _).mono ?_
    rintro e w1 ⟨rfl, hb⟩
    have HB1 := Lib.hid hb
    clear hb
    go_wp2_with (first | ((with_reducible refine (SC.out _).mono ?_); rintro e w' ⟨rfl, rfl⟩) | fail)
    refine (KR.out _ _).mono ?_
    rintro e w2 ⟨rfl, hb⟩
    have HB2 := Lib.hid (below_step HB1.out hb)
    clear hb
    go_wp2_with fail
    go_ret
    exact ⟨by have h := HZ.out; first | exact congrArg (fun z => Ending.returned (.int .i64 z)) h | (simp at h ⊢; exact h), HB2.out⟩
set_option maxHeartbeats 4000000 in
theorem rmuldiv_zero (a b c : Int) (w : World) (h0 : clampI a = 0 ∨ (clampI a ≠ 0 ∧ clampI b = 0)) :
    Calls Tryd.prog 37 #[.int .i64 a, .int .i64 b, .int .i64 c] w fun e w' => e = .returned (.int .i64 0) ∧ Below w.heap.size w w' := by
  have KA := Lib.hid (fun n w => rclamp_any n w)
  rcases h0 with h0 | ⟨h1, h0⟩
  · obtain ⟨A, hA⟩ : ∃ c, c = clampI a := ⟨_, rfl⟩
    have KB := Lib.hid (fun w => show Calls Tryd.prog 45 #[.int .i64 a] w fun e w' => e = .returned (.int .i64 0) ∧ w = w' by rw [← h0]; exact rclamp_any a w)
    clear hA h0
    go_enter Tryd.func37, Tryd.ntmps37
    go_wp2_with fail
    refine (KB.out _).mono ?_
    rintro e w' ⟨rfl, rfl⟩
    go_wp2_with (first | ((with_reducible refine (KA.out _ _).mono ?_); rintro e w' ⟨rfl, rfl⟩) | fail)
    all_goals
      go_ret
      exact ⟨rfl, Below.refl _ _⟩
  · obtain ⟨A, hA⟩ : ∃ c, c = clampI a := ⟨_, rfl⟩
    have KB := Lib.hid (fun w => show Calls Tryd.prog 45 #[.int .i64 b] w fun e w' => e = .returned (.int .i64 0) ∧ w = w' by rw [← h0]; exact rclamp_any b w)
    have KC := Lib.hid (fun w => show Calls Tryd.prog 45 #[.int .i64 a] w fun e w' => e = .returned (.int .i64 A) ∧ w = w' by rw [hA]; exact rclamp_any a w)
    rw [← hA] at h1
    have f1 : (A == 0) = false := by rw [beq_eq_false_iff_ne]; exact h1
    clear hA h0 h1
    go_enter Tryd.func37, Tryd.ntmps37
    go_wp2_with fail
    refine (KC.out _).mono ?_
    rintro e w' ⟨rfl, rfl⟩
    go_wp2_with fail
    refine (KB.out _).mono ?_
    rintro e w' ⟨rfl, rfl⟩
    go_wp2_with fail
    refine (KA.out _ _).mono ?_
    rintro e w' ⟨rfl, rfl⟩
    go_wp2_with fail
    all_goals
      go_ret
      exact ⟨rfl, Below.refl _ _⟩
theorem rmuldiv_any (a b c : Int) (w : World) (hc : 0 < c) (hc2 : c ≤ 1000000000000) :
    Calls Tryd.prog 37 #[.int .i64 a, .int .i64 b, .int .i64 c] w fun e w' => e = .returned (.int .i64 (mulDivI a b c)) ∧ Below w.heap.size w w' := by
  have e0 : clampI a = 0 ∨ clampI b = 0 → mulDivI a b c = 0 := by
    intro h
    have e : clampI a * clampI b = 0 := by rcases h with h | h <;> rw [h] <;> simp
    unfold mulDivI quoI
    rw [if_pos e]
  by_cases hA : clampI a = 0
  · rw [e0 (Or.inl hA)]; exact rmuldiv_zero a b c w (Or.inl hA)
  · by_cases hB : clampI b = 0
    · rw [e0 (Or.inr hB)]; exact rmuldiv_zero a b c w (Or.inr ⟨hA, hB⟩)
    · refine rmuldiv_core a b c (clampI a) (clampI b) (decide (clampI a < 0)) (decide (clampI b < 0)) _ _ w hc hc2 rfl rfl hA hB rfl rfl rfl ?_
      unfold mulDivI
      rw [clampI_in c (by omega) hc2]
      refine sign_quo _ _ _ c hc ?_
      rw [Int.natCast_mul]
      generalize clampI a = A at *
      generalize clampI b = B at *
      rcases Int.lt_or_gt_of_ne hA with h1 | h1 <;> rcases Int.lt_or_gt_of_ne hB with h2 | h2
      · rw [decide_eq_true h1, decide_eq_true h2, if_neg (by decide), show ((A.natAbs : Nat) : Int) = -A by omega, show ((B.natAbs : Nat) : Int) = -B by omega, Int.neg_mul_neg]
      · rw [decide_eq_true h1, decide_eq_false (by omega), if_pos (by decide), show ((A.natAbs : Nat) : Int) = -A by omega, show ((B.natAbs : Nat) : Int) = B by omega, Int.neg_mul, Int.neg_neg]
      · rw [decide_eq_false (by omega), decide_eq_true h2, if_pos (by decide), show ((A.natAbs : Nat) : Int) = A by omega, show ((B.natAbs : Nat) : Int) = -B by omega, Int.mul_neg, Int.neg_neg]
      · rw [decide_eq_false (by omega), decide_eq_false (by omega), if_neg (by decide), show ((A.natAbs : Nat) : Int) = A by omega, show ((B.natAbs : Nat) : Int) = B by omega]

set_option maxHeartbeats 400000 in
theorem rlimit_any (n lo hi : Int) (w : World) (h : lo ≤ hi) :
    Calls Tryd.prog 38 #[.int .i64 n, .int .i64 lo, .int .i64 hi] w fun e w' => e = .returned (.int .i64 (limI n lo hi)) ∧ w = w' := by
  unfold limI
  go_enter Tryd.func38, Tryd.ntmps38
  go_wp2
  all_goals
    go_ret
    exact ⟨ret_int (by omega), rfl⟩
set_option maxHeartbeats 400000 in
theorem rlimT_any (n : Int) (w : World) :
    Calls Tryd.prog 32 #[.int .i64 n] w fun e w' => e = .returned (.int .i64 (limI n (-100000) 200000)) ∧ w = w' := by
  go_enter Tryd.func32, Tryd.ntmps32
  go_wp2_with ((refine (rlimit_any _ _ _ _ (by decide)).mono ?_); rintro e w' ⟨rfl, rfl⟩)
  go_ret
  exact ⟨rfl, rfl⟩
set_option maxHeartbeats 400000 in
theorem rlimR_any (n : Int) (w : World) :
    Calls Tryd.prog 40 #[.int .i64 n] w fun e w' => e = .returned (.int .i64 (limI n 0 1000000)) ∧ w = w' := by
  go_enter Tryd.func40, Tryd.ntmps40
  go_wp2_with ((refine (rlimit_any _ _ _ _ (by decide)).mono ?_); rintro e w' ⟨rfl, rfl⟩)
  go_ret
  exact ⟨rfl, rfl⟩
set_option maxHeartbeats 400000 in
theorem rlimF_any (n : Int) (w : World) :
    Calls Tryd.prog 48 #[.int .i64 n] w fun e w' => e = .returned (.int .i64 (limI n 0 1000000000)) ∧ w = w' := by
  go_enter Tryd.func48, Tryd.ntmps48
  go_wp2_with ((refine (rlimit_any _ _ _ _ (by decide)).mono ?_); rintro e w' ⟨rfl, rfl⟩)
  go_ret
  exact ⟨rfl, rfl⟩
set_option maxHeartbeats 400000 in
theorem rdeg_any (i : Nat) (w : World) (hi : i ≤ 16) :
    Calls Tryd.prog 34 #[.int .i64 i] w fun e w' => e = .returned (.int .i64 (degI i)) ∧ w = w' := by
  unfold degI
  have h1 : (i : Int) ≤ 16 := by omega
  go_enter Tryd.func34, Tryd.ntmps34
  go_wp2
  go_ret
  exact ⟨ret_int (by omega), rfl⟩
set_option maxHeartbeats 2000000 in
theorem rtable_any (w : World) :
    Calls Tryd.prog 33 #[] w fun e w' => ∃ b, e = .returned (.slice (some ⟨b, 0, none⟩) 17 17) ∧ RowAt w' b (satL.map fun z => .int .i64 z) ∧ Below w.heap.size w w' := by
  go_enter Tryd.func33, Tryd.ntmps33
  go_wp2_with fail
  go_ret
  exact ⟨_, rfl, row_fresh _ _ _, (Below.refl _ _).alloc (Nat.le_refl _) _⟩
theorem satL_at (i : Nat) (hi : i ≤ 16) : (satL.map fun z => Value.int .i64 z)[i]? = some (.int .i64 (satI i)) := by
  have h : i < satL.length := by show i < 17; omega
  unfold satI
  rw [List.getElem?_map, List.getElem?_eq_getElem h, List.getD_eq_getElem?_getD, List.getElem?_eq_getElem h]
  rfl
end Go.Proofs.YtgpbcdelaipifaaDoor
