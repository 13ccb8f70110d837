/- The contract of fixed.Line: the value on the line; the world grows. -/
import Derived.Test.YtgpbcdelaipifaaDoorI
namespace Go.Proofs.YtgpbcdelaipifaaDoor
open Go.RowKit

theorem mul_bound (a b A B : Int) (ha : -A ≤ a) (ha2 : a ≤ A) (hb : -B ≤ b) (hb2 : b ≤ B) : -(A * B) ≤ a * b ∧ a * b ≤ A * B := by
  have h : (a * b).natAbs ≤ A.natAbs * B.natAbs := by
    rw [Int.natAbs_mul]
    exact Nat.mul_le_mul (by omega) (by omega)
  have e : ((A.natAbs * B.natAbs : Nat) : Int) = A * B := by
    rw [Int.natCast_mul, show ((A.natAbs : Nat) : Int) = A by omega, show ((B.natAbs : Nat) : Int) = B by omega]
  omega

theorem line_low (x x1 y1 x2 y2 : Int) (w : World) (h : clampI x1 ≥ clampI x2) :
    Calls Tryd.prog 30 #[.int .i64 x, .int .i64 x1, .int .i64 y1, .int .i64 x2, .int .i64 y2] w fun e w' => e = .returned (.int .i64 (lineI x x1 y1 x2 y2)) ∧ Below w.heap.size w w' := by
  have e : lineI x x1 y1 x2 y2 = if clampI x < clampI x1 then clampI y1 else clampI y2 := by unfold lineI; rw [if_pos h]
  rw [e]
  by_cases h2 : clampI x < clampI x1
  · rw [if_pos h2]
    have t1 : decide (clampI x2 ≤ clampI x1) = true := decide_eq_true h
    have t2 : decide (clampI x < clampI x1) = true := decide_eq_true h2
    clear h h2 e
    go_enter Tryd.func30, Tryd.ntmps30
    go_wp2_with (go_at_call 42; refine (clamp_any _ _).mono ?_; rintro e w' ⟨rfl, rfl⟩)
    go_ret
    exact ⟨rfl, Below.refl _ _⟩
  · rw [if_neg h2]
    have t1 : decide (clampI x2 ≤ clampI x1) = true := decide_eq_true h
    have t2 : decide (clampI x < clampI x1) = false := decide_eq_false h2
    clear h h2 e
    go_enter Tryd.func30, Tryd.ntmps30
    go_wp2_with (go_at_call 42; refine (clamp_any _ _).mono ?_; rintro e w' ⟨rfl, rfl⟩)
    go_ret
    exact ⟨rfl, Below.refl _ _⟩

set_option maxHeartbeats 400000 in
theorem line_walk (x x1 y1 x2 y2 X X1 Y1 X2 Y2 m P Q Z : Int) (w : World)
    (c0 : clampI x = X) (c1 : clampI x1 = X1) (c2 : clampI y1 = Y1) (c3 : clampI x2 = X2) (c4 : clampI y2 = Y2) (t1 : decide (X2 ≤ X1) = false) (em : min (max X X1) X2 = m)
    (e1 : wrap64 (X2 - m) = X2 - m) (e2 : wrap64 (m - X1) = m - X1) (e3 : wrap64 (X2 - X1) = X2 - X1)
    (Hp : ∀ w, Calls Tryd.prog 51 #[.int .i64 Y1, .int .i64 (X2 - m)] w fun e w' => e = .returned (pairV P) ∧ Below w.heap.size w w')
    (Hq : ∀ w, Calls Tryd.prog 51 #[.int .i64 Y2, .int .i64 (m - X1)] w fun e w' => e = .returned (pairV Q) ∧ Below w.heap.size w w')
    (Hz : ∀ w, Calls Tryd.prog 53 #[pairV (P + Q), .int .i64 (X2 - X1)] w fun e w' => e = .returned (.int .i64 Z) ∧ Below w.heap.size w w') :
    Calls Tryd.prog 30 #[.int .i64 x, .int .i64 x1, .int .i64 y1, .int .i64 x2, .int .i64 y2] w fun e w' => e = .returned (.int .i64 Z) ∧ Below w.heap.size w w' := by
  have HP := Lib.hid Hp
  have HQ := Lib.hid Hq
  have HZ := Lib.hid Hz
  clear Hp Hq Hz
  go_enter Tryd.func30, Tryd.ntmps30
  go_wp2_with (go_at_call 42; refine (clamp_any _ _).mono ?_; rintro e w' ⟨rfl, rfl⟩)
  refine (HP.out _).mono ?_
  rintro e w1 ⟨rfl, hb1⟩
  go_wp2_with fail
  refine (HQ.out _).mono ?_
  rintro e w2 ⟨rfl, hb2⟩
  go_wp2_with fail
  refine (plus_any _ _ _).mono ?_
  rintro e w3 ⟨rfl, hb3⟩
  have Hb1 := Lib.hid hb1
  have Hb2 := Lib.hid hb2
  have Hb3 := Lib.hid hb3
  clear hb1 hb2 hb3
  simp only [pairV, wordsV]
  go_wp2_with fail
  refine (HZ.out _).mono ?_
  rintro e w4 ⟨rfl, hb4⟩
  have Hb4 := Lib.hid hb4
  clear hb4
  go_wp2_with fail
  go_ret
  have s1 := Hb1.out.size
  have s2 := Hb2.out.size
  have s3 := Hb3.out.size
  exact ⟨rfl, (((Hb1.out.trans (Hb2.out.mono s1)).trans (Hb3.out.mono (by omega))).alloc (by omega) _).trans (Hb4.out.mono (by simp; omega))⟩

theorem line_any (x x1 y1 x2 y2 : Int) (w : World) :
    Calls Tryd.prog 30 #[.int .i64 x, .int .i64 x1, .int .i64 y1, .int .i64 x2, .int .i64 y2] w fun e w' => e = .returned (.int .i64 (lineI x x1 y1 x2 y2)) ∧ Below w.heap.size w w' := by
  by_cases h : clampI x1 ≥ clampI x2
  · exact line_low x x1 y1 x2 y2 w h
  · have r0 := clampI_range x
    have r1 := clampI_range x1
    have r2 := clampI_range y1
    have r3 := clampI_range x2
    have r4 := clampI_range y2
    have e : lineI x x1 y1 x2 y2 = quoI (clampI y1 * (clampI x2 - min (max (clampI x) (clampI x1)) (clampI x2)) + clampI y2 * (min (max (clampI x) (clampI x1)) (clampI x2) - clampI x1)) (clampI x2 - clampI x1) := by unfold lineI; rw [if_neg h]
    rw [e]
    clear e
    obtain ⟨m, hm⟩ : ∃ m, m = min (max (clampI x) (clampI x1)) (clampI x2) := ⟨_, rfl⟩
    rw [← hm]
    have hm1 : clampI x1 ≤ m := by omega
    have hm2 : m ≤ clampI x2 := by omega
    have b1 := mul_bound (clampI y1) (clampI x2 - m) 1000000000000 2000000000000 (by omega) (by omega) (by omega) (by omega)
    have b2 := mul_bound (clampI y2) (m - clampI x1) 1000000000000 2000000000000 (by omega) (by omega) (by omega) (by omega)
    refine line_walk x x1 y1 x2 y2 _ _ _ _ _ m _ _ _ w rfl rfl rfl rfl rfl (decide_eq_false h) hm.symm (by unfold wrap64; omega) (by unfold wrap64; omega) (by unfold wrap64; omega)
      (fun w => product_any _ _ w (by omega) (by omega) (by omega) (by omega)) (fun w => product_any _ _ w (by omega) (by omega) (by omega) (by omega)) (fun w => quotient_any _ _ w (by omega) (by omega) (by omega) (by omega))
end Go.Proofs.YtgpbcdelaipifaaDoor
