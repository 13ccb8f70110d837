/- Contracts of MulDiv, Mul, Div, Add, Sub, Sum and Mean of two numbers. -/
import Derived.Test.YtckbfkkohkmcaaaDoorL
import Derived.LoopTactic
namespace Go.Proofs.YtckbfkkohkmcaaaDoor
open Go.RowKit

set_option maxHeartbeats 400000 in
theorem muldiv_any (a b c : Int) (w : World) :
    Calls Tryd.prog 21 #[.int .i64 a, .int .i64 b, .int .i64 c] w fun e w' => e = .returned (.int .i64 (mulDivI a b c)) ∧ Below w.heap.size w w' := by
  have r0 := clampI_range a
  have r1 := clampI_range b
  have r2 := clampI_range c
  have b1 := mul_bound (clampI a) (clampI b) 1000000000000 1000000000000 (by omega) (by omega) (by omega) (by omega)
  have Hp := Lib.hid fun w => product_any (clampI a) (clampI b) w (by omega) (by omega) (by omega) (by omega)
  have Hz := Lib.hid fun w => quotient_any (clampI a * clampI b) (clampI c) w (by omega) (by omega) (by omega) (by omega)
  obtain ⟨Z, hZ⟩ : ∃ Z, Z = mulDivI a b c := ⟨_, rfl⟩
  have HZ := Lib.hid hZ
  rw [← hZ]
  clear hZ r0 r1 r2 b1
  go_enter Tryd.func21, Tryd.ntmps21
  go_wp2_with (go_at_call 16; refine (clamp_any _ _).mono ?_; rintro e w' ⟨rfl, rfl⟩)
  refine (Hp.out _).mono ?_
  rintro e w1 ⟨rfl, hb1⟩
  have Hb1 := Lib.hid hb1
  clear hb1
  go_wp2_with (go_at_call 16; refine (clamp_any _ _).mono ?_; rintro e w' ⟨rfl, rfl⟩)
  refine (Hz.out _).mono ?_
  rintro e w2 ⟨rfl, hb2⟩
  have Hb2 := Lib.hid hb2
  clear hb2
  go_wp2_with fail
  go_ret
  exact ⟨by rw [HZ.out]; rfl, Hb1.out.trans (Hb2.out.mono Hb1.out.size)⟩

set_option maxHeartbeats 400000 in
theorem mul_any (a b : Int) (w : World) :
    Calls Tryd.prog 19 #[.int .i64 a, .int .i64 b] w fun e w' => e = .returned (.int .i64 (mulDivI a b 1000)) ∧ Below w.heap.size w w' := by
  go_enter Tryd.func19, Tryd.ntmps19
  go_wp2_with fail
  refine (muldiv_any _ _ _ _).mono ?_
  rintro e w1 ⟨rfl, hb1⟩
  go_wp2_with fail
  go_ret
  exact ⟨rfl, hb1⟩
set_option maxHeartbeats 400000 in
theorem div_any (a b : Int) (w : World) :
    Calls Tryd.prog 20 #[.int .i64 a, .int .i64 b] w fun e w' => e = .returned (.int .i64 (mulDivI a 1000 b)) ∧ Below w.heap.size w w' := by
  go_enter Tryd.func20, Tryd.ntmps20
  go_wp2_with fail
  refine (muldiv_any _ _ _ _).mono ?_
  rintro e w1 ⟨rfl, hb1⟩
  go_wp2_with fail
  go_ret
  exact ⟨rfl, hb1⟩

/-- what two numbers have come to after k rounds -/
def tot2 (a b : Int) (k : Nat) : Int := if k = 0 then 0 else if k = 1 then clampI a else clampI a + clampI b

set_option maxHeartbeats 400000 in
theorem total_two (a b : Int) (p : Nat) (o : Nat) (w : World) (ha : w.cell? ⟨p, o, none⟩ = some (.int .i64 a)) (hb : w.cell? ⟨p, o + 1, none⟩ = some (.int .i64 b)) :
    Calls Tryd.prog 41 #[.slice (some ⟨p, o, none⟩) 2 2] w fun e w' => e = .returned (.int .i64 (clampI a + clampI b)) ∧ w = w' := by
  have r0 := clampI_range a
  have r1 := clampI_range b
  go_enter Tryd.func41, Tryd.ntmps41
  go_wp2_with fail
  go_loop [3, 8] (fun s i => ∃ k : Nat, k ≤ 2 ∧ i = .int .i64 k ∧ s = .int .i64 (tot2 a b k)) (fun _ i => 2 - (intOf i).toNat)
  case atStart => exact ⟨0, by omega, rfl, rfl⟩
  case round =>
    obtain ⟨k, hk, rfl, rfl⟩ := hrel
    have hk3 : k = 0 ∨ k = 1 ∨ k = 2 := by omega
    clear hk
    rcases hk3 with rfl | rfl | rfl
    · have e0 : tot2 a b 0 = 0 := rfl
      go_wp2_with (go_at_call 16; refine (clamp_any _ _).mono ?_; rintro e w' ⟨rfl, rfl⟩)
      go_round
      case rel => exact ⟨1, by omega, rfl, by simp [tot2]⟩
      case measure => simp [intOf]
    · have e0 : tot2 a b 1 = clampI a := rfl
      go_wp2_with (go_at_call 16; refine (clamp_any _ _).mono ?_; rintro e w' ⟨rfl, rfl⟩)
      go_round
      case rel => exact ⟨2, by omega, rfl, by simp [tot2]⟩
      case measure => simp [intOf]
    · have e0 : tot2 a b 2 = clampI a + clampI b := rfl
      go_wp2_with fail
      go_ret
      exact ⟨ret_int e0, rfl⟩

def addI (a b : Int) : Int := clampI (clampI a + clampI b)

set_option maxHeartbeats 400000 in
theorem add_any (a b : Int) (w : World) :
    Calls Tryd.prog 18 #[.int .i64 a, .int .i64 b] w fun e w' => e = .returned (.int .i64 (addI a b)) ∧ Below w.heap.size w w' := by
  go_enter Tryd.func18, Tryd.ntmps18
  go_wp2_with fail
  refine (total_two a b _ _ _ (by simp [World.cell?_alloc_new]) (by simp [World.cell?_alloc_new])).mono ?_
  rintro e w1 ⟨rfl, rfl⟩
  go_wp2_with fail
  refine (clamp_any _ _).mono ?_
  rintro e w1 ⟨rfl, rfl⟩
  go_wp2_with fail
  go_ret
  exact ⟨rfl, (Below.refl _ _).alloc (Nat.le_refl _) _⟩

def subI (a b : Int) : Int := clampI (clampI a + clampI (-clampI b))

set_option maxHeartbeats 400000 in
theorem sub_any (a b : Int) (w : World) :
    Calls Tryd.prog 22 #[.int .i64 a, .int .i64 b] w fun e w' => e = .returned (.int .i64 (subI a b)) ∧ Below w.heap.size w w' := by
  have r1 := clampI_range b
  go_enter Tryd.func22, Tryd.ntmps22
  go_wp2_with fail
  refine (clamp_any _ _).mono ?_
  rintro e w1 ⟨rfl, rfl⟩
  go_wp2_with fail
  refine (total_two a (-clampI b) _ _ _ (by simp [World.cell?_alloc_new]) (by simp [World.cell?_alloc_new])).mono ?_
  rintro e w1 ⟨rfl, rfl⟩
  go_wp2_with fail
  refine (clamp_any _ _).mono ?_
  rintro e w1 ⟨rfl, rfl⟩
  go_wp2_with fail
  go_ret
  exact ⟨rfl, (Below.refl _ _).alloc (Nat.le_refl _) _⟩

set_option maxHeartbeats 400000 in
theorem sum_two (a b : Int) (p : Nat) (o : Nat) (w : World) (ha : w.cell? ⟨p, o, none⟩ = some (.int .i64 a)) (hb : w.cell? ⟨p, o + 1, none⟩ = some (.int .i64 b)) :
    Calls Tryd.prog 23 #[.slice (some ⟨p, o, none⟩) 2 2] w fun e w' => e = .returned (.int .i64 (addI a b)) ∧ w = w' := by
  go_enter Tryd.func23, Tryd.ntmps23
  go_wp2_with fail
  refine (total_two a b _ _ _ ha hb).mono ?_
  rintro e w1 ⟨rfl, rfl⟩
  go_wp2_with fail
  refine (clamp_any _ _).mono ?_
  rintro e w1 ⟨rfl, rfl⟩
  go_wp2_with fail
  go_ret
  exact ⟨rfl, rfl⟩

set_option maxHeartbeats 400000 in
theorem mean_two (a b : Int) (p : Nat) (o : Nat) (w : World) (ha : w.cell? ⟨p, o, none⟩ = some (.int .i64 a)) (hb : w.cell? ⟨p, o + 1, none⟩ = some (.int .i64 b)) :
    Calls Tryd.prog 24 #[.slice (some ⟨p, o, none⟩) 2 2] w fun e w' => e = .returned (.int .i64 (quoI (clampI a + clampI b) 2)) ∧ Below w.heap.size w w' := by
  have r0 := clampI_range a
  have r1 := clampI_range b
  obtain ⟨T, hT⟩ : ∃ T, T = clampI a + clampI b := ⟨_, rfl⟩
  have hp := fun w => product_any T 1 w (by omega) (by omega) (by omega) (by omega)
  rw [Int.mul_one] at hp
  have Hp := Lib.hid hp
  clear hp
  have Hz := Lib.hid fun w => quotient_any T 2 w (by omega) (by omega) (by omega) (by omega)
  have Ht := Lib.hid (total_two a b p o w ha hb)
  rw [← hT] at *
  clear r0 r1 hT ha hb
  go_enter Tryd.func24, Tryd.ntmps24
  go_wp2_with fail
  refine Ht.out.mono ?_
  rintro e w1 ⟨rfl, rfl⟩
  go_wp2_with fail
  refine (Hp.out _).mono ?_
  rintro e w1 ⟨rfl, hb1⟩
  have Hb1 := Lib.hid hb1
  clear hb1
  go_wp2_with fail
  refine (Hz.out _).mono ?_
  rintro e w2 ⟨rfl, hb2⟩
  have Hb2 := Lib.hid hb2
  clear hb2
  go_wp2_with fail
  go_ret
  exact ⟨rfl, Hb1.out.trans (Hb2.out.mono Hb1.out.size)⟩

/-- the step of so many digits -/
def stepI (d : Nat) : Int := if d = 0 then 1000 else if d = 1 then 100 else if d = 2 then 10 else 1
def roundI (n : Int) (d : Nat) : Int := mulDivI n 1 (stepI d) * stepI d

set_option maxHeartbeats 400000 in
theorem round_in (n : Int) (d : Nat) (w : World) (hd : d ≤ 3) :
    Calls Tryd.prog 10 #[.int .i64 n, .int .i64 d] w fun e w' => e = .returned (.tuple #[.int .i64 (roundI n d), .int .i64 0]) ∧ Below w.heap.size w w' := by
  have hr := mulDivI_range n 1 (stepI d)
  have hs : 1 ≤ stepI d ∧ stepI d ≤ 1000 := by unfold stepI; split <;> (try split) <;> (try split) <;> omega
  have hw : wrap64 (mulDivI n 1 (stepI d) * stepI d) = roundI n d := by
    have := mul_bound (mulDivI n 1 (stepI d)) (stepI d) 1000000000000 1000 (by omega) (by omega) (by omega) (by omega)
    unfold roundI wrap64
    generalize mulDivI n 1 (stepI d) * stepI d = P at *
    omega
  have t0 : decide ((d : Int) < 0) = false := by rw [decide_eq_false_iff_not]; omega
  have t1 : decide ((3 : Int) < d) = false := by rw [decide_eq_false_iff_not]; omega
  have HW := Lib.hid hw
  clear hr hs hw
  go_enter Tryd.func10, Tryd.ntmps10
  go_wp2_with fail
  go_loop [6, 14] (fun s i => ∃ k : Nat, k ≤ d ∧ i = .int .i64 k ∧ s = .int .i64 (stepI k)) (fun _ i => d - (intOf i).toNat)
  case atStart => exact ⟨0, by omega, rfl, rfl⟩
  case round =>
    obtain ⟨k, hk, rfl, rfl⟩ := hrel
    by_cases hkd : k < d
    · have hk3 : k = 0 ∨ k = 1 ∨ k = 2 := by omega
      have e : wrap64 (stepI k / 10) = stepI (k + 1) := by rcases hk3 with rfl | rfl | rfl <;> decide +kernel
      have hs : 0 ≤ stepI k ∧ stepI k ≤ 1000 := by rcases hk3 with rfl | rfl | rfl <;> decide +kernel
      have e' : stepI k / 10 = stepI (k + 1) := by rcases hk3 with rfl | rfl | rfl <;> decide +kernel
      clear hk3
      have hk4 : (k : Int) ≤ 3 := by omega
      go_wp2_with fail
      go_round
      case rel => exact ⟨k + 1, by omega, by go_num, by rw [e']⟩
      case measure => simp [intOf]; omega
    · obtain rfl : k = d := by omega
      clear hk
      go_wp2_with fail
      refine (muldiv_any _ _ _ _).mono ?_
      rintro e w1 ⟨rfl, hb1⟩
      have Hb1 := Lib.hid hb1
      clear hb1
      go_wp2_with fail
      go_ret2
      exact ⟨by rw [← HW.out]; rfl, Hb1.out⟩

set_option maxHeartbeats 400000 in
theorem round_out (n d : Int) (w : World) (hd : d < 0 ∨ 3 < d) :
    Calls Tryd.prog 10 #[.int .i64 n, .int .i64 d] w fun e w' => e = .returned (.tuple #[.int .i64 0, .int .i64 1]) ∧ Below w.heap.size w w' := by
  by_cases h : d < 0
  · have t0 : decide (d < 0) = true := decide_eq_true h
    clear hd
    go_enter Tryd.func10, Tryd.ntmps10
    go_wp2_with fail
    go_ret2
    exact ⟨rfl, Below.refl _ _⟩
  · have t0 : decide (d < 0) = false := decide_eq_false h
    have t1 : decide (3 < d) = true := by rw [decide_eq_true_eq]; omega
    clear hd
    go_enter Tryd.func10, Tryd.ntmps10
    go_wp2_with fail
    go_ret2
    exact ⟨rfl, Below.refl _ _⟩
end Go.Proofs.YtckbfkkohkmcaaaDoor
