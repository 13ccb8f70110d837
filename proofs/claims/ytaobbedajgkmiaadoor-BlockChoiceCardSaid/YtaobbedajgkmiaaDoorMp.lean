/- Contracts of MulDiv, Mul and Sub. -/
import Derived.Test.YtaobbedajgkmiaaDoorI
import Derived.LoopTactic
namespace Go.Proofs.YtaobbedajgkmiaaDoor
open Go.RowKit

theorem mul_bound (a b A B : Int) (ha : -A ≤ a) (ha2 : a ≤ A) (hb : -B ≤ b) (hb2 : b ≤ B) : -(A * B) ≤ a * b ∧ a * b ≤ A * B := by
  have h : (a * b).natAbs ≤ A.natAbs * B.natAbs := by
    rw [Int.natAbs_mul]
    exact Nat.mul_le_mul (by omega) (by omega)
  have e : ((A.natAbs * B.natAbs : Nat) : Int) = A * B := by
    rw [Int.natCast_mul, show ((A.natAbs : Nat) : Int) = A by omega, show ((B.natAbs : Nat) : Int) = B by omega]
  omega


set_option maxHeartbeats 400000 in
theorem muldiv_any (a b c : Int) (w : World) :
    Calls Tryd.prog 82 #[.int .i64 a, .int .i64 b, .int .i64 c] w fun e w' => e = .returned (.int .i64 (mulDivI a b c)) ∧ Below w.heap.size w w' := by
  have r0 := clampI_range a
  have r1 := clampI_range b
  have r2 := clampI_range c
  have b1 := mul_bound (clampI a) (clampI b) 1000000000000 1000000000000 (by omega) (by omega) (by omega) (by omega)
  have Hp := Lib.hid fun w => product_any (clampI a) (clampI b) w (by omega) (by omega) (by omega) (by omega)
  have Hz := Lib.hid fun w => quotient_any (clampI a * clampI b) (clampI c) w (by omega) (by omega) (by omega) (by omega)
  obtain ⟨Z, hZ⟩ : ∃ Z, Z = mulDivI a b c := ⟨_, rfl⟩
  have HZ := Lib.hid hZ
  rw [← hZ]
  clear hZ r0 r1 r2 b1
  go_enter Tryd.func82, Tryd.ntmps82
  go_wp2_with (go_at_call 39; refine (clamp_any _ _).mono ?_; rintro e w' ⟨rfl, rfl⟩)
  refine (Hp.out _).mono ?_
  rintro e w1 ⟨rfl, hb1⟩
  have Hb1 := Lib.hid hb1
  clear hb1
  go_wp2_with (go_at_call 39; refine (clamp_any _ _).mono ?_; rintro e w' ⟨rfl, rfl⟩)
  refine (Hz.out _).mono ?_
  rintro e w2 ⟨rfl, hb2⟩
  have Hb2 := Lib.hid hb2
  clear hb2
  go_wp2_with fail
  go_ret
  exact ⟨by rw [HZ.out]; rfl, Hb1.out.trans (Hb2.out.mono Hb1.out.size)⟩

set_option maxHeartbeats 400000 in
theorem mul_any (a b : Int) (w : World) :
    Calls Tryd.prog 65 #[.int .i64 a, .int .i64 b] w fun e w' => e = .returned (.int .i64 (mulDivI a b 1000)) ∧ Below w.heap.size w w' := by
  go_enter Tryd.func65, Tryd.ntmps65
  go_wp2_with fail
  refine (muldiv_any _ _ _ _).mono ?_
  rintro e w1 ⟨rfl, hb1⟩
  go_wp2_with fail
  go_ret
  exact ⟨rfl, hb1⟩
/-- what two numbers have come to after k rounds -/
def tot2 (a b : Int) (k : Nat) : Int := if k = 0 then 0 else if k = 1 then clampI a else clampI a + clampI b

set_option maxHeartbeats 400000 in
theorem total_two (a b : Int) (p : Nat) (o : Nat) (w : World) (ha : w.cell? ⟨p, o, none⟩ = some (.int .i64 a)) (hb : w.cell? ⟨p, o + 1, none⟩ = some (.int .i64 b)) :
    Calls Tryd.prog 81 #[.slice (some ⟨p, o, none⟩) 2 2] w fun e w' => e = .returned (.int .i64 (clampI a + clampI b)) ∧ w = w' := by
  have r0 := clampI_range a
  have r1 := clampI_range b
  go_enter Tryd.func81, Tryd.ntmps81
  go_wp2_with fail
  go_loop [3, 8] (fun s i => ∃ k : Nat, k ≤ 2 ∧ i = .int .i64 k ∧ s = .int .i64 (tot2 a b k)) (fun _ i => 2 - (intOf i).toNat)
  case atStart => exact ⟨0, by omega, rfl, rfl⟩
  case round =>
    obtain ⟨k, hk, rfl, rfl⟩ := hrel
    have hk3 : k = 0 ∨ k = 1 ∨ k = 2 := by omega
    clear hk
    rcases hk3 with rfl | rfl | rfl
    · have e0 : tot2 a b 0 = 0 := rfl
      go_wp2_with (go_at_call 39; refine (clamp_any _ _).mono ?_; rintro e w' ⟨rfl, rfl⟩)
      go_round
      case rel => exact ⟨1, by omega, rfl, by simp [tot2]⟩
      case measure => simp [intOf]
    · have e0 : tot2 a b 1 = clampI a := rfl
      go_wp2_with (go_at_call 39; refine (clamp_any _ _).mono ?_; rintro e w' ⟨rfl, rfl⟩)
      go_round
      case rel => exact ⟨2, by omega, rfl, by simp [tot2]⟩
      case measure => simp [intOf]
    · have e0 : tot2 a b 2 = clampI a + clampI b := rfl
      go_wp2_with fail
      go_ret
      exact ⟨ret_int e0, rfl⟩

def subI (a b : Int) : Int := clampI (clampI a + clampI (-clampI b))

set_option maxHeartbeats 400000 in
theorem sub_any (a b : Int) (w : World) :
    Calls Tryd.prog 70 #[.int .i64 a, .int .i64 b] w fun e w' => e = .returned (.int .i64 (subI a b)) ∧ Below w.heap.size w w' := by
  have r1 := clampI_range b
  go_enter Tryd.func70, Tryd.ntmps70
  go_wp2_with fail
  refine (clamp_any _ _).mono ?_
  rintro e w1 ⟨rfl, rfl⟩
  go_wp2_with fail
  refine (total_two a (-clampI b) _ _ _ (by simp [World.cell?_alloc_new]) (by simp [World.cell?_alloc_new])).mono ?_
  rintro e w1 ⟨rfl, rfl⟩
  go_wp2_with fail
  refine (clamp_any _ _).mono ?_
  rintro e w1 ⟨rfl, rfl⟩
  go_wp2_with fail
  go_ret
  exact ⟨rfl, (Below.refl _ _).alloc (Nat.le_refl _) _⟩

end Go.Proofs.YtaobbedajgkmiaaDoor
