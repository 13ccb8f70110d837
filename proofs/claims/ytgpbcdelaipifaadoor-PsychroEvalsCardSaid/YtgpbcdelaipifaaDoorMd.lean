/- Contract of MulDiv. -/
import Derived.Test.YtgpbcdelaipifaaDoorI
import Derived.LoopTactic
namespace Go.Proofs.YtgpbcdelaipifaaDoor
open Go.RowKit

theorem mul_bound (a b A B : Int) (ha : -A ≤ a) (ha2 : a ≤ A) (hb : -B ≤ b) (hb2 : b ≤ B) : -(A * B) ≤ a * b ∧ a * b ≤ A * B := by
  have h : (a * b).natAbs ≤ A.natAbs * B.natAbs := by
    rw [Int.natAbs_mul]
    exact Nat.mul_le_mul (by omega) (by omega)
  have e : ((A.natAbs * B.natAbs : Nat) : Int) = A * B := by
    rw [Int.natCast_mul, show ((A.natAbs : Nat) : Int) = A by omega, show ((B.natAbs : Nat) : Int) = B by omega]
  omega


set_option maxHeartbeats 400000 in
theorem muldiv_any (a b c : Int) (w : World) :
    Calls Tryd.prog 36 #[.int .i64 a, .int .i64 b, .int .i64 c] w fun e w' => e = .returned (.int .i64 (mulDivI a b c)) ∧ Below w.heap.size w w' := by
  have r0 := clampI_range a
  have r1 := clampI_range b
  have r2 := clampI_range c
  have b1 := mul_bound (clampI a) (clampI b) 1000000000000 1000000000000 (by omega) (by omega) (by omega) (by omega)
  have Hp := Lib.hid fun w => product_any (clampI a) (clampI b) w (by omega) (by omega) (by omega) (by omega)
  have Hz := Lib.hid fun w => quotient_any (clampI a * clampI b) (clampI c) w (by omega) (by omega) (by omega) (by omega)
  obtain ⟨Z, hZ⟩ : ∃ Z, Z = mulDivI a b c := ⟨_, rfl⟩
  have HZ := Lib.hid hZ
  rw [← hZ]
  clear hZ r0 r1 r2 b1
  go_enter Tryd.func36, Tryd.ntmps36
  go_wp2_with (go_at_call 42; refine (clamp_any _ _).mono ?_; rintro e w' ⟨rfl, rfl⟩)
  refine (Hp.out _).mono ?_
  rintro e w1 ⟨rfl, hb1⟩
  have Hb1 := Lib.hid hb1
  clear hb1
  go_wp2_with (go_at_call 42; refine (clamp_any _ _).mono ?_; rintro e w' ⟨rfl, rfl⟩)
  refine (Hz.out _).mono ?_
  rintro e w2 ⟨rfl, hb2⟩
  have Hb2 := Lib.hid hb2
  clear hb2
  go_wp2_with fail
  go_ret
  exact ⟨by rw [HZ.out]; rfl, Hb1.out.trans (Hb2.out.mono Hb1.out.size)⟩

end Go.Proofs.YtgpbcdelaipifaaDoor
