/- Two units compared. -/
import Derived.Test.YtlahoohgbfjciaaGreatDoorUw
namespace Go.Proofs.YtlahoohgbfjciaaGreatDoor
open Go.RowKit Go.Shelf

theorem eq_int (f : Nat) (a b : Int) (w : World) : (Op.equalIn (f + 1) 3 (.int .i64 a) (.int .i64 b)).run Tryz.prog w = .ok (a == b) w := by
  have u3 := Tryz.underlying3
  rw [Op.equalIn]
  simp only [Sem.run_bind, run_underlying u3, Result.andThen_ok]
  go_simp
theorem eq_int64 (f : Nat) (a b : Int) (w : World) : (Op.equalIn (f + 1) 2 (.int .i64 a) (.int .i64 b)).run Tryz.prog w = .ok (a == b) w := by
  have u3 := Tryz.underlying2
  rw [Op.equalIn]
  simp only [Sem.run_bind, run_underlying u3, Result.andThen_ok]
  go_simp
theorem eq_arr (f : Nat) (a b c d p q r s : Int) (w : World) : (Op.equalIn (f + 2) 22 (.agg #[.int .i64 a, .int .i64 b, .int .i64 c, .int .i64 d]) (.agg #[.int .i64 p, .int .i64 q, .int .i64 r, .int .i64 s])).run Tryz.prog w = .ok (a == p && b == q && c == r && d == s) w := by
  have u3 := Tryz.underlying3
  have a3 := Tryz.isAgg3
  have z3 := Tryz.sizeOf3
  rw [Op.equalIn]
  simp only [Sem.run_bind, run_underlying Tryz.underlying22, Result.andThen_ok]
  simp only [Std.Legacy.Range.forIn_eq_forIn_range', Std.Legacy.Range.size, Nat.sub_zero, Nat.add_sub_cancel, Nat.div_one, List.range'_succ, List.range'_zero, List.forIn_cons, List.forIn_nil]
  go_simp
  by_cases h1 : a = p <;> by_cases h2 : b = q <;> by_cases h3 : c = r <;> by_cases h4 : d = s <;> simp [h1, h2, h3, h4]
theorem eq_unit (a0 a1 a2 a3 an ad ao b0 b1 b2 b3 bn bd bo : Int) (w : World) : (Op.equalIn 10000 28 (.agg #[.int .i64 a0, .int .i64 a1, .int .i64 a2, .int .i64 a3, .int .i64 an, .int .i64 ad, .int .i64 ao]) (.agg #[.int .i64 b0, .int .i64 b1, .int .i64 b2, .int .i64 b3, .int .i64 bn, .int .i64 bd, .int .i64 bo])).run Tryz.prog w = .ok (decide (a0 = b0 ∧ a1 = b1 ∧ a2 = b2 ∧ a3 = b3 ∧ an = bn ∧ ad = bd ∧ ao = bo)) w := by
  rw [show (10000 : Nat) = 9997 + 2 + 1 from rfl, Op.equalIn]
  have hA := eq_arr 9997 a0 a1 a2 a3 b0 b1 b2 b3
  have hI := fun a b w => eq_int64 9998 a b w
  simp only [Sem.run_bind, run_underlying Tryz.underlying28, Result.andThen_ok]
  go_simp
  by_cases h0 : a0 = b0
  case neg => simp [h0]
  by_cases h1 : a1 = b1
  case neg => simp [h0, h1]
  by_cases h2 : a2 = b2
  case neg => simp [h0, h1, h2]
  by_cases h3 : a3 = b3
  case neg => simp [h0, h1, h2, h3]
  by_cases h4 : an = bn
  case neg => simp [h0, h1, h2, h3, h4]
  by_cases h5 : ad = bd
  case neg => simp [h0, h1, h2, h3, h4, h5]
  by_cases h6 : ao = bo
  case neg => simp [h0, h1, h2, h3, h4, h5, h6]
  simp [h0, h1, h2, h3, h4, h5, h6]
end Go.Proofs.YtlahoohgbfjciaaGreatDoor
