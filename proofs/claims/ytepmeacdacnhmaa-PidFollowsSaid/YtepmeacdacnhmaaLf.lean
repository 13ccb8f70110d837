/- The law Follows: Limit and Settle answer as specified, for all numbers. -/
import Derived.Test.YtepmeacdacnhmaaPx
namespace Go.Proofs.Ytepmeacdacnhmaa
open Go.RowKit

set_option maxHeartbeats 4000000 in
set_option maxRecDepth 100000 in
theorem follows_law (l t u d n : Int) (w : World) : Calls Try.prog 5 #[.int .i64 l, .int .i64 t, .int .i64 u, .int .i64 d, .int .i64 n] w fun e w' => e = .returned (.bool true) ∧ Below w.heap.size w w' := by
  obtain ⟨X, hX⟩ : ∃ x, x = limV l t u d n := ⟨_, rfl⟩
  obtain ⟨Y, hY⟩ : ∃ x, x = limE l t u d n := ⟨_, rfl⟩
  obtain ⟨Z, hZ⟩ : ∃ x, x = setV l t u d n := ⟨_, rfl⟩
  obtain ⟨F, hF⟩ : ∃ x, x = setF l t u d n := ⟨_, rfl⟩
  have K1 := Lib.hid (fun w => show Calls Try.prog 11 #[.int .i64 l, .int .i64 t, .int .i64 u, .int .i64 d, .int .i64 n] w fun e w' => e = .returned (.tuple #[.int .i64 X, .int .i64 Y]) ∧ w = w' by rw [hX, hY]; exact limit_any l t u d n w)
  have K2 := Lib.hid (fun w => show Calls Try.prog 12 #[.int .i64 l, .int .i64 t, .int .i64 u, .int .i64 d, .int .i64 n] w fun e w' => e = .returned (.tuple #[.int .i64 X, .int .i64 Y]) ∧ w = w' by rw [hX, hY]; exact rlimit_any l t u d n w)
  have K3 := Lib.hid (fun w => show Calls Try.prog 13 #[.int .i64 l, .int .i64 t, .int .i64 u, .int .i64 d, .int .i64 n] w fun e w' => e = .returned (.tuple #[.int .i64 Z, .int .i64 F]) ∧ w = w' by rw [hZ, hF]; exact settle_any l t u d n w)
  have K4 := Lib.hid (fun w => show Calls Try.prog 14 #[.int .i64 l, .int .i64 t, .int .i64 u, .int .i64 d, .int .i64 n] w fun e w' => e = .returned (.tuple #[.int .i64 Z, .int .i64 F]) ∧ w = w' by rw [hZ, hF]; exact rsettle_any l t u d n w)
  clear hX hY hZ hF
  have HAW := Lib.hid awake_yes
  go_enter Try.func5, Try.ntmps5
  go_wp2_with fail
  refine (K1.out _).mono ?_
  rintro e w' ⟨rfl, rfl⟩
  go_wp2_with fail
  refine (K2.out _).mono ?_
  rintro e w' ⟨rfl, rfl⟩
  go_wp2_with fail
  refine (K3.out _).mono ?_
  rintro e w' ⟨rfl, rfl⟩
  go_wp2_with fail
  refine (K4.out _).mono ?_
  rintro e w' ⟨rfl, rfl⟩
  go_wp2_with fail
  refine (HAW.out _).mono ?_
  rintro e w1 ⟨rfl, hb⟩
  go_wp2_with fail
  go_ret
  exact ⟨rfl, hb⟩
end Go.Proofs.Ytepmeacdacnhmaa
