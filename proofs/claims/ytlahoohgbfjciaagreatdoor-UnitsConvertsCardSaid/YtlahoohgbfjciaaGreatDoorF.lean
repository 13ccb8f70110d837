/- Contracts of the functions of numbers of two words: each returns what the plain facts' functions say; the world is as it was, or has grown. -/
import Derived.Test.YtlahoohgbfjciaaGreatDoorProg
import Derived.Test.YtlahoohgbfjciaaGreatDoorS
import Derived.Test.YtlahoohgbfjciaaGreatDoorShelf
import Derived.WalkKit
import Derived.WalkSpells
import Derived.WalkLawsBesides
import Derived.Handy
import Derived.Below
import Derived.Lib.Hide
namespace Go.Proofs.YtlahoohgbfjciaaGreatDoor
open Go.RowKit

theorem ret_int {k : IntKind} {a b : Int} (h : a = b) : Ending.returned (.int k a) = .returned (.int k b) := by rw [h]

set_option maxHeartbeats 400000 in
theorem clamp_any (n : Int) (w : World) :
    Calls Tryz.prog 8 #[.int .i64 n] w fun e w' => e = .returned (.int .i64 (clampI n)) ∧ w = w' := by
  go_enter Tryz.func8, Tryz.ntmps8
  go_wp2
  go_ret
  exact ⟨rfl, rfl⟩

/-- two words as the program has them -/
def wordsV (h l : Int) : Value := .agg #[.int .u64 h, .int .u64 l]
abbrev pairV (V : Int) : Value := wordsV (hiW V) (loW V)
theorem uns_id (a : Int) (h : 0 ≤ a) (h2 : a < 9223372036854775808) : uns a = a := by unfold uns; omega

theorem mul64_int (x y : Int) (hx : 0 ≤ x) (hx2 : x < 18446744073709551616) (hy : 0 ≤ y) (hy2 : y < 18446744073709551616) (w : World) :
    Calls Tryz.prog 25 #[.int .u64 x, .int .u64 y] w fun e w' => e = .returned (.tuple #[.int .u64 (x * y / 18446744073709551616), .int .u64 (x * y % 18446744073709551616)]) ∧ w = w' := by
  obtain ⟨a, rfl⟩ := Int.eq_ofNat_of_zero_le hx
  obtain ⟨b, rfl⟩ := Int.eq_ofNat_of_zero_le hy
  refine (Tryz.bits_Mul64 a b (by omega) (by omega) w).mono ?_
  rintro e w' ⟨rfl, rfl⟩
  refine ⟨?_, rfl⟩
  rw [← Int.natCast_mul]
  rfl

theorem wrapU (a : Int) : IntKind.u64.wrap a = uns a := IntKind.wrap_u64 a
theorem uns_range (a : Int) : 0 ≤ uns a ∧ uns a < 18446744073709551616 := by unfold uns; omega

end Go.Proofs.YtlahoohgbfjciaaGreatDoor
