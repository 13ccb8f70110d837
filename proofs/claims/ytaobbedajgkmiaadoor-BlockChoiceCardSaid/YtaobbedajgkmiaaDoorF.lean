/- Contracts of the functions of numbers of two words: each returns what the plain facts' functions say; the world is as it was, or has grown. -/
import Derived.Test.YtaobbedajgkmiaaDoorProg
import Derived.Test.YtaobbedajgkmiaaDoorS
import Derived.Test.YtaobbedajgkmiaaDoorShelf
import Derived.WalkKit
import Derived.WalkSpells
import Derived.WalkLawsBesides
import Derived.Handy
import Derived.Below
import Derived.Lib.Hide
namespace Go.Proofs.YtaobbedajgkmiaaDoor
open Go.RowKit

theorem ret_int {k : IntKind} {a b : Int} (h : a = b) : Ending.returned (.int k a) = .returned (.int k b) := by rw [h]

set_option maxHeartbeats 400000 in
theorem clamp_any (n : Int) (w : World) :
    Calls Tryd.prog 39 #[.int .i64 n] w fun e w' => e = .returned (.int .i64 (clampI n)) ∧ w = w' := by
  go_enter Tryd.func39, Tryd.ntmps39
  go_wp2
  go_ret
  exact ⟨rfl, rfl⟩

/-- two words as the program has them -/
def wordsV (h l : Int) : Value := .agg #[.int .u64 h, .int .u64 l]
abbrev pairV (V : Int) : Value := wordsV (hiW V) (loW V)
theorem uns_id (a : Int) (h : 0 ≤ a) (h2 : a < 9223372036854775808) : uns a = a := by unfold uns; omega

theorem mul64_int (x y : Int) (hx : 0 ≤ x) (hx2 : x < 18446744073709551616) (hy : 0 ≤ y) (hy2 : y < 18446744073709551616) (w : World) :
    Calls Tryd.prog 90 #[.int .u64 x, .int .u64 y] w fun e w' => e = .returned (.tuple #[.int .u64 (x * y / 18446744073709551616), .int .u64 (x * y % 18446744073709551616)]) ∧ w = w' := by
  obtain ⟨a, rfl⟩ := Int.eq_ofNat_of_zero_le hx
  obtain ⟨b, rfl⟩ := Int.eq_ofNat_of_zero_le hy
  refine (Tryd.bits_Mul64 a b (by omega) (by omega) w).mono ?_
  rintro e w' ⟨rfl, rfl⟩
  refine ⟨?_, rfl⟩
  rw [← Int.natCast_mul]
  rfl

theorem wrapU (a : Int) : IntKind.u64.wrap a = uns a := IntKind.wrap_u64 a
theorem uns_range (a : Int) : 0 ≤ uns a ∧ uns a < 18446744073709551616 := by unfold uns; omega

set_option maxHeartbeats 400000 in
theorem product_any (a b : Int) (w : World) (ha : -9223372036854775808 ≤ a) (ha2 : a < 9223372036854775808) (hb : -9223372036854775808 ≤ b) (hb2 : b < 9223372036854775808) :
    Calls Tryd.prog 83 #[.int .i64 a, .int .i64 b] w fun e w' => e = .returned (pairV (a * b)) ∧ Below w.heap.size w w' := by
  have ra := uns_range a
  have rb := uns_range b
  by_cases h1 : a < 0 <;> by_cases h2 : b < 0
  · have hp := prod_nn a b h1 ha h2 hb
    have HP := Lib.hid hp; clear hp
    go_enter Tryd.func83, Tryd.ntmps83
    go_wp2_with (go_at_call 90; (try simp only [wrapU]); refine (mul64_int _ _ (by omega) (by omega) (by omega) (by omega) _).mono ?_; rintro e w' ⟨rfl, rfl⟩)
    (try simp only [wrapU])
    rw [HP.out.1, HP.out.2]
    obtain ⟨h, hh⟩ : ∃ h, h = hiW (a * b) := ⟨_, rfl⟩
    obtain ⟨l, hl⟩ : ∃ l, l = loW (a * b) := ⟨_, rfl⟩
    rw [← hh, ← hl]
    exact bodyPost_ret (v := wordsV h l) (by simp [results, Tryd.results83, go_sem, wordsV]) rfl ⟨by rw [hh, hl], (Below.refl _ _).alloc (Nat.le_refl _) _⟩
  · have hp := prod_np a b h1 ha (by omega) hb2
    rw [uns_id b (by omega) hb2] at hp
    have HP := Lib.hid hp; clear hp
    go_enter Tryd.func83, Tryd.ntmps83
    go_wp2_with (go_at_call 90; (try simp only [wrapU]); refine (mul64_int _ _ (by omega) (by omega) (by omega) (by omega) _).mono ?_; rintro e w' ⟨rfl, rfl⟩)
    (try simp only [wrapU])
    rw [HP.out.1, HP.out.2]
    obtain ⟨h, hh⟩ : ∃ h, h = hiW (a * b) := ⟨_, rfl⟩
    obtain ⟨l, hl⟩ : ∃ l, l = loW (a * b) := ⟨_, rfl⟩
    rw [← hh, ← hl]
    exact bodyPost_ret (v := wordsV h l) (by simp [results, Tryd.results83, go_sem, wordsV]) rfl ⟨by rw [hh, hl], (Below.refl _ _).alloc (Nat.le_refl _) _⟩
  · have hp := prod_pn a b (by omega) ha2 h2 hb
    rw [uns_id a (by omega) ha2] at hp
    have HP := Lib.hid hp; clear hp
    go_enter Tryd.func83, Tryd.ntmps83
    go_wp2_with (go_at_call 90; (try simp only [wrapU]); refine (mul64_int _ _ (by omega) (by omega) (by omega) (by omega) _).mono ?_; rintro e w' ⟨rfl, rfl⟩)
    (try simp only [wrapU])
    rw [HP.out.1, HP.out.2]
    obtain ⟨h, hh⟩ : ∃ h, h = hiW (a * b) := ⟨_, rfl⟩
    obtain ⟨l, hl⟩ : ∃ l, l = loW (a * b) := ⟨_, rfl⟩
    rw [← hh, ← hl]
    exact bodyPost_ret (v := wordsV h l) (by simp [results, Tryd.results83, go_sem, wordsV]) rfl ⟨by rw [hh, hl], (Below.refl _ _).alloc (Nat.le_refl _) _⟩
  · have hp := prod_pp a b (by omega) ha2 (by omega) hb2
    rw [uns_id a (by omega) ha2, uns_id b (by omega) hb2] at hp
    have HP := Lib.hid hp; clear hp
    go_enter Tryd.func83, Tryd.ntmps83
    go_wp2_with (go_at_call 90; (try simp only [wrapU]); refine (mul64_int _ _ (by omega) (by omega) (by omega) (by omega) _).mono ?_; rintro e w' ⟨rfl, rfl⟩)
    (try simp only [wrapU])
    rw [HP.out.1, HP.out.2]
    obtain ⟨h, hh⟩ : ∃ h, h = hiW (a * b) := ⟨_, rfl⟩
    obtain ⟨l, hl⟩ : ∃ l, l = loW (a * b) := ⟨_, rfl⟩
    rw [← hh, ← hl]
    exact bodyPost_ret (v := wordsV h l) (by simp [results, Tryd.results83, go_sem, wordsV]) rfl ⟨by rw [hh, hl], (Below.refl _ _).alloc (Nat.le_refl _) _⟩
end Go.Proofs.YtaobbedajgkmiaaDoor
