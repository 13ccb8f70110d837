/- The law CurveInverses. -/
import Derived.Test.YthghcppdfeeloaaRc
namespace Go.Proofs.Ythghcppdfeeloaa
open Go.RowKit

set_option maxHeartbeats 2000000 in
set_option maxRecDepth 100000 in
theorem inverses_law (a : Option Addr) (n cap : Nat) (y lo hi : Int) (ks : List (Int × Int)) (w : World) (h : IsKnots w a n ks) (_ : -9223372036854775808 ≤ y ∧ y ≤ 9223372036854775807) (_ : -9223372036854775808 ≤ lo ∧ lo ≤ 9223372036854775807) (_ : -9223372036854775808 ≤ hi ∧ hi ≤ 9223372036854775807) :
    Calls Try.prog 4 #[.slice a n cap, .int .i64 y, .int .i64 lo, .int .i64 hi] w fun e w' => e = .returned (.bool true) ∧ Below w.heap.size w w' := by
  have HAw := Lib.hid (awake_yes w)
  by_cases h40 : 40 < n
  · have t0 : decide ((40 : Int) < (n : Int)) = true := decide_eq_true (by omega)
    clear h h40
    go_enter Try.func4, Try.ntmps4
    go_wp2_with fail
    refine HAw.out.mono ?_
    rintro e w1 ⟨rfl, hb1⟩
    have B1 := Lib.hid hb1
    clear hb1
    go_wp2_with fail
    go_ret
    exact ⟨rfl, B1.out⟩
  · have t0 : decide ((40 : Int) < (n : Int)) = false := decide_eq_false (by omega)
    have H1 := Lib.hid fun w' (hb : Below w.heap.size w w') => inverse_any a n cap ks y w' (h.at hb)
    have H2 := Lib.hid fun w' (hb : Below w.heap.size w w') => rinverse_any a n cap ks y w' (h.at hb)
    have H3 := Lib.hid fun w' (hb : Below w.heap.size w w') => bounds_any a n cap ks lo hi w' (h.at hb)
    have H4 := Lib.hid fun w' (hb : Below w.heap.size w w') => rbounds_any a n cap ks lo hi w' (h.at hb)
    obtain ⟨I1, hI1⟩ : ∃ t, t = (invI ks y).1 := ⟨_, rfl⟩
    obtain ⟨I2, hI2⟩ : ∃ t, t = (invI ks y).2 := ⟨_, rfl⟩
    obtain ⟨J1, hJ1⟩ : ∃ t, t = (boundsA ks lo hi).1 := ⟨_, rfl⟩
    obtain ⟨J2, hJ2⟩ : ∃ t, t = (boundsA ks lo hi).2.1 := ⟨_, rfl⟩
    obtain ⟨J3, hJ3⟩ : ∃ t, t = (boundsA ks lo hi).2.2 := ⟨_, rfl⟩
    rw [← hI1, ← hI2] at H1 H2
    rw [← hJ1, ← hJ2, ← hJ3] at H3 H4
    clear h h40 hI1 hI2 hJ1 hJ2 hJ3
    go_enter Try.func4, Try.ntmps4
    go_wp2_with fail
    refine HAw.out.mono ?_
    rintro e w1 ⟨rfl, hb1⟩
    have B1 := Lib.hid hb1
    clear hb1
    go_wp2_with fail
    refine (H1.out _ B1.out).mono ?_
    rintro e w2 ⟨rfl, hb2⟩
    have B2 := Lib.hid (B1.out.trans (hb2.mono B1.out.size))
    clear hb2
    go_wp2_with fail
    refine (H2.out _ B2.out).mono ?_
    rintro e w3 ⟨rfl, hb3⟩
    have B3 := Lib.hid (B2.out.trans (hb3.mono B2.out.size))
    clear hb3
    go_wp2_with fail
    refine (H3.out _ B3.out).mono ?_
    rintro e w4 ⟨rfl, hb4⟩
    have B4 := Lib.hid (B3.out.trans (hb4.mono B3.out.size))
    clear hb4
    go_wp2_with fail
    have B5 := Lib.hid (B4.out.alloc B4.out.size (.cells #[.int .i64 J1, .int .i64 J2] 34))
    have e0 := cell_two0 w4 (.int .i64 J1) (.int .i64 J2) 34
    have e1 := cell_two1 w4 (.int .i64 J1) (.int .i64 J2) 34
    have e4 : w4.heap.size < (w4.alloc (.cells #[.int .i64 J1, .int .i64 J2] 34)).heap.size := by rw [World.size_alloc]; omega
    obtain ⟨g4, hg4⟩ : ∃ g4, g4 = w4.heap.size := ⟨_, rfl⟩
    rw [← hg4] at e0 e1 e4 ⊢
    generalize w4.alloc (.cells #[.int .i64 J1, .int .i64 J2] 34) = W4 at e0 e1 e4 B5 ⊢
    clear hg4 B4
    refine (H4.out _ B5.out).mono ?_
    rintro e w5 ⟨rfl, hb5⟩
    have c0 := (hb5.cell (p := ⟨g4, 0, none⟩) e4).trans e0
    have c1 := (hb5.cell (p := ⟨g4, 1, none⟩) e4).trans e1
    have s5 := Nat.lt_of_lt_of_le e4 hb5.size
    have B6 := Lib.hid (B5.out.trans (hb5.mono B5.out.size))
    clear hb5 e0 e1 e4 B5
    have d0 : (w5.alloc (.cells #[.int .i64 J1, .int .i64 J2] 34)).cell? ⟨g4, 0, none⟩ = some (.int .i64 J1) := cell_alloc_sl _ c0
    have d1 : (w5.alloc (.cells #[.int .i64 J1, .int .i64 J2] 34)).cell? ⟨g4, 1, none⟩ = some (.int .i64 J2) := cell_alloc_sl _ c1
    have f0 := cell_two0 w5 (.int .i64 J1) (.int .i64 J2) 34
    have f1 := cell_two1 w5 (.int .i64 J1) (.int .i64 J2) 34
    have B7 := Lib.hid (B6.out.alloc B6.out.size (.cells #[.int .i64 J1, .int .i64 J2] 34))
    clear c0 c1 s5
    go_wp2_with fail
    go_ret
    exact ⟨rfl, B7.out⟩
end Go.Proofs.Ythghcppdfeeloaa
