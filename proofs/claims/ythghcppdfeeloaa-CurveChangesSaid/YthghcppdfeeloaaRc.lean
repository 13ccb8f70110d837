/- The specification's Bounds, every way. -/
import Derived.Test.YthghcppdfeeloaaRb
namespace Go.Proofs.Ythghcppdfeeloaa
open Go.RowKit

set_option maxHeartbeats 1000000 in
theorem rbounds_else (a : Option Addr) (n cap : Nat) (ks : List (Int × Int)) (lo hi : Int) (w : World) (h : IsKnots w a n ks) (hd : checkL ks ≠ 0 ∨ hi < lo) :
    Calls Try.prog 21 #[.slice a n cap, .int .i64 lo, .int .i64 hi] w fun e w' => e = .returned (.tuple #[.agg #[.int .i64 0, .int .i64 0], .int .i64 (boundsE ks)]) ∧ Below w.heap.size w w' := by
  have hk := fun w' (hw : Below w.heap.size w w') => rcheck_any a n cap ks w' (h.at hw)
  by_cases he : checkL ks ≠ 0
  · have e1 : boundsE ks = checkL ks := if_pos he
    rw [e1]
    obtain ⟨E, hE⟩ : ∃ E, E = checkL ks := ⟨_, rfl⟩
    rw [← hE] at hk he ⊢
    have HK := Lib.hid hk
    have t0 : (E != 0) = true := by rw [bne_iff_ne]; exact he
    clear hk he h hE hd e1
    go_enter Try.func21, Try.ntmps21
    go_wp2_with fail
    have B0 : Below w.heap.size w (w.alloc (.cells #[.int .i64 0, .int .i64 0] 34)) := (Below.refl _ w).alloc (Nat.le_refl _) _
    refine (HK.out _ B0).mono ?_
    rintro e w1 ⟨rfl, hb1⟩
    have B1 := Lib.hid (B0.trans (hb1.mono B0.size))
    have sz := hb1.size
    rw [World.size_alloc] at sz
    have q0 : w1.cell? ⟨w.heap.size, 0, none⟩ = some (.int .i64 0) := (hb1.cell (p := ⟨w.heap.size, 0, none⟩) (by rw [World.size_alloc]; show w.heap.size < _; omega)).trans (cell_two0 _ _ _ _)
    have q1 : w1.cell? ⟨w.heap.size, 1, none⟩ = some (.int .i64 0) := (hb1.cell (p := ⟨w.heap.size, 1, none⟩) (by rw [World.size_alloc]; show w.heap.size < _; omega)).trans (cell_two1 _ _ _ _)
    have q2 : w1.frozen? ⟨w.heap.size, 0, none⟩ = false := (hb1.frozen (p := ⟨w.heap.size, 0, none⟩) (by rw [World.size_alloc]; show w.heap.size < _; omega)).trans (by simp)
    have q3 : w1.frozen? ⟨w.heap.size, 1, none⟩ = false := (hb1.frozen (p := ⟨w.heap.size, 1, none⟩) (by rw [World.size_alloc]; show w.heap.size < _; omega)).trans (by simp)
    clear hb1 B0 sz HK
    go_wp2_with fail
    have y0 : (w1.setCell ⟨w.heap.size, 0, none⟩ (.int .i64 0)).cell? ⟨w.heap.size, 0, none⟩ = some (.int .i64 0) := World.cell?_setCell_same _ _ _ q0
    have y2 : (w1.setCell ⟨w.heap.size, 0, none⟩ (.int .i64 0)).cell? ⟨w.heap.size, 1, none⟩ = some (.int .i64 0) := (World.cell?_setCell_other _ _ _ _ (by simp)).trans q1
    have y1 : ((w1.setCell ⟨w.heap.size, 0, none⟩ (.int .i64 0)).setCell ⟨w.heap.size, 1, none⟩ (.int .i64 0)).cell? ⟨w.heap.size, 1, none⟩ = some (.int .i64 0) := World.cell?_setCell_same _ _ _ y2
    (try simp only [Exit.inBlock, Exit.then])
    refine bodyPost_ret (by simp [results, Try.results21, go_sem, y0, y1]; try rfl) rfl ?_
    exact ⟨rfl, (B1.out.setCell (Nat.le_refl _) _).setCell (Nat.le_refl _) _⟩
  · have he0 : checkL ks = 0 := by omega
    have e1 : boundsE ks = 1 := if_neg he
    rw [e1]
    rw [he0] at hk
    have HK := Lib.hid hk
    have t1 : decide (hi < lo) = true := by rw [decide_eq_true_eq]; rcases hd with h1 | h1; exact absurd he0 h1; exact h1
    clear hk he h hd e1 he0
    go_enter Try.func21, Try.ntmps21
    go_wp2_with fail
    have B0 : Below w.heap.size w (w.alloc (.cells #[.int .i64 0, .int .i64 0] 34)) := (Below.refl _ w).alloc (Nat.le_refl _) _
    refine (HK.out _ B0).mono ?_
    rintro e w1 ⟨rfl, hb1⟩
    have B1 := Lib.hid (B0.trans (hb1.mono B0.size))
    have sz := hb1.size
    rw [World.size_alloc] at sz
    have q0 : w1.cell? ⟨w.heap.size, 0, none⟩ = some (.int .i64 0) := (hb1.cell (p := ⟨w.heap.size, 0, none⟩) (by rw [World.size_alloc]; show w.heap.size < _; omega)).trans (cell_two0 _ _ _ _)
    have q1 : w1.cell? ⟨w.heap.size, 1, none⟩ = some (.int .i64 0) := (hb1.cell (p := ⟨w.heap.size, 1, none⟩) (by rw [World.size_alloc]; show w.heap.size < _; omega)).trans (cell_two1 _ _ _ _)
    have q2 : w1.frozen? ⟨w.heap.size, 0, none⟩ = false := (hb1.frozen (p := ⟨w.heap.size, 0, none⟩) (by rw [World.size_alloc]; show w.heap.size < _; omega)).trans (by simp)
    have q3 : w1.frozen? ⟨w.heap.size, 1, none⟩ = false := (hb1.frozen (p := ⟨w.heap.size, 1, none⟩) (by rw [World.size_alloc]; show w.heap.size < _; omega)).trans (by simp)
    clear hb1 B0 sz HK
    go_wp2_with fail
    have y0 : (w1.setCell ⟨w.heap.size, 0, none⟩ (.int .i64 0)).cell? ⟨w.heap.size, 0, none⟩ = some (.int .i64 0) := World.cell?_setCell_same _ _ _ q0
    have y2 : (w1.setCell ⟨w.heap.size, 0, none⟩ (.int .i64 0)).cell? ⟨w.heap.size, 1, none⟩ = some (.int .i64 0) := (World.cell?_setCell_other _ _ _ _ (by simp)).trans q1
    have y1 : ((w1.setCell ⟨w.heap.size, 0, none⟩ (.int .i64 0)).setCell ⟨w.heap.size, 1, none⟩ (.int .i64 0)).cell? ⟨w.heap.size, 1, none⟩ = some (.int .i64 0) := World.cell?_setCell_same _ _ _ y2
    (try simp only [Exit.inBlock, Exit.then])
    refine bodyPost_ret (by simp [results, Try.results21, go_sem, y0, y1]; try rfl) rfl ?_
    exact ⟨rfl, (B1.out.setCell (Nat.le_refl _) _).setCell (Nat.le_refl _) _⟩

theorem rbounds_any (a : Option Addr) (n cap : Nat) (ks : List (Int × Int)) (lo hi : Int) (w : World) (h : IsKnots w a n ks) :
    Calls Try.prog 21 #[.slice a n cap, .int .i64 lo, .int .i64 hi] w fun e w' => e = .returned (.tuple #[.agg #[.int .i64 (boundsA ks lo hi).1, .int .i64 (boundsA ks lo hi).2.1], .int .i64 (boundsA ks lo hi).2.2]) ∧ Below w.heap.size w w' := by
  by_cases hd : checkL ks ≠ 0 ∨ hi < lo
  · have e : boundsA ks lo hi = (0, 0, boundsE ks) := if_pos hd
    rw [e]; exact rbounds_else a n cap ks lo hi w h hd
  · have e : boundsA ks lo hi = ((boundsI ks lo hi).1, (boundsI ks lo hi).2, 0) := if_neg hd
    have he0 : checkL ks = 0 := by omega
    obtain ⟨b, off, rfl, hb, rfl, hc⟩ := h.some (check_zero ks he0).1
    rw [e]; exact rbounds_some b off cap ks lo hi w hb hc he0 (by omega)
end Go.Proofs.Ythghcppdfeeloaa
