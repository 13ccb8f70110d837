/- Contracts of civil.ParseClock . As XI of wip/tplciv, ParseClock alone. -/
import Derived.Test.YtaaaddmdcldclaaGreatDoorCh
namespace Go.Proofs.YtaaaddmdcldclaaGreatDoor.Cv
open Go.RowKit

theorem bdraw {B : Nat} {w w' : World} (h : Below B w w') (n : Nat) : Below B w (w'.drewN n) := h.trans (below_drewN _ _ _)
/-- hour and minute of a text -/
def hh (l : List UInt8) : Int := (numL (l.take 2) : Nat)
def mm (l : List UInt8) : Int := (numL (l.drop 3) : Nat)
def clockR (l : List UInt8) : Int × Int := if formL l clockF = true then (if hh l < 24 ∧ mm l < 60 then (hh l * 60 + mm l, 0) else (0, 6)) else (0, 2)
theorem numL_lt (l : List UInt8) (k : Nat) (h : digs l = true) (hk : l.length ≤ k) (k4 : k ≤ 4) : 0 ≤ ((numL l : Nat) : Int) ∧ ((numL l : Nat) : Int) < 10000 := by
  have h1 := numF_lt l 0 h
  have h2 : 10 ^ l.length ≤ 10 ^ 4 := Nat.pow_le_pow_right (by omega) (by omega)
  have : numL l = numF 0 l := rfl
  omega

theorem args22 (w : World) (i : Nat) (hi : i < 2) : (w.alloc (Obj.cells #[.int .i64 2, .int .i64 2] 3)).cell? ⟨w.heap.size, i, none⟩ = some (.int .i64 (([2, 2] : List Nat).getD i 0 : Nat)) := by
  rcases (by omega : i = 0 ∨ i = 1) with rfl | rfl
  · simp
  · simp
theorem args422 (w : World) (i : Nat) (hi : i < 3) : (w.alloc (Obj.cells #[.int .i64 4, .int .i64 2, .int .i64 2] 3)).cell? ⟨w.heap.size, i, none⟩ = some (.int .i64 (([4, 2, 2] : List Nat).getD i 0 : Nat)) := by
  rcases (by omega : i = 0 ∨ i = 1 ∨ i = 2) with rfl | rfl | rfl
  · simp
  · simp
  · simp

set_option maxHeartbeats 1000000 in
theorem parseClock_no (s : ByteArray) (w : World) (hs : s.size ≤ 1000) (h : formL s.data.toList clockF = false) :
    Calls Tryz.prog 85 #[.string s] w fun e w' => e = .returned (.tuple #[.int .i64 0, .int .i64 2]) ∧ Below w.heap.size w w' := by
  have H := Lib.hid (rn_no s 58 w.heap.size 2 [2, 2] (w.alloc (Obj.cells #[.int .i64 2, .int .i64 2] 3)) hs (by simp) (fun i hi => by rcases (show i = 0 ∨ i = 1 by simp at hi; omega) with rfl | rfl <;> decide) (by decide) (by decide) (fun i hi => args22 w i hi) (by rw [clock_ok]; exact h))
  clear h
  go_enter Tryz.func85, Tryz.ntmps85
  go_wp2_with fail
  refine H.out.mono ?_
  rintro e w1 ⟨rfl, hb⟩
  have B := Lib.hid (((Below.refl w.heap.size w).alloc (Nat.le_refl _) _).trans (hb.mono (by simp)))
  clear hb
  go_wp2_with fail
  go_ret2
  exact ⟨rfl, B.out⟩

set_option maxHeartbeats 1000000 in
theorem parseClock_yes (s : ByteArray) (w : World) (hs : s.size ≤ 1000) (h : formL s.data.toList clockF = true) :
    Calls Tryz.prog 85 #[.string s] w fun e w' => e = .returned (.tuple #[.int .i64 (clockR s.data.toList).1, .int .i64 (clockR s.data.toList).2]) ∧ Below w.heap.size w w' := by
  have H := Lib.hid (rn_yes s 58 w.heap.size 2 [2, 2] (w.alloc (Obj.cells #[.int .i64 2, .int .i64 2] 3)) hs (by simp) (fun i hi => by rcases (show i = 0 ∨ i = 1 by simp at hi; omega) with rfl | rfl <;> decide) (by decide) (by decide) (fun i hi => args22 w i hi) (by rw [clock_ok]; exact h))
  obtain ⟨v0, v1, d0, d1, hl⟩ := clock_vals s h
  have r0 := numL_lt _ 2 d0 (by rw [List.length_take]; omega) (by omega)
  have r1 := numL_lt _ 2 d1 (by rw [List.length_drop]; omega) (by omega)
  have hR : clockR s.data.toList = if hh s.data.toList < 24 ∧ mm s.data.toList < 60 then (hh s.data.toList * 60 + mm s.data.toList, 0) else (0, 6) := by unfold clockR; rw [if_pos h]
  rw [hR]
  change 0 ≤ hh s.data.toList ∧ hh s.data.toList < 10000 at r0
  change 0 ≤ mm s.data.toList ∧ mm s.data.toList < 10000 at r1
  change _ = hh s.data.toList at v0
  change _ = mm s.data.toList at v1
  obtain ⟨x, hx⟩ : ∃ x, x = hh s.data.toList := ⟨_, rfl⟩
  obtain ⟨y, hy⟩ : ∃ y, y = mm s.data.toList := ⟨_, rfl⟩
  rw [← hx] at r0 v0 ⊢
  rw [← hy] at r1 v1 ⊢
  have HV0 := Lib.hid v0
  have HV1 := Lib.hid v1
  clear v0 v1 d0 d1 hl hR hx hy h
  rcases (by omega : 24 ≤ x ∨ (x < 24 ∧ 60 ≤ y) ∨ (x < 24 ∧ y < 60)) with hc | ⟨hc1, hc2⟩ | ⟨hc1, hc2⟩
  · rw [if_neg (by omega)]
    go_enter Tryz.func85, Tryz.ntmps85
    go_wp2_with fail
    refine H.out.mono ?_
    rintro e w1 ⟨hb, b, k, rfl, hcs⟩
    have B := Lib.hid (((Below.refl w.heap.size w).alloc (Nat.le_refl _) _).trans (hb.mono (by simp)))
    have c0 : w1.cell? ⟨b, 0, none⟩ = some (.int .i64 x) := by rw [← HV0.out]; exact hcs 0 (by decide)
    have c1 : w1.cell? ⟨b, 1, none⟩ = some (.int .i64 y) := by rw [← HV1.out]; exact hcs 1 (by decide)
    clear hb hcs
    go_wp2_with fail
    go_quiet (fail)
    go_wp2_with fail
    go_ret2
    exact ⟨rfl, bdraw B.out _⟩
  · rw [if_neg (by omega)]
    go_enter Tryz.func85, Tryz.ntmps85
    go_wp2_with fail
    refine H.out.mono ?_
    rintro e w1 ⟨hb, b, k, rfl, hcs⟩
    have B := Lib.hid (((Below.refl w.heap.size w).alloc (Nat.le_refl _) _).trans (hb.mono (by simp)))
    have c0 : w1.cell? ⟨b, 0, none⟩ = some (.int .i64 x) := by rw [← HV0.out]; exact hcs 0 (by decide)
    have c1 : w1.cell? ⟨b, 1, none⟩ = some (.int .i64 y) := by rw [← HV1.out]; exact hcs 1 (by decide)
    clear hb hcs
    go_wp2_with fail
    go_quiet (fail)
    go_wp2_with fail
    go_ret2
    exact ⟨rfl, bdraw B.out _⟩
  · rw [if_pos ⟨hc1, hc2⟩]
    go_enter Tryz.func85, Tryz.ntmps85
    go_wp2_with fail
    refine H.out.mono ?_
    rintro e w1 ⟨hb, b, k, rfl, hcs⟩
    have B := Lib.hid (((Below.refl w.heap.size w).alloc (Nat.le_refl _) _).trans (hb.mono (by simp)))
    have c0 : w1.cell? ⟨b, 0, none⟩ = some (.int .i64 x) := by rw [← HV0.out]; exact hcs 0 (by decide)
    have c1 : w1.cell? ⟨b, 1, none⟩ = some (.int .i64 y) := by rw [← HV1.out]; exact hcs 1 (by decide)
    clear hb hcs
    go_wp2_with fail
    go_quiet (fail)
    go_wp2_with fail
    go_ret2
    exact ⟨rfl, bdraw B.out _⟩

/-- year, month and day of a text -/
def dY (l : List UInt8) : Int := (numL (l.take 4) : Nat)
def dM (l : List UInt8) : Int := (numL ((l.take 7).drop 5) : Nat)
def dD (l : List UInt8) : Int := (numL (l.drop 8) : Nat)
end Go.Proofs.YtaaaddmdcldclaaGreatDoor.Cv
