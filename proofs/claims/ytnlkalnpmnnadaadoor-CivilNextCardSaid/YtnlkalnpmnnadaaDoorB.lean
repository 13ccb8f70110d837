/- Contracts of civil.Check, Day, Weekday, At, Split, and of the specification's Check and Weekday. Asked: the table of the days before each month. -/
import Derived.Test.YtnlkalnpmnnadaaDoorA
import Derived.Outline
namespace Go.Proofs.YtnlkalnpmnnadaaDoor
open Go.RowKit

abbrev dateV (y m d : Int) : Value := .agg #[.int .i64 y, .int .i64 m, .int .i64 d]
def checkI (y m d : Int) : Int := if 2000 ≤ y ∧ y ≤ 2199 then (if 1 ≤ d ∧ d ≤ dim y m then 0 else 6) else 1
theorem checkI_ok (y m d : Int) : checkI y m d = 0 ↔ IsD y m d := by
  unfold checkI
  constructor
  · intro h
    split at h
    · split at h
      · rename_i h1 h2
        have h3 := dim_pos y m (by omega)
        exact ⟨h1.1, h1.2, h3.1, h3.2, h2.1, h2.2⟩
      · omega
    · omega
  · intro h
    rw [if_pos ⟨h.y1, h.y2⟩, if_pos ⟨h.d1, h.d2⟩]
theorem checkI_cases (y m d : Int) : checkI y m d = 0 ∨ checkI y m d = 1 ∨ checkI y m d = 6 := by
  unfold checkI; split
  · split
    · exact .inl rfl
    · exact .inr (.inr rfl)
  · exact .inr (.inl rfl)

theorem bdraw {B : Nat} {w w' : World} (h : Below B w w') (n : Nat) : Below B w (w'.drewN n) := h.trans (below_drewN _ _ _)

set_option maxHeartbeats 1000000 in
theorem check_any (y m d : Int) (w : World) (hT : BefT w) :
    Calls Tryd.prog 19 #[dateV y m d] w fun e w' => e = .returned (.int .i64 (checkI y m d)) ∧ Below w.heap.size w w' := by
  have hC : checkI y m d = if 2000 ≤ y ∧ y ≤ 2199 then (if 1 ≤ d ∧ d ≤ dim y m then 0 else 6) else 1 := rfl
  have HT := Lib.hid fun w' (hb : Below w.heap.size w w') => daysIn_any y m w' (hT.below hb)
  obtain ⟨z, hz⟩ : ∃ z, z = dim y m := ⟨_, rfl⟩
  rw [← hz] at HT hC
  clear hT hz
  by_cases hy : 2000 ≤ y ∧ y ≤ 2199
  · rw [if_pos hy] at hC
    obtain ⟨y1, y2⟩ := hy
    by_cases h1 : 1 ≤ d
    · have t1 : decide (d < 1) = false := decide_eq_false (by omega)
      by_cases h2 : d ≤ z
      · have t2 : decide (z < d) = false := decide_eq_false (by omega)
        rw [if_pos ⟨h1, h2⟩] at hC
        rw [hC]
        clear hC h1 h2
        go_enter Tryd.func19, Tryd.ntmps19
        go_wp2_with fail
        go_quiet ((go_at_call 14; exact Calls.quiet_of_same ((HT.out _ (bdraw ((Below.refl _ _).alloc (Nat.le_refl _) _) _)).mono fun e w' h => ⟨h.1, h.2.symm⟩)))
        go_wp2_with fail
        go_ret
        exact ⟨rfl, bdraw ((Below.refl _ _).alloc (Nat.le_refl _) _) _⟩
      · have t2 : decide (z < d) = true := decide_eq_true (by omega)
        rw [if_neg (by omega)] at hC
        rw [hC]
        clear hC h1 h2
        go_enter Tryd.func19, Tryd.ntmps19
        go_wp2_with fail
        go_quiet ((go_at_call 14; exact Calls.quiet_of_same ((HT.out _ (bdraw ((Below.refl _ _).alloc (Nat.le_refl _) _) _)).mono fun e w' h => ⟨h.1, h.2.symm⟩)))
        go_wp2_with fail
        go_ret
        exact ⟨rfl, bdraw ((Below.refl _ _).alloc (Nat.le_refl _) _) _⟩
    · have t1 : decide (d < 1) = true := decide_eq_true (by omega)
      rw [if_neg (by omega)] at hC
      rw [hC]
      clear hC h1
      go_enter Tryd.func19, Tryd.ntmps19
      go_wp2_with fail
      go_quiet ((go_at_call 14; exact Calls.quiet_of_same ((HT.out _ (bdraw ((Below.refl _ _).alloc (Nat.le_refl _) _) _)).mono fun e w' h => ⟨h.1, h.2.symm⟩)))
      go_wp2_with fail
      go_ret
      exact ⟨rfl, bdraw ((Below.refl _ _).alloc (Nat.le_refl _) _) _⟩
  · rw [if_neg hy] at hC
    rw [hC]
    clear hC
    rcases (by omega : y < 2000 ∨ (¬ y < 2000 ∧ 2199 < y)) with h | ⟨h0, h⟩
    all_goals
      clear hy
      go_enter Tryd.func19, Tryd.ntmps19
      go_wp2_with fail
      go_ret
      exact ⟨rfl, (Below.refl _ _).alloc (Nat.le_refl _) _⟩

set_option maxHeartbeats 1000000 in
theorem rcheck_any (y m d : Int) (w : World) :
    Calls Tryd.prog 16 #[dateV y m d] w fun e w' => e = .returned (.int .i64 (checkI y m d)) ∧ Below w.heap.size w w' := by
  have hC : checkI y m d = if 2000 ≤ y ∧ y ≤ 2199 then (if 1 ≤ d ∧ d ≤ dim y m then 0 else 6) else 1 := rfl
  have HT := Lib.hid fun w' (hb : Below w.heap.size w w') => rdaysIn_any y m w'
  obtain ⟨z, hz⟩ : ∃ z, z = dim y m := ⟨_, rfl⟩
  rw [← hz] at HT hC
  clear hz
  by_cases hy : 2000 ≤ y ∧ y ≤ 2199
  · rw [if_pos hy] at hC
    obtain ⟨y1, y2⟩ := hy
    by_cases h1 : 1 ≤ d
    · have t1 : decide (d < 1) = false := decide_eq_false (by omega)
      by_cases h2 : d ≤ z
      · have t2 : decide (z < d) = false := decide_eq_false (by omega)
        rw [if_pos ⟨h1, h2⟩] at hC
        rw [hC]
        clear hC h1 h2
        go_enter Tryd.func16, Tryd.ntmps16
        go_wp2_with fail
        go_quiet ((go_at_call 15; exact Calls.quiet_of_same ((HT.out _ (bdraw ((Below.refl _ _).alloc (Nat.le_refl _) _) _)).mono fun e w' h => ⟨h.1, h.2.symm⟩)))
        go_wp2_with fail
        go_ret
        exact ⟨rfl, bdraw ((Below.refl _ _).alloc (Nat.le_refl _) _) _⟩
      · have t2 : decide (z < d) = true := decide_eq_true (by omega)
        rw [if_neg (by omega)] at hC
        rw [hC]
        clear hC h1 h2
        go_enter Tryd.func16, Tryd.ntmps16
        go_wp2_with fail
        go_quiet ((go_at_call 15; exact Calls.quiet_of_same ((HT.out _ (bdraw ((Below.refl _ _).alloc (Nat.le_refl _) _) _)).mono fun e w' h => ⟨h.1, h.2.symm⟩)))
        go_wp2_with fail
        go_ret
        exact ⟨rfl, bdraw ((Below.refl _ _).alloc (Nat.le_refl _) _) _⟩
    · have t1 : decide (d < 1) = true := decide_eq_true (by omega)
      rw [if_neg (by omega)] at hC
      rw [hC]
      clear hC h1
      go_enter Tryd.func16, Tryd.ntmps16
      go_wp2_with fail
      go_quiet ((go_at_call 15; exact Calls.quiet_of_same ((HT.out _ (bdraw ((Below.refl _ _).alloc (Nat.le_refl _) _) _)).mono fun e w' h => ⟨h.1, h.2.symm⟩)))
      go_wp2_with fail
      go_ret
      exact ⟨rfl, bdraw ((Below.refl _ _).alloc (Nat.le_refl _) _) _⟩
  · rw [if_neg hy] at hC
    rw [hC]
    clear hC
    rcases (by omega : y < 2000 ∨ (¬ y < 2000 ∧ 2199 < y)) with h | ⟨h0, h⟩
    all_goals
      clear hy
      go_enter Tryd.func16, Tryd.ntmps16
      go_wp2_with fail
      go_ret
      exact ⟨rfl, (Below.refl _ _).alloc (Nat.le_refl _) _⟩

set_option maxHeartbeats 400000 in
theorem day_no (y m d : Int) (w : World) (hT : BefT w) (h : checkI y m d ≠ 0) :
    Calls Tryd.prog 17 #[dateV y m d] w fun e w' => e = .returned (.tuple #[.int .i64 0, .int .i64 (checkI y m d)]) ∧ Below w.heap.size w w' := by
  have hc := fun w' (hb : Below w.heap.size w w') => check_any y m d w' (hT.below hb)
  obtain ⟨z, hz⟩ : ∃ z, z = checkI y m d := ⟨_, rfl⟩
  rw [← hz] at h hc ⊢
  have HC := Lib.hid hc
  have t0 : (z != 0) = true := by rw [bne_iff_ne]; exact h
  clear hT hc hz h
  go_enter Tryd.func17, Tryd.ntmps17
  go_wp2_with fail
  refine (HC.out _ ((Below.refl _ _).alloc (Nat.le_refl _) _)).mono ?_
  rintro e w1 ⟨rfl, hb1⟩
  have HB1 := Lib.hid hb1
  clear hb1
  go_wp2_with fail
  go_ret2
  exact ⟨rfl, ((Below.refl _ _).alloc (Nat.le_refl _) _).trans (HB1.out.mono (by simp))⟩

theorem bcell {W w1 : World} (hb : Below W.heap.size W w1) : (∀ b o, b < W.heap.size → w1.cell? ⟨b, o, none⟩ = W.cell? ⟨b, o, none⟩) ∧ (∀ b o, b < W.heap.size → w1.frozen? ⟨b, o, none⟩ = W.frozen? ⟨b, o, none⟩) :=
  ⟨fun b o h => hb.cell (p := ⟨b, o, none⟩) h, fun b o h => hb.frozen (p := ⟨b, o, none⟩) h⟩

set_option maxHeartbeats 1000000 in
theorem day_yes (y m d : Int) (w : World) (hT : BefT w) (h : IsD y m d) :
    Calls Tryd.prog 17 #[dateV y m d] w fun e w' => e = .returned (.tuple #[.int .i64 (numD y m d), .int .i64 0]) ∧ Below w.heap.size w w' := by
  have hc := fun w' (hb : Below w.heap.size w w') => check_any y m d w' (hT.below hb)
  rw [(checkI_ok y m d).2 h] at hc
  have HC := Lib.hid hc
  clear hc
  have HN := Lib.hid fun w' (hb : Below w.heap.size w w') => newYear_any y w' (by have := h.y1; omega) (by have := h.y2; omega) (hT.below hb)
  have HD := Lib.hid fun w' (hb : Below w.heap.size w w') => daysBefore_any y m w' h.m1 (by have := h.m2; omega) (hT.below hb)
  have hn : numD y m d = nY y + bef y m + d - 1 := rfl
  have r1 := nY_range y (by have := h.y1; omega) (by have := h.y2; omega)
  have r2 := bef_range y m h.m1 (by have := h.m2; omega)
  have r3 := dim_range y m h.m1 h.m2
  have d1 := h.d1
  have d2 := h.d2
  obtain ⟨a, ha⟩ : ∃ a, a = nY y := ⟨_, rfl⟩
  obtain ⟨b, hb⟩ : ∃ b, b = bef y m := ⟨_, rfl⟩
  obtain ⟨c, hc⟩ : ∃ c, c = dim y m := ⟨_, rfl⟩
  rw [← ha] at HN r1 hn
  rw [← hb] at HD r2 hn
  rw [← hc] at r3 d2
  rw [hn]
  clear hn ha hb hc h hT
  go_enter Tryd.func17, Tryd.ntmps17
  go_wp2_with fail
  refine (HC.out _ ((Below.refl _ _).alloc (Nat.le_refl _) _)).mono ?_
  rintro e w1 ⟨rfl, hb1⟩
  obtain ⟨hcl, hfr⟩ := bcell hb1
  have HB1 := Lib.hid (((Below.refl w.heap.size w).alloc (Nat.le_refl _) _).trans (hb1.mono (by simp)))
  have hz1 : w.heap.size < w1.heap.size := by have := hb1.size; simp at this; omega
  clear hb1
  go_wp2_with fail
  go_quiet ((first | (go_at_call 39; exact Calls.quiet_of (HN.out _ (bdraw HB1.out _))) | (go_at_call 38; exact Calls.quiet_of_same ((HD.out _ (bdraw HB1.out _)).mono fun e w' h => ⟨h.1, h.2.symm⟩))))
  go_wp2_with fail
  go_ret2
  exact ⟨rfl, bdraw HB1.out _⟩
end Go.Proofs.YtnlkalnpmnnadaaDoor
