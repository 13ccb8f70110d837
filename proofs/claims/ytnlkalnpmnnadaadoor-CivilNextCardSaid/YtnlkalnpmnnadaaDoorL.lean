/- Contracts of civil.Months and of the specification's Months and Week. Asked: the table of the days before each month. -/
import Derived.Test.YtnlkalnpmnnadaaDoorJ
namespace Go.Proofs.YtnlkalnpmnnadaaDoor
open Go.RowKit

/-- the month some months later, counted from January 2000 -/
def monT (y m n : Int) : Int := (y - 2000) * 12 + m - 1 + n
def monY (t : Int) : Int := 2000 + t / 12
def monM (t : Int) : Int := t % 12 + 1

theorem months_no (y m d n : Int) (w : World) (hT : BefT w) (h : checkI y m d ≠ 0) :
    Calls Tryd.prog 28 #[dateV y m d, .int .i64 n] w fun e w' => e = .returned (.tuple #[dateV 0 0 0, .int .i64 (checkI y m d)]) ∧ Below w.heap.size w w' := by
  have HC := Lib.hid fun w' (hb : Below w.heap.size w w') => check_any y m d w' (hT.below hb)
  obtain ⟨z, hz⟩ : ∃ z, z = checkI y m d := ⟨_, rfl⟩
  rw [← hz] at HC h ⊢
  have t0 : (z != 0) = true := by rw [bne_iff_ne]; exact h
  clear hT hz h
  go_enter Tryd.func28, Tryd.ntmps28
  go_wp2_with fail
  refine (HC.out _ (((Below.refl _ _).alloc (Nat.le_refl _) _).alloc (by simp) _)).mono ?_
  rintro e w2 ⟨rfl, hb2⟩
  have HR : DateAt w2 (w.heap.size + 1) 0 0 0 := DateAt.keep ⟨by simp, by simp, by simp, by simp⟩ hb2
  have B2 := Lib.hid ((((Below.refl w.heap.size w).alloc (Nat.le_refl _) _).alloc (by simp) _).trans (hb2.mono (by simp; omega)))
  have y0 := (HR.set0 0).c0
  have y1 := ((HR.set0 0).set1 0).c1
  have y2 := (((HR.set0 0).set1 0).set2 0).c2
  have s0 := HR.c0
  have s1 := HR.c1
  have s2 := HR.c2
  have fz := HR.fz
  clear hb2 HR
  go_wp2_with fail
  refine bodyPost_ret (v := .tuple #[dateV 0 0 0, .int .i64 z]) (by simp [results, Tryd.results28, go_sem, y0, y1, y2]) rfl ⟨rfl, ?_⟩
  exact ((B2.out.setCell (by simp) _).setCell (by simp) _).setCell (by simp) _

set_option maxHeartbeats 1000000 in
theorem months_out (y m d n : Int) (w : World) (hT : BefT w) (h : IsD y m d) (n1 : -9223372036854775808 ≤ n) (n2 : n ≤ 9223372036854775807) (ht : ¬ (0 ≤ monT y m n ∧ monT y m n < 2400)) :
    Calls Tryd.prog 28 #[dateV y m d, .int .i64 n] w fun e w' => e = .returned (.tuple #[dateV 0 0 0, .int .i64 1]) ∧ Below w.heap.size w w' := by
  have HC := fun w' (hb : Below w.heap.size w w') => check_any y m d w' (hT.below hb)
  rw [(checkI_ok y m d).2 h] at HC
  have HC := Lib.hid HC
  have r1 := h.y1
  have r2 := h.y2
  have r3 := h.m1
  have r4 := h.m2
  unfold monT at ht
  obtain ⟨T, hTT⟩ : ∃ T, T = wrap64 ((y - 2000) * 12 + m - 1 + n) := ⟨_, rfl⟩
  have hc : T < 0 ∨ (¬ T < 0 ∧ 2400 ≤ T) := by rw [hTT]; unfold wrap64; omega
  have e1 : wrap64 ((y - 2000) * 12 + m - 1 + n) = T := hTT.symm
  clear hT h hTT ht
  rcases hc with hc | ⟨hc1, hc⟩
  all_goals
    go_enter Tryd.func28, Tryd.ntmps28
    go_wp2_with fail
    refine (HC.out _ (((Below.refl _ _).alloc (Nat.le_refl _) _).alloc (by simp) _)).mono ?_
    rintro e w2 ⟨rfl, hb2⟩
    have HD : DateAt w2 w.heap.size y m d := DateAt.keep ⟨by simp, by simp, by simp, by simp⟩ hb2
    have HR : DateAt w2 (w.heap.size + 1) 0 0 0 := DateAt.keep ⟨by simp, by simp, by simp, by simp⟩ hb2
    have B2 := Lib.hid ((((Below.refl w.heap.size w).alloc (Nat.le_refl _) _).alloc (by simp) _).trans (hb2.mono (by simp; omega)))
    have y0 := (HR.set0 0).c0
    have y1 := ((HR.set0 0).set1 0).c1
    have y2 := (((HR.set0 0).set1 0).set2 0).c2
    have s0 := HR.c0
    have s1 := HR.c1
    have s2 := HR.c2
    have fz := HR.fz
    have q0 := HD.c0
    have q1 := HD.c1
    clear hb2 HR HD
    go_wp2_with fail
    refine bodyPost_ret (v := .tuple #[dateV 0 0 0, .int .i64 1]) (by simp [results, Tryd.results28, go_sem, y0, y1, y2]) rfl ⟨rfl, ?_⟩
    exact ((B2.out.setCell (by simp) _).setCell (by simp) _).setCell (by simp) _

set_option maxHeartbeats 1000000 in
theorem months_in (y m d n : Int) (w : World) (hT : BefT w) (h : IsD y m d) (h1 : 0 ≤ monT y m n) (h2 : monT y m n < 2400) :
    Calls Tryd.prog 28 #[dateV y m d, .int .i64 n] w fun e w' => e = .returned (.tuple #[dateV (monY (monT y m n)) (monM (monT y m n)) (min d (dim (monY (monT y m n)) (monM (monT y m n)))), .int .i64 0]) ∧ Below w.heap.size w w' := by
  have HC := fun w' (hb : Below w.heap.size w w') => check_any y m d w' (hT.below hb)
  rw [(checkI_ok y m d).2 h] at HC
  have HC := Lib.hid HC
  have r1 := h.y1
  have r2 := h.y2
  have r3 := h.m1
  have r4 := h.m2
  have e1 : wrap64 ((y - 2000) * 12 + m - 1 + n) = monT y m n := by unfold monT at h1 h2 ⊢; unfold wrap64; omega
  obtain ⟨T, hTT⟩ : ∃ T, T = monT y m n := ⟨_, rfl⟩
  rw [← hTT] at e1 h1 h2 ⊢
  have HI := Lib.hid fun w' (hb : Below w.heap.size w w') => daysIn_any (monY T) (monM T) w' (hT.below hb)
  obtain ⟨z, hz⟩ : ∃ z, z = dim (monY T) (monM T) := ⟨_, rfl⟩
  rw [← hz] at HI ⊢
  unfold monY monM at HI ⊢
  clear hT h hTT hz
  go_enter Tryd.func28, Tryd.ntmps28
  go_wp2_with fail
  refine (HC.out _ (((Below.refl _ _).alloc (Nat.le_refl _) _).alloc (by simp) _)).mono ?_
  rintro e w2 ⟨rfl, hb2⟩
  have HD : DateAt w2 w.heap.size y m d := DateAt.keep ⟨by simp, by simp, by simp, by simp⟩ hb2
  have HR : DateAt w2 (w.heap.size + 1) 0 0 0 := DateAt.keep ⟨by simp, by simp, by simp, by simp⟩ hb2
  have B2 := Lib.hid ((((Below.refl w.heap.size w).alloc (Nat.le_refl _) _).alloc (by simp) _).trans (hb2.mono (by simp; omega)))
  have HRR := Lib.hid HR
  have q0 := HD.c0
  have q1 := HD.c1
  have q2 := HD.c2
  have s0 := HR.c0
  have s1 := HR.c1
  have s2 := HR.c2
  have fz := HR.fz
  clear hb2 HR HD
  go_wp2_with fail
  go_region_held3 (fun w' => w'.cell? ⟨w.heap.size, 2, none⟩ = some (.int .i64 d)) (first | go_keep)
    (first | (go_at_call 14; refine (HI.out _ (B2.out.trans (below_drewN _ _ 1))).mono ?_; rintro e w' ⟨rfl, rfl⟩))
  all_goals
    rename_i hHeld
    clear hHeld
    have HR' := HRR.out.keep (below_drewN _ w2 1)
    have y0 := (HR'.set0 (2000 + T / 12)).c0
    have y1 := ((HR'.set0 (2000 + T / 12)).set1 (T % 12 + 1)).c1
    have y2 := (((HR'.set0 (2000 + T / 12)).set1 (T % 12 + 1)).set2 (min d z)).c2
    go_wp2_with fail
    refine bodyPost_ret (v := .tuple #[dateV (2000 + T / 12) (T % 12 + 1) (min d z), .int .i64 0]) (by simp [results, Tryd.results28, go_sem, y0, y1, y2]) rfl ⟨rfl, ?_⟩
    exact (((bdraw B2.out 1).setCell (by simp) _).setCell (by simp) _).setCell (by simp) _

theorem date_fresh (w : World) (a b c : Int) : DateAt (w.alloc (Obj.cells #[.int .i64 a, .int .i64 b, .int .i64 c] 23)) w.heap.size a b c := ⟨by simp, by simp, by simp, by simp⟩
theorem date_old (w : World) (a b c : Int) (o : Obj) : DateAt ((w.alloc (Obj.cells #[.int .i64 a, .int .i64 b, .int .i64 c] 23)).alloc o) w.heap.size a b c := (date_fresh w a b c).keep ((Below.refl _ _).alloc (Nat.le_refl _) _)

set_option maxHeartbeats 1000000 in
theorem rmonths_far (y m d n : Int) (w : World) (h : n < -10000 ∨ 10000 < n) :
    Calls Tryd.prog 29 #[dateV y m d, .int .i64 n] w fun e w' => e = .returned (.tuple #[dateV 0 0 0, .bool false]) ∧ Below w.heap.size w w' := by
  rcases (by omega : n < -10000 ∨ (¬ n < -10000 ∧ 10000 < n)) with hc | ⟨hc1, hc2⟩
  all_goals
    clear h
    go_enter Tryd.func29, Tryd.ntmps29
    go_wp2_with fail
    refine bodyPost_ret (v := .tuple #[dateV 0 0 0, .bool false]) (by simp [results, Tryd.results29, go_sem]) rfl ⟨rfl, ?_⟩
    exact ((Below.refl _ _).alloc (Nat.le_refl _) _).alloc (by simp) _

set_option maxHeartbeats 1000000 in
theorem rmonths_out (y m d n : Int) (w : World) (h : IsD y m d) (n1 : -10000 ≤ n) (n2 : n ≤ 10000) (ht : ¬ (0 ≤ monT y m n ∧ monT y m n < 2400)) :
    Calls Tryd.prog 29 #[dateV y m d, .int .i64 n] w fun e w' => e = .returned (.tuple #[dateV 0 0 0, .bool false]) ∧ Below w.heap.size w w' := by
  have r1 := h.y1
  have r2 := h.y2
  have r3 := h.m1
  have r4 := h.m2
  unfold monT at ht
  rcases (by omega : y * 12 + m - 1 + n < 24000 ∨ (¬ y * 12 + m - 1 + n < 24000 ∧ 2199 < (y * 12 + m - 1 + n) / 12)) with hc | ⟨hc1, hc2⟩
  all_goals
    clear h ht
    go_enter Tryd.func29, Tryd.ntmps29
    go_wp2_with fail
    refine bodyPost_ret (v := .tuple #[dateV 0 0 0, .bool false]) (by simp [results, Tryd.results29, go_sem]) rfl ⟨rfl, ?_⟩
    exact (((Below.refl _ _).alloc (Nat.le_refl _) _).alloc (by simp) _).alloc (by simp; omega) _

set_option maxHeartbeats 1000000 in
theorem rmonths_in (y m d n : Int) (w : World) (h : IsD y m d) (n1 : -10000 ≤ n) (n2 : n ≤ 10000) (h1 : 0 ≤ monT y m n) (h2 : monT y m n < 2400) :
    Calls Tryd.prog 29 #[dateV y m d, .int .i64 n] w fun e w' => e = .returned (.tuple #[dateV (monY (monT y m n)) (monM (monT y m n)) (min d (dim (monY (monT y m n)) (monM (monT y m n)))), .bool true]) ∧ Below w.heap.size w w' := by
  have r1 := h.y1
  have r2 := h.y2
  have r3 := h.m1
  have r4 := h.m2
  have eY : monY (monT y m n) = (y * 12 + m - 1 + n) / 12 := by unfold monY monT; omega
  have eM : monM (monT y m n) = (y * 12 + m - 1 + n) % 12 + 1 := by unfold monM monT; omega
  unfold monT at h1 h2
  rw [eY, eM]
  have HI := Lib.hid fun w' => rdaysIn_any ((y * 12 + m - 1 + n) / 12) ((y * 12 + m - 1 + n) % 12 + 1) w'
  obtain ⟨z, hz⟩ : ∃ z, z = dim ((y * 12 + m - 1 + n) / 12) ((y * 12 + m - 1 + n) % 12 + 1) := ⟨_, rfl⟩
  rw [← hz] at HI ⊢
  have q1 : ¬ y * 12 + m - 1 + n < 24000 := by omega
  have q2 : ¬ 2199 < (y * 12 + m - 1 + n) / 12 := by omega
  clear eY eM hz h
  go_enter Tryd.func29, Tryd.ntmps29
  go_wp2_with fail
  obtain ⟨W, hW⟩ : ∃ W, W = ((w.alloc (Obj.cells #[.int .i64 y, .int .i64 m, .int .i64 d] 23)).alloc (Obj.cells #[.int .i64 0, .int .i64 0, .int .i64 0] 23)).alloc (Obj.cells #[.int .i64 ((y * 12 + m - 1 + n) / 12), .int .i64 ((y * 12 + m - 1 + n) % 12 + 1), .int .i64 0] 23) := ⟨_, rfl⟩
  rw [← hW]
  have D0 : DateAt W w.heap.size y m d := by rw [hW]; exact (date_old _ _ _ _ _).keep ((Below.refl _ _).alloc (by simp) _)
  have D1 : DateAt W (w.heap.size + 1) 0 0 0 := by
    rw [hW]
    exact DateAt.keep ⟨by simp, by simp, by simp, by simp⟩ ((Below.refl _ _).alloc (Nat.le_refl _) _)
  have D2 : DateAt W (w.heap.size + 1 + 1) ((y * 12 + m - 1 + n) / 12) ((y * 12 + m - 1 + n) % 12 + 1) 0 := by
    rw [hW]
    have e : w.heap.size + 1 + 1 = ((w.alloc (Obj.cells #[.int .i64 y, .int .i64 m, .int .i64 d] 23)).alloc (Obj.cells #[.int .i64 0, .int .i64 0, .int .i64 0] 23)).heap.size := by simp
    rw [e]
    exact date_fresh _ _ _ _
  have B : Below w.heap.size w W := by rw [hW]; exact (((Below.refl _ _).alloc (Nat.le_refl _) _).alloc (by simp) _).alloc (by simp; omega) _
  have HS := Lib.hid (show W.drew.cell? ⟨w.heap.size, 2, none⟩ = some (.int .i64 d) ∧ W.drew.cell? ⟨w.heap.size + 1 + 1, 0, none⟩ = some (.int .i64 ((y * 12 + m - 1 + n) / 12)) ∧ W.drew.cell? ⟨w.heap.size + 1 + 1, 1, none⟩ = some (.int .i64 ((y * 12 + m - 1 + n) % 12 + 1)) from ⟨D0.c2, D2.c0, D2.c1⟩)
  have fz1 := D1.fz
  have fz2 := D2.fz
  have s0 := D1.c0
  have s1 := D1.c1
  have s2 := D1.c2
  have t0 := D2.c0
  have t1 := D2.c1
  have t2 := D2.c2
  have D1' := Lib.hid D1
  have HB := Lib.hid B
  clear hW D0 D1 D2 B
  go_region_held3 (fun w' => w'.cell? ⟨w.heap.size, 2, none⟩ = some (.int .i64 d) ∧ w'.cell? ⟨w.heap.size + 1 + 1, 0, none⟩ = some (.int .i64 ((y * 12 + m - 1 + n) / 12)) ∧ w'.cell? ⟨w.heap.size + 1 + 1, 1, none⟩ = some (.int .i64 ((y * 12 + m - 1 + n) % 12 + 1))) (first | exact HS.out | (have hh := HS.out; exact ⟨(World.cell?_setCell_other _ _ _ _ (by simp)).trans hh.1, (World.cell?_setCell_other _ _ _ _ (by simp)).trans hh.2.1, (World.cell?_setCell_other _ _ _ _ (by simp)).trans hh.2.2⟩) | go_keep)
    (first | (go_at_call 15; refine (HI.out _).mono ?_; rintro e w' ⟨rfl, rfl⟩))
  all_goals
    rename_i hHeld
    clear hHeld
    have HRa := D1'.out.other (w.heap.size + 1 + 1) 2 (by omega) (.int .i64 (min d z))
    have y0 := (HRa.set0 ((y * 12 + m - 1 + n) / 12)).c0
    have y1 := ((HRa.set0 ((y * 12 + m - 1 + n) / 12)).set1 ((y * 12 + m - 1 + n) % 12 + 1)).c1
    have y2 := (((HRa.set0 ((y * 12 + m - 1 + n) / 12)).set1 ((y * 12 + m - 1 + n) % 12 + 1)).set2 (min d z)).c2
    go_wp2_with fail
    refine bodyPost_ret (v := .tuple #[dateV ((y * 12 + m - 1 + n) / 12) ((y * 12 + m - 1 + n) % 12 + 1) (min d z), .bool true]) (by simp [results, Tryd.results29, go_sem, y0, y1, y2]) rfl ⟨rfl, ?_⟩
    exact bdraw ((((HB.out.setCell (by simp; omega) _).setCell (by simp) _).setCell (by simp) _).setCell (by simp) _) 1

/-- the specification's week -/
theorem weekY_neg (d : Int) (h0 : 0 ≤ d) (h : midI d < 0) : weekY d = 1999 ∧ weekN d = 52 := by
  have e : midI d = -2 := by unfold midI at h ⊢; omega
  unfold weekY weekN
  rw [e]
  have e2 : yOf (-2) = 1999 := by decide +kernel
  rw [e2, nY_1999]
  decide
theorem weekY_late (d : Int) (h0 : d ≤ 73048) (h : 73048 < midI d) : weekY d = 2200 := by
  unfold weekY
  refine yOf_eq (by omega) (by unfold midI; omega) ?_ ?_
  · rw [nY_2200]; omega
  · have : nY (2200 + 1) = 73414 := by decide +kernel
    rw [this]; unfold midI; omega

set_option maxRecDepth 100000 in
set_option maxHeartbeats 1000000 in
theorem rweek_any (d : Int) (w : World) (h1 : 0 ≤ d) (h2 : d ≤ 73048) :
    Calls Tryd.prog 25 #[.int .i64 d] w fun e w' => e = .returned (.tuple #[.int .i64 (weekY d), .int .i64 (weekN d)]) ∧ Below w.heap.size w w' := by
  have HW := Lib.hid fun w => rweekday_any d w h1 (by omega)
  have hm : midI d = d - ((d + 5) % 7 + 1) + 4 := by unfold midI; omega
  have hN : weekN d = (midI d - nY (weekY d)) / 7 + 1 := rfl
  rcases (by omega : midI d < 0 ∨ (0 ≤ midI d ∧ midI d ≤ 73048) ∨ (0 ≤ midI d ∧ 73048 < midI d)) with hc | ⟨c1, c2⟩ | ⟨c1, c2⟩
  · obtain ⟨eY, eN⟩ := weekY_neg d h1 hc
    rw [eY, eN]
    rw [hm] at hc
    clear hN hm eY eN
    go_enter Tryd.func25, Tryd.ntmps25
    go_wp2_with (go_at_call 27; refine (HW.out _).mono ?_; rintro e w' ⟨rfl, rfl⟩)
    go_ret2
    exact ⟨rfl, Below.refl _ _⟩
  · have HO := Lib.hid fun w => rof_any (midI d) w c1 c2
    have hy : ∀ y m k, IsD y m k → numD y m k = midI d → y = weekY d := fun y m k h e => by
      unfold weekY; exact (yOf_eq (by omega) (by omega) (by rw [← e]; exact h.low) (by rw [← e]; exact h.high)).symm
    have HY := Lib.hid hy
    rw [hN]
    rw [hm] at HO HY c1 c2 ⊢
    have hr := yOf_range (d - ((d + 5) % 7 + 1) + 4) c1 c2
    have hl := yOf_low (d - ((d + 5) % 7 + 1) + 4) (by omega) (by omega)
    have hh := yOf_high (d - ((d + 5) % 7 + 1) + 4) (by omega) (by omega)
    have e1 : weekY d = yOf (d - ((d + 5) % 7 + 1) + 4) := by unfold weekY; rw [hm]
    rw [← e1] at hr hl hh
    have HD := Lib.hid fun w => rday_any (weekY d) 1 1 w ⟨hr.1, by omega, by omega, by omega, by omega, by omega⟩
    have en : numD (weekY d) 1 1 = nY (weekY d) := by unfold numD; rw [bef_one]; omega
    rw [en] at HD
    obtain ⟨Y, hYY⟩ : ∃ Y, Y = weekY d := ⟨_, rfl⟩
    rw [← hYY] at HD HY hr hl hh ⊢
    have hrr := nY_range Y (by omega) (by omega)
    obtain ⟨A, hA⟩ : ∃ A, A = nY Y := ⟨_, rfl⟩
    rw [← hA] at HD hl hrr ⊢
    clear hN hm hy e1 en hYY hA hh
    have hf : ∀ (a b c : Value) w, (Instr.field 23 (.agg #[a, b, c]) 0).run Tryd.prog w = .ok a w := fun a b c w => by rfl
    go_enter Tryd.func25, Tryd.ntmps25
    go_wp2_with (go_at_call 27; refine (HW.out _).mono ?_; rintro e w' ⟨rfl, rfl⟩)
    refine (HO.out _).mono ?_
    rintro e w1 ⟨y, m, k, rfl, hd, he, hb1⟩
    obtain rfl := HY.out y m k hd he
    have B1 := Lib.hid hb1
    clear hb1 hd he
    go_wp2_with fail
    refine (HD.out _).mono ?_
    rintro e w2 ⟨rfl, hb2⟩
    have B2 := Lib.hid (B1.out.trans (hb2.mono B1.out.size))
    clear hb2
    go_wp2_with fail
    go_ret2
    exact ⟨rfl, B2.out⟩
  · have e1 := weekY_late d h2 c2
    rw [hN, e1]
    rw [hm] at c1 c2 ⊢
    have HD := Lib.hid fun w => (by
      have h := rday_any 2200 1 1 w ⟨by omega, by omega, by omega, by omega, by omega, by omega⟩
      rw [show numD 2200 1 1 = 73049 by decide +kernel] at h
      exact h : Calls Tryd.prog 20 #[dateV 2200 1 1] w fun e w' => e = .returned (.int .i64 73049) ∧ Below w.heap.size w w')
    rw [nY_2200]
    clear hN hm e1
    go_enter Tryd.func25, Tryd.ntmps25
    go_wp2_with (go_at_call 27; refine (HW.out _).mono ?_; rintro e w' ⟨rfl, rfl⟩)
    refine (HD.out _).mono ?_
    rintro e w2 ⟨rfl, hb2⟩
    have B2 := Lib.hid hb2
    clear hb2
    go_wp2_with fail
    go_ret2
    exact ⟨rfl, B2.out⟩
end Go.Proofs.YtnlkalnpmnnadaaDoor
