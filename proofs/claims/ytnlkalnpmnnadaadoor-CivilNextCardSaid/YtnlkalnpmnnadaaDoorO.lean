/- The laws CivilDates, CivilDays and CivilMonths return true for every input. Asked: the tables read as laid. -/
import Derived.Test.YtnlkalnpmnnadaaDoorM
namespace Go.Proofs.YtnlkalnpmnnadaaDoor
open Go.RowKit

theorem month_of (y p : Int) (h0 : 0 ≤ p) : ∀ n : Nat, n ≤ 12 → p < bef y (n + 1) → ∃ m : Int, 1 ≤ m ∧ m ≤ 12 ∧ bef y m ≤ p ∧ p < bef y (m + 1)
  | 0, _, h => by
    have e : (((0 : Nat) : Int) + 1) = 1 := rfl
    rw [e, bef_one] at h; omega
  | n + 1, hn, h => by
    by_cases h2 : bef y (((n + 1 : Nat) : Int)) ≤ p
    · exact ⟨((n + 1 : Nat) : Int), by omega, by omega, h2, h⟩
    · have e : ((n + 1 : Nat) : Int) = (n : Int) + 1 := by omega
      rw [e] at h2
      exact month_of y p h0 n (by omega) (by omega)
/-- every day has a date -/
theorem day_date (d : Int) (h1 : 0 ≤ d) (h2 : d ≤ 73048) : ∃ y m k : Int, IsD y m k ∧ numD y m k = d := by
  have l1 := yOf_low d (by omega) (by omega)
  have l2 := yOf_high d (by omega) (by omega)
  have hs := nY_succ (yOf d)
  have h13 := bef_13 (yOf d)
  obtain ⟨m, m1, m2, b1, b2⟩ := month_of (yOf d) (d - nY (yOf d)) (by omega) 12 (by omega) (by show d - nY (yOf d) < bef (yOf d) 13; omega)
  exact ⟨yOf d, m, _, isD_of h1 h2 l1 l2 m1 m2 b1 (.inr b2)⟩
theorem of_at (d y m k : Int) (w : World) (hT : BefT w) (h : IsD y m k) (e : numD y m k = d) :
    Calls Tryd.prog 22 #[.int .i64 d] w fun e w' => e = .returned (.tuple #[dateV y m k, .int .i64 0]) ∧ Below w.heap.size w w' := by
  have hr := h.range
  refine (of_yes d w hT (by omega) (by omega)).mono ?_
  rintro _ w' ⟨y', m', k', rfl, h', e', hb⟩
  obtain ⟨rfl, rfl, rfl⟩ := date_unique h h' (by rw [e, e'])
  exact ⟨rfl, hb⟩
theorem rof_at (d y m k : Int) (w : World) (h : IsD y m k) (e : numD y m k = d) :
    Calls Tryd.prog 26 #[.int .i64 d] w fun e w' => e = .returned (dateV y m k) ∧ Below w.heap.size w w' := by
  have hr := h.range
  refine (rof_any d w (by omega) (by omega)).mono ?_
  rintro _ w' ⟨y', m', k', rfl, h', e', hb⟩
  obtain ⟨rfl, rfl, rfl⟩ := date_unique h h' (by rw [e, e'])
  exact ⟨rfl, hb⟩

set_option maxRecDepth 100000 in
set_option maxHeartbeats 8000000 in
theorem dates_no (y m d : Int) (w : World) (hg : Gl w) (h : checkI y m d ≠ 0) :
    Calls Tryd.prog 3 #[dateV y m d] w fun e w' => e = .returned (.bool true) ∧ Below w.heap.size w w' := by
  have hW := fun w' (hb : Below w.heap.size w w') => awake_any w' (hg.below hb)
  have HW := Lib.hid hW
  have HG := Lib.hid hg
  have HL := Lib.hid fun w => leap_any y w
  have HLr := Lib.hid fun w => rleap_any y w
  have HI := Lib.hid fun w (h : BefT w) => daysIn_any y m w h
  have HIr := Lib.hid fun w => rdaysIn_any y m w
  have HC := Lib.hid fun w (h : BefT w) => check_any y m d w h
  have HCr := Lib.hid fun w => rcheck_any y m d w
  have HD := Lib.hid fun w (hG : Gl w) => day_no y m d w hG.bef h
  have HT := Lib.hid fun w (hG : Gl w) => text_no y m d w hG.bef h
  obtain ⟨z, hz⟩ : ∃ z, z = checkI y m d := ⟨_, rfl⟩
  rw [← hz] at HC HCr HD HT h
  have t0 : (z != 0) = true := by rw [bne_iff_ne]; exact h
  have t1 : (z != z) = false := bne_self_eq_false _
  obtain ⟨l, hl⟩ : ∃ l, l = leapB y := ⟨_, rfl⟩
  rw [← hl] at HL HLr
  obtain ⟨i, hi⟩ : ∃ l, l = dim y m := ⟨_, rfl⟩
  rw [← hi] at HI HIr
  have t2 : (l != l) = false := bne_self_eq_false _
  have t3 : (i != i) = false := bne_self_eq_false _
  clear hz hl hi h hW hg
  go_enter Tryd.func3, Tryd.ntmps3
  go_wp2_with fail
  refine (HW.out _ ((Below.refl _ _).alloc (Nat.le_refl _) _)).mono ?_
  rintro e w1 ⟨rfl, hb⟩
  have D1 := Lib.hid ((date_fresh w y m d).keep hb)
  have B1 := Lib.hid (((Below.refl w.heap.size w).alloc (Nat.le_refl _) (Obj.cells #[.int .i64 y, .int .i64 m, .int .i64 d] 23)).trans (hb.mono (by simp)))
  have c0 := D1.out.c0
  have c1 := D1.out.c1
  have c2 := D1.out.c2
  clear hb
  go_wp2_with fail
  go_quiet ((first | (go_at_call 12; exact Calls.quiet_of_same ((HL.out _).mono fun e w' h => ⟨h.1, h.2.symm⟩)) | (go_at_call 13; exact Calls.quiet_of_same ((HLr.out _).mono fun e w' h => ⟨h.1, h.2.symm⟩)) | (go_at_call 14; exact Calls.quiet_of_same ((HI.out _ (HG.out.below (bdraw B1.out _)).bef).mono fun e w' h => ⟨h.1, h.2.symm⟩)) | (go_at_call 15; exact Calls.quiet_of_same ((HIr.out _).mono fun e w' h => ⟨h.1, h.2.symm⟩))))
  go_wp2_with fail
  clear c0 c1 c2
  refine (HCr.out _).mono ?_
  rintro e w2 ⟨rfl, hb⟩
  have D2 := Lib.hid ((D1.out.keep (below_drewN _ _ _)).keep hb)
  have B2 := Lib.hid ((bdraw B1.out _).trans (hb.mono (bdraw B1.out _).size))
  have c0 := D2.out.c0
  have c1 := D2.out.c1
  have c2 := D2.out.c2
  clear hb D1 B1
  go_wp2_with fail
  clear c0 c1 c2
  refine (HD.out _ (HG.out.below B2.out)).mono ?_
  rintro e w3 ⟨rfl, hb⟩
  have D3 := Lib.hid (D2.out.keep hb)
  have B3 := Lib.hid (B2.out.trans (hb.mono B2.out.size))
  have c0 := D3.out.c0
  have c1 := D3.out.c1
  have c2 := D3.out.c2
  clear hb D2 B2
  go_wp2_with fail
  clear c0 c1 c2
  refine (HT.out _ (HG.out.below B3.out)).mono ?_
  rintro e w4 ⟨rfl, hb⟩
  have D4 := Lib.hid (D3.out.keep hb)
  have B4 := Lib.hid (B3.out.trans (hb.mono B3.out.size))
  have c0 := D4.out.c0
  have c1 := D4.out.c1
  have c2 := D4.out.c2
  clear hb D3 B3
  go_wp2_with fail
  clear c0 c1 c2
  refine (HC.out _ (HG.out.below B4.out).bef).mono ?_
  rintro e w5 ⟨rfl, hb⟩
  have D5 := Lib.hid (D4.out.keep hb)
  have B5 := Lib.hid (B4.out.trans (hb.mono B4.out.size))
  have c0 := D5.out.c0
  have c1 := D5.out.c1
  have c2 := D5.out.c2
  clear hb D4 B4
  go_wp2_with fail
  go_ret
  exact ⟨rfl, B5.out⟩

set_option maxRecDepth 100000 in
set_option maxHeartbeats 8000000 in
theorem dates_yes (y m d : Int) (w : World) (hg : Gl w) (h : IsD y m d) :
    Calls Tryd.prog 3 #[dateV y m d] w fun e w' => e = .returned (.bool true) ∧ Below w.heap.size w w' := by
  have hW := fun w' (hb : Below w.heap.size w w') => awake_any w' (hg.below hb)
  have HW := Lib.hid hW
  have HG := Lib.hid hg
  have HL := Lib.hid fun w => leap_any y w
  have HLr := Lib.hid fun w => rleap_any y w
  have HI := Lib.hid fun w (h : BefT w) => daysIn_any y m w h
  have HIr := Lib.hid fun w => rdaysIn_any y m w
  have HC := Lib.hid fun w (h : BefT w) => check_any y m d w h
  have HCr := Lib.hid fun w => rcheck_any y m d w
  have HD := Lib.hid fun w (hG : Gl w) => day_yes y m d w hG.bef h
  have HT := Lib.hid fun w (hG : Gl w) => text_yes y m d w hG.bef hG.tab h
  have HDr := Lib.hid fun w => rday_any y m d w h.near
  have HTr := Lib.hid fun w => rtext_any y m d w h
  rw [(checkI_ok y m d).2 h] at HC HCr
  obtain ⟨S, hS⟩ : ∃ S, S = bs (dateL y m d) := ⟨_, rfl⟩
  rw [← hS] at HT HTr
  obtain ⟨n, hn⟩ : ∃ n, n = numD y m d := ⟨_, rfl⟩
  rw [← hn] at HD HDr
  have t4 : (n == n) = true := beq_self_eq_true _
  have t5 : (S.toList == S.toList) = true := beq_self_eq_true _
  obtain ⟨l, hl⟩ : ∃ l, l = leapB y := ⟨_, rfl⟩
  rw [← hl] at HL HLr
  obtain ⟨i, hi⟩ : ∃ l, l = dim y m := ⟨_, rfl⟩
  rw [← hi] at HI HIr
  have t2 : (l != l) = false := bne_self_eq_false _
  have t3 : (i != i) = false := bne_self_eq_false _
  clear hS hn hl hi h hW hg
  go_enter Tryd.func3, Tryd.ntmps3
  go_wp2_with fail
  refine (HW.out _ ((Below.refl _ _).alloc (Nat.le_refl _) _)).mono ?_
  rintro e w1 ⟨rfl, hb⟩
  have D1 := Lib.hid ((date_fresh w y m d).keep hb)
  have B1 := Lib.hid (((Below.refl w.heap.size w).alloc (Nat.le_refl _) (Obj.cells #[.int .i64 y, .int .i64 m, .int .i64 d] 23)).trans (hb.mono (by simp)))
  have c0 := D1.out.c0
  have c1 := D1.out.c1
  have c2 := D1.out.c2
  clear hb
  go_wp2_with fail
  go_quiet ((first | (go_at_call 12; exact Calls.quiet_of_same ((HL.out _).mono fun e w' h => ⟨h.1, h.2.symm⟩)) | (go_at_call 13; exact Calls.quiet_of_same ((HLr.out _).mono fun e w' h => ⟨h.1, h.2.symm⟩)) | (go_at_call 14; exact Calls.quiet_of_same ((HI.out _ (HG.out.below (bdraw B1.out _)).bef).mono fun e w' h => ⟨h.1, h.2.symm⟩)) | (go_at_call 15; exact Calls.quiet_of_same ((HIr.out _).mono fun e w' h => ⟨h.1, h.2.symm⟩))))
  go_wp2_with fail
  clear c0 c1 c2
  refine (HCr.out _).mono ?_
  rintro e w2 ⟨rfl, hb⟩
  have D2 := Lib.hid ((D1.out.keep (below_drewN _ _ _)).keep hb)
  have B2 := Lib.hid ((bdraw B1.out _).trans (hb.mono (bdraw B1.out _).size))
  have c0 := D2.out.c0
  have c1 := D2.out.c1
  have c2 := D2.out.c2
  clear hb D1 B1
  go_wp2_with fail
  clear c0 c1 c2
  refine (HD.out _ (HG.out.below B2.out)).mono ?_
  rintro e w3 ⟨rfl, hb⟩
  have D3 := Lib.hid (D2.out.keep hb)
  have B3 := Lib.hid (B2.out.trans (hb.mono B2.out.size))
  have c0 := D3.out.c0
  have c1 := D3.out.c1
  have c2 := D3.out.c2
  clear hb D2 B2
  go_wp2_with fail
  clear c0 c1 c2
  refine (HT.out _ (HG.out.below B3.out)).mono ?_
  rintro e w4 ⟨rfl, hb⟩
  have D4 := Lib.hid (D3.out.keep hb)
  have B4 := Lib.hid (B3.out.trans (hb.mono B3.out.size))
  have c0 := D4.out.c0
  have c1 := D4.out.c1
  have c2 := D4.out.c2
  clear hb D3 B3
  go_wp2_with fail
  clear c0 c1 c2
  refine (HC.out _ (HG.out.below B4.out).bef).mono ?_
  rintro e w5 ⟨rfl, hb⟩
  have D5 := Lib.hid (D4.out.keep hb)
  have B5 := Lib.hid (B4.out.trans (hb.mono B4.out.size))
  have c0 := D5.out.c0
  have c1 := D5.out.c1
  have c2 := D5.out.c2
  clear hb D4 B4
  go_wp2_with fail
  clear c0 c1 c2
  refine (HDr.out _).mono ?_
  rintro e w6 ⟨rfl, hb⟩
  have D6 := Lib.hid (D5.out.keep hb)
  have B6 := Lib.hid (B5.out.trans (hb.mono B5.out.size))
  have c0 := D6.out.c0
  have c1 := D6.out.c1
  have c2 := D6.out.c2
  clear hb D5 B5
  go_wp2_with fail
  clear c0 c1 c2
  refine (HTr.out _).mono ?_
  rintro e w7 ⟨rfl, hb⟩
  have D7 := Lib.hid (D6.out.keep hb)
  have B7 := Lib.hid (B6.out.trans (hb.mono B6.out.size))
  have c0 := D7.out.c0
  have c1 := D7.out.c1
  have c2 := D7.out.c2
  clear hb D6 B6
  go_wp2_with fail
  go_ret
  exact ⟨rfl, B7.out⟩

theorem dates_law (y m d : Int) (w : World) (hg : Gl w) :
    Calls Tryd.prog 3 #[dateV y m d] w fun e w' => e = .returned (.bool true) ∧ Below w.heap.size w w' := by
  by_cases h : checkI y m d = 0
  · exact dates_yes y m d w hg ((checkI_ok y m d).1 h)
  · exact dates_no y m d w hg h

set_option maxRecDepth 100000 in
set_option maxHeartbeats 8000000 in
theorem days_yes (d : Int) (w : World) (hg : Gl w) (h1 : 0 ≤ d) (h2 : d ≤ 73048) :
    Calls Tryd.prog 4 #[.int .i64 d] w fun e w' => e = .returned (.bool true) ∧ Below w.heap.size w w' := by
  have HW := Lib.hid (awake_any w hg)
  have HG := Lib.hid hg
  obtain ⟨y, m, k, hd, hn⟩ := day_date d h1 h2
  have HO := Lib.hid fun w (h : BefT w) => of_at d y m k w h hd hn
  have hWd := fun w => weekday_any d w
  rw [if_pos ⟨h1, h2⟩] at hWd
  have HK := Lib.hid fun w (h : BefT w) => week_yes d w h h1 h2
  have HKr := Lib.hid fun w => rweek_any d w h1 h2
  have HOr := Lib.hid fun w => rof_at d y m k w hd hn
  have hWr := fun w => rweekday_any d w h1 (by omega)
  obtain ⟨v, hv⟩ : ∃ v, v = (d + 5) % 7 + 1 := ⟨_, rfl⟩
  rw [← hv] at hWd hWr
  have HWd := Lib.hid hWd
  have HWr := Lib.hid hWr
  obtain ⟨a, ha⟩ : ∃ v, v = weekY d := ⟨_, rfl⟩
  obtain ⟨b, hb⟩ : ∃ v, v = weekN d := ⟨_, rfl⟩
  rw [← ha, ← hb] at HK HKr
  clear ha hb hWd hWr hv hg hd hn
  go_enter Tryd.func4, Tryd.ntmps4
  go_wp2_with fail
  refine HW.out.mono ?_
  rintro e w1 ⟨rfl, hb⟩
  have B1 := Lib.hid hb
  clear hb
  go_wp2_with fail
  refine (HO.out _ (HG.out.below B1.out).bef).mono ?_
  rintro e w2 ⟨rfl, hb⟩
  have B2 := Lib.hid (B1.out.trans (hb.mono B1.out.size))
  clear hb B1
  go_wp2_with fail
  obtain ⟨x2, hx2⟩ : ∃ x, x = w2.alloc (Obj.cells #[.int .i64 y, .int .i64 m, .int .i64 k] 23) := ⟨_, rfl⟩
  rw [← hx2]
  have O2 := Lib.hid (show DateAt x2 w2.heap.size y m k by rw [hx2]; exact date_fresh w2 y m k)
  have B2' := Lib.hid (show Below w.heap.size w x2 by rw [hx2]; exact B2.out.alloc B2.out.size _)
  clear hx2 B2
  refine (HWd.out _).mono ?_
  rintro e w' ⟨rfl, rfl⟩
  go_wp2_with fail
  refine (HK.out _ (HG.out.below B2'.out).bef).mono ?_
  rintro e w3 ⟨rfl, hb⟩
  have O3 := Lib.hid (O2.out.keep hb)
  have B3 := Lib.hid (B2'.out.trans (hb.mono B2'.out.size))
  clear hb O2 B2'
  go_wp2_with fail
  refine (HKr.out _).mono ?_
  rintro e w4 ⟨rfl, hb⟩
  have O4 := Lib.hid (O3.out.keep hb)
  have B4 := Lib.hid (B3.out.trans (hb.mono B3.out.size))
  clear hb O3 B3
  have t1 : (v == v) = true := beq_self_eq_true _
  have t2 : (a == a) = true := beq_self_eq_true _
  have t3 : (b == b) = true := beq_self_eq_true _
  have t4 : (y == y) = true := beq_self_eq_true _
  have t5 : (m == m) = true := beq_self_eq_true _
  have t6 : (k == k) = true := beq_self_eq_true _
  go_wp2_with fail
  obtain ⟨N, hN⟩ : ∃ N, N = w2.heap.size := ⟨_, rfl⟩
  rw [← hN] at O4 ⊢
  have HS := Lib.hid (show w4.drew.cell? ⟨N, 0, none⟩ = some (.int .i64 y) ∧ w4.drew.cell? ⟨N, 1, none⟩ = some (.int .i64 m) ∧ w4.drew.cell? ⟨N, 2, none⟩ = some (.int .i64 k) ∧ N < w4.drew.heap.size ∧ Below w.heap.size w w4.drew from ⟨O4.out.c0, O4.out.c1, O4.out.c2, World.block_lt_of_cell? _ _ O4.out.c0, B4.out.trans (below_drewN _ _ 1)⟩)
  clear hN O4
  go_region_held3 (fun w' => w'.cell? ⟨N, 0, none⟩ = some (.int .i64 y) ∧ w'.cell? ⟨N, 1, none⟩ = some (.int .i64 m) ∧ w'.cell? ⟨N, 2, none⟩ = some (.int .i64 k) ∧ N < w'.heap.size ∧ Below w.heap.size w w')
    (first | exact HS.out | (have hh := ‹_ ∧ _ ∧ _ ∧ _ < _ ∧ Below _ _ _›; exact ⟨(hb2.cell (p := ⟨N, 0, none⟩) hh.2.2.2.1).trans hh.1, (hb2.cell (p := ⟨N, 1, none⟩) hh.2.2.2.1).trans hh.2.1, (hb2.cell (p := ⟨N, 2, none⟩) hh.2.2.2.1).trans hh.2.2.1, Nat.lt_of_lt_of_le hh.2.2.2.1 hb2.size, hh.2.2.2.2.trans (hb2.mono hh.2.2.2.2.size)⟩) | go_keep)
    (first | (go_at_call 26; have hh := ‹_ ∧ _ ∧ _ ∧ _ < _ ∧ Below _ _ _›; refine (HOr.out _).mono ?_; rintro e w2 ⟨rfl, hb2⟩) | (go_at_call 27; refine (HWr.out _).mono ?_; rintro e w' ⟨rfl, rfl⟩))
  all_goals
    go_wp2_with fail
    go_ret
    exact ⟨rfl, hh.2.2.2.2.trans (hb2.mono hh.2.2.2.2.size)⟩

set_option maxRecDepth 100000 in
set_option maxHeartbeats 4000000 in
theorem days_no (d : Int) (w : World) (hg : Gl w) (h : d < 0 ∨ (¬ d < 0 ∧ 73048 < d)) :
    Calls Tryd.prog 4 #[.int .i64 d] w fun e w' => e = .returned (.bool true) ∧ Below w.heap.size w w' := by
  have HW := Lib.hid (awake_any w hg)
  have HO := Lib.hid fun w => of_no d w (by omega)
  have hWd := fun w => weekday_any d w
  rw [if_neg (by omega)] at hWd
  have HK := Lib.hid fun w => week_no d w (by omega)
  have HWd := Lib.hid hWd
  clear hWd hg
  rcases h with h | ⟨h1, h2⟩
  all_goals
    go_enter Tryd.func4, Tryd.ntmps4
    go_wp2_with fail
    refine HW.out.mono ?_
    rintro e w1 ⟨rfl, hb⟩
    have B1 := Lib.hid hb
    clear hb
    go_wp2_with fail
    refine (HO.out _).mono ?_
    rintro e w2 ⟨rfl, hb⟩
    have B2 := Lib.hid (B1.out.trans (hb.mono B1.out.size))
    clear hb B1
    go_wp2_with fail
    obtain ⟨x2, hx2⟩ : ∃ x, x = w2.alloc (Obj.cells #[.int .i64 0, .int .i64 0, .int .i64 0] 23) := ⟨_, rfl⟩
    rw [← hx2]
    have O2 := Lib.hid (show DateAt x2 w2.heap.size 0 0 0 by rw [hx2]; exact date_fresh w2 0 0 0)
    have B2' := Lib.hid (show Below w.heap.size w x2 by rw [hx2]; exact B2.out.alloc B2.out.size _)
    clear hx2 B2
    refine (HWd.out _).mono ?_
    rintro e w' ⟨rfl, rfl⟩
    go_wp2_with fail
    refine (HK.out _).mono ?_
    rintro e w3 ⟨rfl, hb⟩
    have O3 := O2.out.keep hb
    have B3 := Lib.hid (B2'.out.trans (hb.mono B2'.out.size))
    have c0 := O3.c0
    have c1 := O3.c1
    have c2 := O3.c2
    clear hb O2 B2' O3
    go_wp2_with fail
    go_ret
    exact ⟨rfl, B3.out⟩
theorem days_law (d : Int) (w : World) (hg : Gl w) :
    Calls Tryd.prog 4 #[.int .i64 d] w fun e w' => e = .returned (.bool true) ∧ Below w.heap.size w w' := by
  by_cases h : 0 ≤ d ∧ d ≤ 73048
  · exact days_yes d w hg h.1 h.2
  · exact days_no d w hg (by omega)

set_option maxRecDepth 100000 in
set_option maxHeartbeats 4000000 in
theorem months_bad (y m d n : Int) (w : World) (hg : Gl w) (h : checkI y m d ≠ 0) :
    Calls Tryd.prog 5 #[dateV y m d, .int .i64 n] w fun e w' => e = .returned (.bool true) ∧ Below w.heap.size w w' := by
  have hW := fun w' (hb : Below w.heap.size w w') => awake_any w' (hg.below hb)
  have HW := Lib.hid hW
  have HG := Lib.hid hg
  have HM := Lib.hid fun w (h' : BefT w) => months_no y m d n w h' h
  have HC := Lib.hid fun w => rcheck_any y m d w
  obtain ⟨z, hz⟩ : ∃ z, z = checkI y m d := ⟨_, rfl⟩
  rw [← hz] at HM HC h
  have t0 : (z != 0) = true := by rw [bne_iff_ne]; exact h
  have t1 : (z == z) = true := beq_self_eq_true _
  clear hW hg hz h
  go_enter Tryd.func5, Tryd.ntmps5
  go_wp2_with fail
  refine (HW.out _ ((Below.refl _ _).alloc (Nat.le_refl _) _)).mono ?_
  rintro e w1 ⟨rfl, hb⟩
  have D1 := Lib.hid ((date_fresh w y m d).keep hb)
  have B1 := Lib.hid (((Below.refl w.heap.size w).alloc (Nat.le_refl _) (Obj.cells #[.int .i64 y, .int .i64 m, .int .i64 d] 23)).trans (hb.mono (by simp)))
  have c0 := D1.out.c0
  have c1 := D1.out.c1
  have c2 := D1.out.c2
  clear hb
  go_wp2_with fail
  clear c0 c1 c2
  refine (HM.out _ (HG.out.below B1.out).bef).mono ?_
  rintro e w2 ⟨rfl, hb⟩
  have D2 := D1.out.keep hb
  have B2 := Lib.hid (B1.out.trans (hb.mono B1.out.size))
  clear hb D1 B1
  obtain ⟨x2, hx2⟩ : ∃ x, x = w2.alloc (Obj.cells #[.int .i64 0, .int .i64 0, .int .i64 0] 23) := ⟨_, rfl⟩
  have D2' := D2.keep (show Below w2.heap.size w2 x2 by rw [hx2]; exact (Below.refl _ _).alloc (Nat.le_refl _) _)
  have O2 := Lib.hid (show DateAt x2 w2.heap.size 0 0 0 by rw [hx2]; exact date_fresh w2 0 0 0)
  have B2' := Lib.hid (show Below w.heap.size w x2 by rw [hx2]; exact B2.out.alloc B2.out.size _)
  have HX := Lib.hid hx2
  clear hx2
  have c0 := D2.c0
  have c1 := D2.c1
  have c2 := D2.c2
  clear D2
  have hne : w.heap.size < w2.heap.size := World.block_lt_of_cell? _ _ c0
  go_wp2_with fail
  rw [← HX.out]
  clear c0 c1 c2 D2'
  refine (HC.out _).mono ?_
  rintro e w3 ⟨rfl, hb⟩
  have O3 := O2.out.keep hb
  have B3 := Lib.hid (B2'.out.trans (hb.mono B2'.out.size))
  have c0 := O3.c0
  have c1 := O3.c1
  have c2 := O3.c2
  clear hb O2 B2' O3
  go_wp2_with fail
  go_ret
  exact ⟨rfl, B3.out⟩

set_option maxRecDepth 100000 in
set_option maxHeartbeats 4000000 in
theorem months_far (y m d n : Int) (w : World) (hg : Gl w) (h : IsD y m d) (n1 : -9223372036854775808 ≤ n) (n2 : n ≤ 9223372036854775807) (ht : ¬ (0 ≤ monT y m n ∧ monT y m n < 2400)) :
    Calls Tryd.prog 5 #[dateV y m d, .int .i64 n] w fun e w' => e = .returned (.bool true) ∧ Below w.heap.size w w' := by
  have hW := fun w' (hb : Below w.heap.size w w') => awake_any w' (hg.below hb)
  have HW := Lib.hid hW
  have HG := Lib.hid hg
  have HM := Lib.hid fun w (h' : BefT w) => months_out y m d n w h' h n1 n2 ht
  have hR : ∀ w, Calls Tryd.prog 29 #[dateV y m d, .int .i64 n] w fun e w' => e = .returned (.tuple #[dateV 0 0 0, .bool false]) ∧ Below w.heap.size w w' := fun w => by
    by_cases hn : n < -10000 ∨ 10000 < n
    · exact rmonths_far y m d n w hn
    · exact rmonths_out y m d n w h (by omega) (by omega) ht
  have HR := Lib.hid hR
  clear hR ht
  have hC := fun w => rcheck_any y m d w
  rw [(checkI_ok y m d).2 h] at hC
  have HC := Lib.hid hC
  clear hW hg hC h
  go_enter Tryd.func5, Tryd.ntmps5
  go_wp2_with fail
  refine (HW.out _ ((Below.refl _ _).alloc (Nat.le_refl _) _)).mono ?_
  rintro e w1 ⟨rfl, hb⟩
  have D1 := Lib.hid ((date_fresh w y m d).keep hb)
  have B1 := Lib.hid (((Below.refl w.heap.size w).alloc (Nat.le_refl _) (Obj.cells #[.int .i64 y, .int .i64 m, .int .i64 d] 23)).trans (hb.mono (by simp)))
  have c0 := D1.out.c0
  have c1 := D1.out.c1
  have c2 := D1.out.c2
  clear hb
  go_wp2_with fail
  clear c0 c1 c2
  refine (HM.out _ (HG.out.below B1.out).bef).mono ?_
  rintro e w2 ⟨rfl, hb⟩
  have D2 := D1.out.keep hb
  have B2 := Lib.hid (B1.out.trans (hb.mono B1.out.size))
  clear hb D1 B1
  obtain ⟨x2, hx2⟩ : ∃ x, x = w2.alloc (Obj.cells #[.int .i64 0, .int .i64 0, .int .i64 0] 23) := ⟨_, rfl⟩
  have D2' := Lib.hid (D2.keep (show Below w2.heap.size w2 x2 by rw [hx2]; exact (Below.refl _ _).alloc (Nat.le_refl _) _))
  have O2 := Lib.hid (show DateAt x2 w2.heap.size 0 0 0 by rw [hx2]; exact date_fresh w2 0 0 0)
  have B2' := Lib.hid (show Below w.heap.size w x2 by rw [hx2]; exact B2.out.alloc B2.out.size _)
  have HX := Lib.hid hx2
  clear hx2
  have c0 := D2.c0
  have c1 := D2.c1
  have c2 := D2.c2
  clear D2
  have hne : w.heap.size < w2.heap.size := World.block_lt_of_cell? _ _ c0
  go_wp2_with fail
  rw [← HX.out]
  clear c0 c1 c2
  refine (HC.out _).mono ?_
  rintro e w3 ⟨rfl, hb⟩
  have D3 := Lib.hid (D2'.out.keep hb)
  have O3 := Lib.hid (O2.out.keep hb)
  have B3 := Lib.hid (B2'.out.trans (hb.mono B2'.out.size))
  have c0 := D3.out.c0
  have c1 := D3.out.c1
  have c2 := D3.out.c2
  clear hb D2' O2 B2'
  go_wp2_with fail
  clear c0 c1 c2
  refine (HR.out _).mono ?_
  rintro e w4 ⟨rfl, hb⟩
  have O4 := O3.out.keep hb
  have B4 := Lib.hid (B3.out.trans (hb.mono B3.out.size))
  have c0 := O4.c0
  have c1 := O4.c1
  have c2 := O4.c2
  have hne2 : w2.heap.size < w4.heap.size := World.block_lt_of_cell? _ _ c0
  clear hb O3 B3 O4
  go_wp2_with fail
  go_ret
  exact ⟨rfl, B4.out.alloc B4.out.size _⟩

set_option maxRecDepth 100000 in
set_option maxHeartbeats 4000000 in
theorem months_good (y m d n : Int) (w : World) (hg : Gl w) (h : IsD y m d) (h1 : 0 ≤ monT y m n) (h2 : monT y m n < 2400) :
    Calls Tryd.prog 5 #[dateV y m d, .int .i64 n] w fun e w' => e = .returned (.bool true) ∧ Below w.heap.size w w' := by
  have hW := fun w' (hb : Below w.heap.size w w') => awake_any w' (hg.below hb)
  have HW := Lib.hid hW
  have HG := Lib.hid hg
  have q := h
  have r1 := h.y1
  have r2 := h.y2
  have r3 := h.m1
  have r4 := h.m2
  have r5 := h1
  have r6 := h2
  unfold monT at r5 r6
  have HM := Lib.hid fun w (h' : BefT w) => months_in y m d n w h' h h1 h2
  have HR := Lib.hid fun w => rmonths_in y m d n w h (by omega) (by omega) h1 h2
  obtain ⟨Y, hY⟩ : ∃ z, z = monY (monT y m n) := ⟨_, rfl⟩
  obtain ⟨M, hM⟩ : ∃ z, z = monM (monT y m n) := ⟨_, rfl⟩
  rw [← hY, ← hM] at HM HR
  obtain ⟨D, hD⟩ : ∃ z, z = min d (dim Y M) := ⟨_, rfl⟩
  rw [← hD] at HM HR
  have t1 : (Y == Y) = true := beq_self_eq_true _
  have t2 : (M == M) = true := beq_self_eq_true _
  have t3 : (D == D) = true := beq_self_eq_true _
  clear hY hM hD q r1 r2 r3 r4 r5 r6 h1 h2
  have hC := fun w => rcheck_any y m d w
  rw [(checkI_ok y m d).2 h] at hC
  have HC := Lib.hid hC
  clear hW hg hC h
  go_enter Tryd.func5, Tryd.ntmps5
  go_wp2_with fail
  refine (HW.out _ ((Below.refl _ _).alloc (Nat.le_refl _) _)).mono ?_
  rintro e w1 ⟨rfl, hb⟩
  have D1 := Lib.hid ((date_fresh w y m d).keep hb)
  have B1 := Lib.hid (((Below.refl w.heap.size w).alloc (Nat.le_refl _) (Obj.cells #[.int .i64 y, .int .i64 m, .int .i64 d] 23)).trans (hb.mono (by simp)))
  have c0 := D1.out.c0
  have c1 := D1.out.c1
  have c2 := D1.out.c2
  clear hb
  go_wp2_with fail
  clear c0 c1 c2
  refine (HM.out _ (HG.out.below B1.out).bef).mono ?_
  rintro e w2 ⟨rfl, hb⟩
  have D2 := D1.out.keep hb
  have B2 := Lib.hid (B1.out.trans (hb.mono B1.out.size))
  clear hb D1 B1
  obtain ⟨x2, hx2⟩ : ∃ x, x = w2.alloc (Obj.cells #[.int .i64 Y, .int .i64 M, .int .i64 D] 23) := ⟨_, rfl⟩
  have D2' := Lib.hid (D2.keep (show Below w2.heap.size w2 x2 by rw [hx2]; exact (Below.refl _ _).alloc (Nat.le_refl _) _))
  have O2 := Lib.hid (show DateAt x2 w2.heap.size Y M D by rw [hx2]; exact date_fresh w2 Y M D)
  have B2' := Lib.hid (show Below w.heap.size w x2 by rw [hx2]; exact B2.out.alloc B2.out.size _)
  have HX := Lib.hid hx2
  clear hx2
  have c0 := D2.c0
  have c1 := D2.c1
  have c2 := D2.c2
  clear D2
  have hne : w.heap.size < w2.heap.size := World.block_lt_of_cell? _ _ c0
  go_wp2_with fail
  rw [← HX.out]
  clear c0 c1 c2
  refine (HC.out _).mono ?_
  rintro e w3 ⟨rfl, hb⟩
  have D3 := Lib.hid (D2'.out.keep hb)
  have O3 := Lib.hid (O2.out.keep hb)
  have B3 := Lib.hid (B2'.out.trans (hb.mono B2'.out.size))
  have c0 := D3.out.c0
  have c1 := D3.out.c1
  have c2 := D3.out.c2
  clear hb D2' O2 B2'
  go_wp2_with fail
  clear c0 c1 c2
  refine (HR.out _).mono ?_
  rintro e w4 ⟨rfl, hb⟩
  have O4 := O3.out.keep hb
  have B4 := Lib.hid (B3.out.trans (hb.mono B3.out.size))
  have c0 := O4.c0
  have c1 := O4.c1
  have c2 := O4.c2
  have hne2 : w2.heap.size < w4.heap.size := World.block_lt_of_cell? _ _ c0
  clear hb O3 B3 O4
  go_wp2_with fail
  go_ret
  exact ⟨rfl, B4.out.alloc B4.out.size _⟩
theorem months_law (y m d n : Int) (w : World) (hg : Gl w) (n1 : -9223372036854775808 ≤ n) (n2 : n ≤ 9223372036854775807) :
    Calls Tryd.prog 5 #[dateV y m d, .int .i64 n] w fun e w' => e = .returned (.bool true) ∧ Below w.heap.size w w' := by
  by_cases h : checkI y m d = 0
  · have hd := (checkI_ok y m d).1 h
    by_cases ht : 0 ≤ monT y m n ∧ monT y m n < 2400
    · exact months_good y m d n w hg hd ht.1 ht.2
    · exact months_far y m d n w hg hd n1 n2 ht
  · exact months_bad y m d n w hg h
end Go.Proofs.YtnlkalnpmnnadaaDoor
