/- awake of civil's laws returns true: the chapter's examples. Asked: the tables read as laid. -/
import Derived.Test.YtnlkalnpmnnadaaDoorL
namespace Go.Proofs.YtnlkalnpmnnadaaDoor
open Go.RowKit

/-- both tables read as laid -/
structure Gl (w : World) : Prop where
  bef : BefT w
  tab : Tab w
theorem Gl.below {w w' : World} (h : Gl w) (hb : Below w.heap.size w w') : Gl w' := ⟨h.bef.below hb, h.tab.below hb⟩

theorem d1 : IsD 2026 11 16 := ⟨by decide, by decide, by decide, by decide, by decide, by decide +kernel⟩
theorem d2 : IsD 2024 1 31 := ⟨by decide, by decide, by decide, by decide, by decide, by decide +kernel⟩
theorem d3 : IsD 2199 12 31 := ⟨by decide, by decide, by decide, by decide, by decide, by decide +kernel⟩

theorem l_day (w : World) (h : Gl w) : Calls Tryd.prog 17 #[dateV 2026 11 16] w fun e w' => e = .returned (.tuple #[.int .i64 9816, .int .i64 0]) ∧ Below w.heap.size w w' := by
  have h := day_yes 2026 11 16 w h.bef d1
  rw [show numD 2026 11 16 = 9816 by decide +kernel] at h
  exact h
theorem l_of (w : World) (h : Gl w) : Calls Tryd.prog 22 #[.int .i64 73048] w fun e w' => e = .returned (.tuple #[dateV 2199 12 31, .int .i64 0]) ∧ Below w.heap.size w w' := by
  refine (of_yes 73048 w h.bef (by decide) (by decide)).mono ?_
  rintro e w' ⟨y, m, k, rfl, hd, he, hb⟩
  obtain ⟨rfl, rfl, rfl⟩ := date_unique hd d3 (by rw [he]; decide +kernel)
  exact ⟨rfl, hb⟩
theorem l_weekday (w : World) : Calls Tryd.prog 23 #[.int .i64 9816] w fun e w' => e = .returned (.tuple #[.int .i64 1, .int .i64 0]) ∧ w = w' := by
  have h := weekday_any 9816 w
  rw [if_pos (by decide), show ((9816 : Int) + 5) % 7 + 1 = 1 by decide] at h
  exact h
theorem l_week (w : World) (h : Gl w) : Calls Tryd.prog 24 #[.int .i64 0] w fun e w' => e = .returned (.tuple #[.int .i64 1999, .int .i64 52, .int .i64 0]) ∧ Below w.heap.size w w' := by
  have h := week_yes 0 w h.bef (by decide) (by decide)
  obtain ⟨e1, e2⟩ := weekY_neg 0 (by decide) (by decide +kernel)
  rw [e1, e2] at h
  exact h
theorem l_months (w : World) (h : Gl w) : Calls Tryd.prog 28 #[dateV 2024 1 31, .int .i64 1] w fun e w' => e = .returned (.tuple #[dateV 2024 2 29, .int .i64 0]) ∧ Below w.heap.size w w' := by
  have h := months_in 2024 1 31 1 w h.bef d2 (by decide +kernel) (by decide +kernel)
  rw [show monY (monT 2024 1 1) = 2024 by decide +kernel, show monM (monT 2024 1 1) = 2 by decide +kernel, show min 31 (dim 2024 2) = 29 by decide +kernel] at h
  exact h
theorem l_at (w : World) : Calls Tryd.prog 30 #[.int .i64 1, .int .i64 450] w fun e w' => e = .returned (.tuple #[.int .i64 113400, .int .i64 0]) ∧ w = w' := by
  have h := at_any 1 450 w
  rw [if_pos (by decide), if_pos (by decide), show (1 : Int) * 86400 + 450 * 60 = 113400 by decide] at h
  exact h
theorem l_split (w : World) : Calls Tryd.prog 31 #[.int .i64 113401] w fun e w' => e = .returned (.tuple #[.int .i64 1, .int .i64 450, .int .i64 1, .int .i64 0]) ∧ w = w' := by
  have h := split_yes 113401 w (by decide) (by decide)
  rw [show (113401 : Int) / 86400 = 1 by decide, show (113401 : Int) % 86400 / 60 = 450 by decide, show (113401 : Int) % 86400 % 60 = 1 by decide] at h
  exact h
theorem l_text (w : World) (h : Gl w) : Calls Tryd.prog 18 #[dateV 2026 11 16] w fun e w' => e = .returned (.tuple #[.string ⟨#[50, 48, 50, 54, 45, 49, 49, 45, 49, 54]⟩, .int .i64 0]) ∧ Below w.heap.size w w' := by
  have h := text_yes 2026 11 16 w h.bef h.tab d1
  rw [show bs (dateL 2026 11 16) = ⟨#[50, 48, 50, 54, 45, 49, 49, 45, 49, 54]⟩ by decide +kernel] at h
  exact h
theorem l_parse (w : World) (h : Gl w) : Calls Tryd.prog 32 #[.string ⟨#[50, 48, 50, 54, 45, 49, 49, 45, 49, 54]⟩] w fun e w' => e = .returned (.tuple #[dateV 2026 11 16, .int .i64 0]) ∧ Below w.heap.size w w' := by
  have h := parse_ok ⟨#[50, 48, 50, 54, 45, 49, 49, 45, 49, 54]⟩ w (by decide) h.bef (by decide +kernel) (by decide +kernel)
  exact h
theorem l_clock (w : World) (h : Gl w) : Calls Tryd.prog 36 #[.int .i64 450] w fun e w' => e = .returned (.tuple #[.string ⟨#[48, 55, 58, 51, 48]⟩, .int .i64 0]) ∧ Below w.heap.size w w' := by
  have h := clock_yes 450 w (by decide) (by decide) h.tab
  rw [show bs (clockL 450) = ⟨#[48, 55, 58, 51, 48]⟩ by decide +kernel] at h
  exact h
theorem l_parseClock (w : World) : Calls Tryd.prog 34 #[.string ⟨#[48, 55, 58, 51, 48]⟩] w fun e w' => e = .returned (.tuple #[.int .i64 450, .int .i64 0]) ∧ Below w.heap.size w w' := by
  have h := parseClock_yes ⟨#[48, 55, 58, 51, 48]⟩ w (by decide) (by decide +kernel)
  rw [show clockR (⟨#[48, 55, 58, 51, 48]⟩ : ByteArray).data.toList = (450, 0) by decide +kernel] at h
  exact h
theorem l_leap1 (w : World) : Calls Tryd.prog 12 #[.int .i64 2096] w fun e w' => e = .returned (.bool true) ∧ w = w' := by
  have h := leap_any 2096 w
  rw [show leapB 2096 = true by decide +kernel] at h
  exact h
theorem l_leap2 (w : World) : Calls Tryd.prog 12 #[.int .i64 2100] w fun e w' => e = .returned (.bool false) ∧ w = w' := by
  have h := leap_any 2100 w
  rw [show leapB 2100 = false by decide +kernel] at h
  exact h
theorem l_daysIn (w : World) (h : Gl w) : Calls Tryd.prog 14 #[.int .i64 2100, .int .i64 2] w fun e w' => e = .returned (.int .i64 28) ∧ w = w' := by
  have h := daysIn_any 2100 2 w h.bef
  rw [show dim 2100 2 = 28 by decide +kernel] at h
  exact h
theorem l_check (w : World) (h : Gl w) : Calls Tryd.prog 19 #[dateV 2026 11 16] w fun e w' => e = .returned (.int .i64 0) ∧ Below w.heap.size w w' := by
  have h := check_any 2026 11 16 w h.bef
  rw [(checkI_ok _ _ _).2 d1] at h
  exact h

set_option maxRecDepth 100000 in
set_option maxHeartbeats 4000000 in
theorem awake_any (w : World) (hg : Gl w) : Calls Tryd.prog 11 #[] w fun e w' => e = .returned (.bool true) ∧ Below w.heap.size w w' := by
  have HG := Lib.hid hg
  have B0 := Lib.hid (Below.refl w.heap.size w)
  clear hg
  go_enter Tryd.func11, Tryd.ntmps11
  go_wp2_with fail
  refine (l_day _ (HG.out.below ((Below.refl _ _).alloc (Nat.le_refl _) _))).mono ?_
  rintro e w1 ⟨rfl, hb⟩
  have D1 := Lib.hid ((date_fresh w 2026 11 16).keep hb)
  have B1 := Lib.hid (((Below.refl w.heap.size w).alloc (Nat.le_refl _) (Obj.cells #[.int .i64 2026, .int .i64 11, .int .i64 16] 23)).trans (hb.mono (by simp)))
  clear hb
  go_wp2_with fail
  refine (l_of _ (HG.out.below B1.out)).mono ?_
  rintro e w2 ⟨rfl, hb⟩
  have D2 := Lib.hid (D1.out.keep hb)
  have B2 := Lib.hid (B1.out.trans (hb.mono B1.out.size))
  clear hb D1 B1
  go_wp2_with fail
  refine (l_weekday _).mono ?_
  rintro e w' ⟨rfl, rfl⟩
  go_wp2_with fail
  obtain ⟨x2, hx2⟩ : ∃ x, x = w2.alloc (Obj.cells #[.int .i64 2199, .int .i64 12, .int .i64 31] 23) := ⟨_, rfl⟩
  rw [← hx2]
  have O2 := Lib.hid (show DateAt x2 w2.heap.size 2199 12 31 by rw [hx2]; exact date_fresh w2 2199 12 31)
  have D2' := Lib.hid (show DateAt x2 w.heap.size 2026 11 16 by rw [hx2]; exact D2.out.keep ((Below.refl _ _).alloc (Nat.le_refl _) _))
  have B2' := Lib.hid (show Below w.heap.size w x2 by rw [hx2]; exact B2.out.alloc B2.out.size _)
  clear hx2 D2 B2
  refine (l_week _ (HG.out.below B2'.out)).mono ?_
  rintro e w3 ⟨rfl, hb⟩
  have D3 := Lib.hid (D2'.out.keep hb)
  have O3 := Lib.hid (O2.out.keep hb)
  have B3 := Lib.hid (B2'.out.trans (hb.mono B2'.out.size))
  clear hb D2' O2 B2'
  go_wp2_with fail
  refine (l_months _ (HG.out.below B3.out)).mono ?_
  rintro e w4 ⟨rfl, hb⟩
  have D4 := Lib.hid (D3.out.keep hb)
  have O4 := Lib.hid (O3.out.keep hb)
  have B4 := Lib.hid (B3.out.trans (hb.mono B3.out.size))
  clear hb D3 O3 B3
  go_wp2_with fail
  obtain ⟨x4, hx4⟩ : ∃ x, x = w4.alloc (Obj.cells #[.int .i64 2024, .int .i64 2, .int .i64 29] 23) := ⟨_, rfl⟩
  rw [← hx4]
  have M4 := Lib.hid (show DateAt x4 w4.heap.size 2024 2 29 by rw [hx4]; exact date_fresh w4 2024 2 29)
  have D4' := Lib.hid (show DateAt x4 w.heap.size 2026 11 16 by rw [hx4]; exact D4.out.keep ((Below.refl _ _).alloc (Nat.le_refl _) _))
  have O4' := Lib.hid (show DateAt x4 w2.heap.size 2199 12 31 by rw [hx4]; exact O4.out.keep ((Below.refl _ _).alloc (Nat.le_refl _) _))
  have B4' := Lib.hid (show Below w.heap.size w x4 by rw [hx4]; exact B4.out.alloc B4.out.size _)
  clear hx4 D4 O4 B4
  refine (l_at _).mono ?_
  rintro e w' ⟨rfl, rfl⟩
  go_wp2_with fail
  refine (l_split _).mono ?_
  rintro e w' ⟨rfl, rfl⟩
  have c0 := D4'.out.c0
  have c1 := D4'.out.c1
  have c2 := D4'.out.c2
  go_wp2_with fail
  clear c0 c1 c2
  refine (l_text _ (HG.out.below B4'.out)).mono ?_
  rintro e w5 ⟨rfl, hb⟩
  have D5 := Lib.hid (D4'.out.keep hb)
  have O5 := Lib.hid (O4'.out.keep hb)
  have M5 := Lib.hid (M4.out.keep hb)
  have B5 := Lib.hid (B4'.out.trans (hb.mono B4'.out.size))
  clear hb D4' O4' B4' M4
  go_wp2_with fail
  refine (l_parse _ (HG.out.below B5.out)).mono ?_
  rintro e w6 ⟨rfl, hb⟩
  have D6 := Lib.hid (D5.out.keep hb)
  have O6 := Lib.hid (O5.out.keep hb)
  have M6 := Lib.hid (M5.out.keep hb)
  have B6 := Lib.hid (B5.out.trans (hb.mono B5.out.size))
  clear hb D5 O5 B5 M5
  go_wp2_with fail
  obtain ⟨x6, hx6⟩ : ∃ x, x = w6.alloc (Obj.cells #[.int .i64 2026, .int .i64 11, .int .i64 16] 23) := ⟨_, rfl⟩
  rw [← hx6]
  have Q6 := Lib.hid (show DateAt x6 w6.heap.size 2026 11 16 by rw [hx6]; exact date_fresh w6 2026 11 16)
  have D6' := Lib.hid (show DateAt x6 w.heap.size 2026 11 16 by rw [hx6]; exact D6.out.keep ((Below.refl _ _).alloc (Nat.le_refl _) _))
  have O6' := Lib.hid (show DateAt x6 w2.heap.size 2199 12 31 by rw [hx6]; exact O6.out.keep ((Below.refl _ _).alloc (Nat.le_refl _) _))
  have M6' := Lib.hid (show DateAt x6 w4.heap.size 2024 2 29 by rw [hx6]; exact M6.out.keep ((Below.refl _ _).alloc (Nat.le_refl _) _))
  have B6' := Lib.hid (show Below w.heap.size w x6 by rw [hx6]; exact B6.out.alloc B6.out.size _)
  clear hx6 D6 O6 B6 M6
  refine (l_clock _ (HG.out.below B6'.out)).mono ?_
  rintro e w7 ⟨rfl, hb⟩
  have D7 := Lib.hid (D6'.out.keep hb)
  have O7 := Lib.hid (O6'.out.keep hb)
  have M7 := Lib.hid (M6'.out.keep hb)
  have Q7 := Lib.hid (Q6.out.keep hb)
  have B7 := Lib.hid (B6'.out.trans (hb.mono B6'.out.size))
  clear hb D6' O6' B6' M6' Q6
  go_wp2_with fail
  refine (l_parseClock _).mono ?_
  rintro e w8 ⟨rfl, hb⟩
  have D8 := Lib.hid (D7.out.keep hb)
  have O8 := Lib.hid (O7.out.keep hb)
  have M8 := Lib.hid (M7.out.keep hb)
  have Q8 := Lib.hid (Q7.out.keep hb)
  have B8 := Lib.hid (B7.out.trans (hb.mono B7.out.size))
  clear hb D7 O7 B7 M7 Q7
  go_wp2_with fail
  refine (l_leap1 _).mono ?_
  rintro e w' ⟨rfl, rfl⟩
  go_wp2_with fail
  refine (l_leap2 _).mono ?_
  rintro e w' ⟨rfl, rfl⟩
  go_wp2_with fail
  refine (l_daysIn _ (HG.out.below B8.out)).mono ?_
  rintro e w' ⟨rfl, rfl⟩
  have c0 := D8.out.c0
  have c1 := D8.out.c1
  have c2 := D8.out.c2
  go_wp2_with fail
  clear c0 c1 c2
  refine (l_check _ (HG.out.below B8.out)).mono ?_
  rintro e w9 ⟨rfl, hb⟩
  have D9 := D8.out.keep hb
  have O9 := O8.out.keep hb
  have M9 := M8.out.keep hb
  have Q9 := Q8.out.keep hb
  have B9 := Lib.hid (B8.out.trans (hb.mono B8.out.size))
  have c0 := D9.c0
  have c1 := D9.c1
  have c2 := D9.c2
  have o0 := O9.c0
  have o1 := O9.c1
  have o2 := O9.c2
  have m2 := M9.c2
  have q0 := Q9.c0
  have q1 := Q9.c1
  have q2 := Q9.c2
  clear hb D8 O8 M8 Q8 B8 D9 O9 M9 Q9
  go_wp2_with fail
  go_ret
  exact ⟨rfl, B9.out⟩
end Go.Proofs.YtnlkalnpmnnadaaDoor
