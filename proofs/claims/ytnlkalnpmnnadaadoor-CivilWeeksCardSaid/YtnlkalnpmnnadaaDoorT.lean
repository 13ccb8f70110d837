/- The law CivilWeeks returns true for every input. Asked: the tables read as laid. -/
import Derived.Test.YtnlkalnpmnnadaaDoorO
namespace Go.Proofs.YtnlkalnpmnnadaaDoor
open Go.RowKit

theorem mid_year (d : Int) (h1 : 0 ≤ d) (h2 : d ≤ 73048) : nY (weekY d) ≤ midI d ∧ midI d < nY (weekY d + 1) := by
  have hb : -2 ≤ midI d ∧ midI d ≤ 73051 := by unfold midI; omega
  exact ⟨yOf_low _ (by omega) (by omega), yOf_high _ (by omega) (by omega)⟩
theorem week_same (d : Int) (h : (d + 1 + 5) % 7 + 1 ≠ 1) : weekY (d + 1) = weekY d ∧ weekN (d + 1) = weekN d := by
  have e : midI (d + 1) = midI d := by unfold midI; omega
  unfold weekY weekN
  rw [e]; exact ⟨rfl, rfl⟩
theorem week_next (d : Int) (h1 : 0 ≤ d) (h2 : d ≤ 73041) (h : (d + 1 + 5) % 7 + 1 = 1) : (weekY (d + 1) = weekY d ∧ weekN (d + 1) = weekN d + 1) ∨ (weekY (d + 1) = weekY d + 1 ∧ weekN (d + 1) = 1 ∧ 52 ≤ weekN d) := by
  have e : midI (d + 1) = midI d + 7 := by unfold midI; omega
  have hb : -2 ≤ midI d ∧ midI d ≤ 73051 := by unfold midI; omega
  obtain ⟨l1, l2⟩ := mid_year d h1 (by omega)
  have s1 := nY_succ (weekY d)
  have s2 := nY_succ (weekY d + 1)
  have p1 := lp_range (weekY d)
  have p2 := lp_range (weekY d + 1)
  have hN : weekN d = (midI d - nY (weekY d)) / 7 + 1 := rfl
  by_cases hc : midI d + 7 < nY (weekY d + 1)
  · have eY : weekY (d + 1) = weekY d := by
      show yOf (midI (d + 1)) = _
      rw [e]; exact yOf_eq (by omega) (by omega) (by omega) hc
    have eN : weekN (d + 1) = (midI (d + 1) - nY (weekY (d + 1))) / 7 + 1 := rfl
    rw [eY, e] at eN
    exact .inl ⟨eY, by rw [eN, hN]; omega⟩
  · have eY : weekY (d + 1) = weekY d + 1 := by
      show yOf (midI (d + 1)) = _
      rw [e]; exact yOf_eq (by omega) (by omega) (by omega) (by omega)
    have eN : weekN (d + 1) = (midI (d + 1) - nY (weekY (d + 1))) / 7 + 1 := rfl
    rw [eY, e] at eN
    exact .inr ⟨eY, by rw [eN]; omega, by rw [hN]; omega⟩
theorem week_fourth (d y : Int) (h1 : 0 ≤ d) (h2 : d ≤ 73048) (_hd : IsD y 1 4) (he : numD y 1 4 = d) : weekY d = y ∧ weekN d = 1 := by
  have en : d = nY y + 3 := by rw [← he]; unfold numD; rw [bef_one]; omega
  have hb : nY y ≤ midI d ∧ midI d ≤ nY y + 6 := by unfold midI; omega
  have s1 := nY_succ y
  have p1 := lp_range y
  have eY : weekY d = y := yOf_eq (by omega) (by omega) hb.1 (by omega)
  have hN : weekN d = (midI d - nY (weekY d)) / 7 + 1 := rfl
  rw [eY] at hN
  exact ⟨eY, by rw [hN]; omega⟩
theorem week_bounds (d : Int) (h1 : 0 ≤ d) (h2 : d ≤ 73048) : 1999 ≤ weekY d ∧ weekY d ≤ 2200 ∧ 1 ≤ weekN d ∧ weekN d ≤ 53 := by
  have hb : -2 ≤ midI d ∧ midI d ≤ 73051 := by unfold midI; omega
  have r := yOf_wide (midI d) (by omega) (by omega)
  obtain ⟨l1, l2⟩ := mid_year d h1 h2
  have s1 := nY_succ (weekY d)
  have p1 := lp_range (weekY d)
  have hN : weekN d = (midI d - nY (weekY d)) / 7 + 1 := rfl
  exact ⟨r.1, r.2, by rw [hN]; omega, by rw [hN]; omega⟩

set_option maxRecDepth 100000 in
set_option maxHeartbeats 4000000 in
theorem weeks_out (d : Int) (w : World) (hg : Gl w) (h : d < 0 ∨ (¬ d < 0 ∧ 73041 < d)) :
    Calls Tryd.prog 9 #[.int .i64 d] w fun e w' => e = .returned (.bool true) ∧ Below w.heap.size w w' := by
  have HW := Lib.hid (awake_any w hg)
  clear hg
  rcases h with h | ⟨h1, h2⟩
  all_goals
    go_enter Tryd.func9, Tryd.ntmps9
    go_wp2_with fail
    refine HW.out.mono ?_
    rintro e w1 ⟨rfl, hb⟩
    have B1 := Lib.hid hb
    clear hb
    go_wp2_with fail
    go_ret
    exact ⟨rfl, B1.out⟩

set_option maxRecDepth 100000 in
set_option maxHeartbeats 16000000 in
theorem weeks_in (d : Int) (w : World) (hg : Gl w) (h1 : 0 ≤ d) (h2 : d ≤ 73041) :
    Calls Tryd.prog 9 #[.int .i64 d] w fun e w' => e = .returned (.bool true) ∧ Below w.heap.size w w' := by
  have HW := Lib.hid (awake_any w hg)
  have HG := Lib.hid hg
  have hA := fun w => weekday_any d w
  rw [if_pos ⟨h1, by omega⟩] at hA
  have hB := fun w => weekday_any (d + 1) w
  rw [if_pos ⟨by omega, by omega⟩] at hB
  have hC := fun w => weekday_any (d + 7) w
  rw [if_pos ⟨by omega, by omega⟩] at hC
  have HK := fun w (h : BefT w) => week_yes d w h h1 (by omega)
  have HL := fun w (h : BefT w) => week_yes (d + 1) w h (by omega) (by omega)
  obtain ⟨y, m, k, hd, hn⟩ := day_date d h1 (by omega)
  have HO := Lib.hid fun w (h : BefT w) => of_at d y m k w h hd hn
  obtain ⟨g1, g2, g3, g4⟩ := week_bounds d h1 (by omega)
  have key1 : (m == 1) = false ∨ ((m == 1) = true ∧ (k == 4) = false) ∨ ((m == 1) = true ∧ (k == 4) = true ∧ (weekY d != y) = false ∧ (weekN d != 1) = false) := by
    by_cases hm : m = 1
    · by_cases hk : k = 4
      · subst hm hk
        obtain ⟨e1, e2⟩ := week_fourth d y h1 (by omega) hd hn
        exact .inr (.inr ⟨rfl, rfl, by rw [e1]; exact bne_self_eq_false _, by rw [e2]; rfl⟩)
      · exact .inr (.inl ⟨by rw [hm]; rfl, beq_eq_false_iff_ne.2 hk⟩)
    · exact .inl (beq_eq_false_iff_ne.2 hm)
  have key2 : (((d + 1 + 5) % 7 + 1 != 1) = true ∧ (weekY d == weekY (d + 1)) = true ∧ (weekN d == weekN (d + 1)) = true) ∨
      (((d + 1 + 5) % 7 + 1 != 1) = false ∧ (weekY d == weekY (d + 1)) = true ∧ (weekN (d + 1) == weekN d + 1) = true) ∨
      (((d + 1 + 5) % 7 + 1 != 1) = false ∧ (weekY d == weekY (d + 1)) = false ∧ (weekY (d + 1) == weekY d + 1) = true ∧ (weekN (d + 1) == 1) = true ∧ decide (52 ≤ weekN d) = true) := by
    by_cases hb : (d + 1 + 5) % 7 + 1 = 1
    · rcases week_next d h1 h2 hb with ⟨e1, e2⟩ | ⟨e1, e2, e3⟩
      · exact .inr (.inl ⟨by rw [hb]; rfl, by rw [e1]; exact beq_self_eq_true _, by rw [e2]; exact beq_self_eq_true _⟩)
      · exact .inr (.inr ⟨by rw [hb]; rfl, by rw [e1]; exact beq_eq_false_iff_ne.2 (by omega), by rw [e1]; exact beq_self_eq_true _, by rw [e2]; rfl, decide_eq_true e3⟩)
    · obtain ⟨e1, e2⟩ := week_same d hb
      exact .inl ⟨by rw [bne_iff_ne]; exact hb, by rw [e1]; exact beq_self_eq_true _, by rw [e2]; exact beq_self_eq_true _⟩
  obtain ⟨a, ha⟩ : ∃ a, a = (d + 5) % 7 + 1 := ⟨_, rfl⟩
  obtain ⟨b, hb⟩ : ∃ a, a = (d + 1 + 5) % 7 + 1 := ⟨_, rfl⟩
  obtain ⟨c, hc⟩ : ∃ a, a = (d + 7 + 5) % 7 + 1 := ⟨_, rfl⟩
  rw [← ha] at hA
  rw [← hb] at hB key2
  rw [← hc] at hC
  have t1 : (a != c) = false := by rw [bne_eq_false_iff_eq]; omega
  have t2 : (b != a % 7 + 1) = false := by rw [bne_eq_false_iff_eq]; omega
  have a0 : 0 ≤ a ∧ a ≤ 7 := by omega
  clear ha hb hc
  obtain ⟨Y, hY⟩ : ∃ a, a = weekY d := ⟨_, rfl⟩
  obtain ⟨N, hN⟩ : ∃ a, a = weekN d := ⟨_, rfl⟩
  obtain ⟨Z, hZ⟩ : ∃ a, a = weekY (d + 1) := ⟨_, rfl⟩
  obtain ⟨M, hM⟩ : ∃ a, a = weekN (d + 1) := ⟨_, rfl⟩
  rw [← hY, ← hN] at HK key1
  rw [← hZ, ← hM] at HL
  rw [← hY, ← hN, ← hZ, ← hM] at key2
  rw [← hY] at g1 g2
  rw [← hN] at g3 g4
  have HA := Lib.hid hA
  have HB := Lib.hid hB
  have HC := Lib.hid hC
  have HK := Lib.hid HK
  have HL := Lib.hid HL
  clear hA hB hC hY hN hZ hM hd hn hg
  rcases key1 with k1 | ⟨k1, k2⟩ | ⟨k1, k2, k3, k4⟩ <;> rcases key2 with ⟨q1, q2, q3⟩ | ⟨q1, q2, q3⟩ | ⟨q1, q2, q3, q4, q5⟩
  all_goals
    go_enter Tryd.func9, Tryd.ntmps9
    go_wp2_with fail
    refine HW.out.mono ?_
    rintro e w1 ⟨rfl, hb⟩
    have B1 := Lib.hid hb
    clear hb
    go_wp2_with fail
    refine (HA.out _).mono ?_
    rintro e w' ⟨rfl, rfl⟩
    go_wp2_with fail
    refine (HB.out _).mono ?_
    rintro e w' ⟨rfl, rfl⟩
    go_wp2_with fail
    refine (HC.out _).mono ?_
    rintro e w' ⟨rfl, rfl⟩
    go_wp2_with fail
    refine (HK.out _ (HG.out.below B1.out).bef).mono ?_
    rintro e w2 ⟨rfl, hb⟩
    have B2 := Lib.hid (B1.out.trans (hb.mono B1.out.size))
    clear hb B1
    go_wp2_with fail
    refine (HL.out _ (HG.out.below B2.out).bef).mono ?_
    rintro e w3 ⟨rfl, hb⟩
    have B3 := Lib.hid (B2.out.trans (hb.mono B2.out.size))
    clear hb B2
    go_wp2_with fail
    refine (HO.out _ (HG.out.below B3.out).bef).mono ?_
    rintro e w4 ⟨rfl, hb⟩
    have B4 := Lib.hid (B3.out.trans (hb.mono B3.out.size))
    clear hb B3
    go_wp2_with fail
    go_ret
    exact ⟨rfl, B4.out.alloc B4.out.size _⟩
theorem weeks_law (d : Int) (w : World) (hg : Gl w) :
    Calls Tryd.prog 9 #[.int .i64 d] w fun e w' => e = .returned (.bool true) ∧ Below w.heap.size w w' := by
  by_cases h : 0 ≤ d ∧ d ≤ 73041
  · exact weeks_in d w hg h.1 h.2
  · exact weeks_out d w hg (by omega)
end Go.Proofs.YtnlkalnpmnnadaaDoor
