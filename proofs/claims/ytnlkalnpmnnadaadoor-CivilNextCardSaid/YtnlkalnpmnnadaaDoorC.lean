/- Contracts of civil.Of, Weekday, Week, At, Split, and of the specification's Weekday. Asked: the table of the days before each month. -/
import Derived.Test.YtnlkalnpmnnadaaDoorB
import Derived.Outline
namespace Go.Proofs.YtnlkalnpmnnadaaDoor
open Go.RowKit

theorem of_no (d : Int) (w : World) (h : ¬ (0 ≤ d ∧ d ≤ 73048)) :
    Calls Tryd.prog 22 #[.int .i64 d] w fun e w' => e = .returned (.tuple #[dateV 0 0 0, .int .i64 1]) ∧ Below w.heap.size w w' := by
  have hc := fun w => checkDay_any d w
  rw [if_neg h] at hc
  have HC := Lib.hid hc
  clear hc h
  go_enter Tryd.func22, Tryd.ntmps22
  go_wp2_with fail
  refine (HC.out _).mono ?_
  rintro e w' ⟨rfl, rfl⟩
  go_wp2_with fail
  exact bodyPost_ret (v := .tuple #[dateV 0 0 0, .int .i64 1]) (by simp [results, Tryd.results22, go_sem]) rfl ⟨rfl, (Below.refl _ _).alloc (Nat.le_refl _) _⟩

set_option maxHeartbeats 1000000 in
theorem of_yes (d : Int) (w : World) (hT : BefT w) (h1 : 0 ≤ d) (h2 : d ≤ 73048) :
    Calls Tryd.prog 22 #[.int .i64 d] w fun e w' => ∃ y m k : Int, e = .returned (.tuple #[dateV y m k, .int .i64 0]) ∧ IsD y m k ∧ numD y m k = d ∧ Below w.heap.size w w' := by
  have hc := fun w => checkDay_any d w
  rw [if_pos ⟨h1, h2⟩] at hc
  have HC := Lib.hid hc
  clear hc
  have HY := Lib.hid fun w' (hb : Below w.heap.size w w') => yearOf_any d w' (by omega) (by omega) (hT.below hb)
  have ry := yOf_range d h1 h2
  have HN := Lib.hid fun w' (hb : Below w.heap.size w w') => newYear_any (yOf d) w' (by omega) (by omega) (hT.below hb)
  have HD := Lib.hid fun w' (hb : Below w.heap.size w w') m (h1 : 1 ≤ m) (h2 : m ≤ 13) => daysBefore_any (yOf d) m w' h1 h2 (hT.below hb)
  have l1 := yOf_low d (by omega) (by omega)
  have l2 := yOf_high d (by omega) (by omega)
  rw [nY_succ] at l2
  have rl := lp_range (yOf d)
  have HF := Lib.hid fun m (a : 1 ≤ m) (b : m ≤ 12) => isD_of (m := m) h1 h2 (yOf_low d (by omega) (by omega)) (yOf_high d (by omega) (by omega)) a b
  have HR := Lib.hid fun m (a : 1 ≤ m) (b : m ≤ 13) => bef_range (yOf d) m a b
  have H1 := Lib.hid (bef_one (yOf d))
  obtain ⟨y, hy⟩ : ∃ y, y = yOf d := ⟨_, rfl⟩
  rw [← hy] at HY ry HN HD l1 l2 rl HF HR H1
  have rn := nY_range y (by omega) (by omega)
  obtain ⟨a, ha⟩ : ∃ a, a = nY y := ⟨_, rfl⟩
  rw [← ha] at HN l1 l2 HF rn
  clear hy ha hT
  go_enter Tryd.func22, Tryd.ntmps22
  go_wp2_with fail
  refine (HC.out _).mono ?_
  rintro e w' ⟨rfl, rfl⟩
  go_wp2_with fail
  refine (HY.out _ ((Below.refl _ _).alloc (Nat.le_refl _) _)).mono ?_
  rintro e w' ⟨rfl, n1, rfl⟩
  go_wp2_with fail
  refine (HN.out _ (bdraw ((Below.refl _ _).alloc (Nat.le_refl _) _) _)).mono ?_
  rintro e w' ⟨rfl, n2, rfl⟩
  have HB := Lib.hid (bdraw ((Below.refl w.heap.size w).alloc (Nat.le_refl _) (.cells #[.int .i64 0, .int .i64 0, .int .i64 0] 23)) (n1 + n2))
  go_wp2_with fail
  go_loop [6] (fun mm => ∃ m : Int, 1 ≤ m ∧ m ≤ 12 ∧ mm = .int .i64 m ∧ (m = 12 ∨ d - a < bef y (m + 1))) (fun mm => (intOf mm).toNat)
  case atStart => exact ⟨12, by omega, by omega, rfl, .inl rfl⟩
  case round =>
    obtain ⟨m, m1, m2, rfl, hm⟩ := hrel
    have HD1 := Lib.hid (HD.out _ HB.out m m1 (by omega))
    have rb := HR.out m m1 (by omega)
    have HF1 := Lib.hid (HF.out m m1 m2)
    have HM := Lib.hid hm
    have h1m : m = 1 → bef y m = 0 := fun h => by rw [h]; exact H1.out
    obtain ⟨b, hb⟩ : ∃ b, b = bef y m := ⟨_, rfl⟩
    rw [← hb] at HD1 rb HF1 h1m
    have HE := Lib.hid hb
    clear hb hm
    by_cases hc : b ≤ d - a
    · have HG := Lib.hid (HF1.out hc HM.out)
      clear h1m
      go_wp2_with fail
      refine HD1.out.mono ?_
      rintro e w' ⟨rfl, rfl⟩
      go_wp2_with fail
      refine HD1.out.mono ?_
      rintro e w' ⟨rfl, rfl⟩
      go_wp2_with fail
      refine bodyPost_ret (v := .tuple #[dateV y m (d - a - b + 1), .int .i64 0]) (by simp [results, Tryd.results22, go_sem]) rfl ⟨y, m, _, rfl, HG.out.1, HG.out.2, ?_⟩
      exact ((HB.out.setCell (Nat.le_refl _) _).setCell (Nat.le_refl _) _).setCell (Nat.le_refl _) _
    · have hm2 : 2 ≤ m := by
        rcases (by omega : m = 1 ∨ 2 ≤ m) with h | h
        · have := h1m h; omega
        · exact h
      clear h1m
      go_wp2_with fail
      refine HD1.out.mono ?_
      rintro e w' ⟨rfl, rfl⟩
      go_wp2_with fail
      go_round
      case rel => exact ⟨m - 1, by omega, by omega, rfl, .inr (by rw [show m - 1 + 1 = m by omega, ← HE.out]; omega)⟩
      case measure => simp [intOf]; omega

set_option maxHeartbeats 400000 in
theorem weekday_any (d : Int) (w : World) :
    Calls Tryd.prog 23 #[.int .i64 d] w fun e w' => e = .returned (if 0 ≤ d ∧ d ≤ 73048 then .tuple #[.int .i64 ((d + 5) % 7 + 1), .int .i64 0] else .tuple #[.int .i64 0, .int .i64 1]) ∧ w = w' := by
  have hc := checkDay_any d w
  by_cases h : 0 ≤ d ∧ d ≤ 73048
  · rw [if_pos h] at hc ⊢
    have HC := Lib.hid hc
    obtain ⟨h1, h2⟩ := h
    clear hc
    go_enter Tryd.func23, Tryd.ntmps23
    go_wp2_with fail
    refine HC.out.mono ?_
    rintro e w' ⟨rfl, rfl⟩
    go_wp2_with fail
    go_ret2
    exact ⟨rfl, rfl⟩
  · rw [if_neg h] at hc ⊢
    have HC := Lib.hid hc
    clear hc h
    go_enter Tryd.func23, Tryd.ntmps23
    go_wp2_with fail
    refine HC.out.mono ?_
    rintro e w' ⟨rfl, rfl⟩
    go_wp2_with fail
    go_ret2
    exact ⟨rfl, rfl⟩

set_option maxHeartbeats 400000 in
theorem rweekday_any (d : Int) (w : World) (h1 : 0 ≤ d) (h2 : d ≤ 80000) :
    Calls Tryd.prog 27 #[.int .i64 d] w fun e w' => e = .returned (.int .i64 ((d + 5) % 7 + 1)) ∧ w = w' := by
  go_enter Tryd.func27, Tryd.ntmps27
  go_wp2_with fail
  go_ret
  exact ⟨rfl, rfl⟩

/-- the week of a day -/
def midI (d : Int) : Int := d + 4 - ((d + 5) % 7 + 1)
def weekY (d : Int) : Int := yOf (midI d)
def weekN (d : Int) : Int := (midI d - nY (yOf (midI d))) / 7 + 1

set_option maxHeartbeats 400000 in
theorem week_no (d : Int) (w : World) (h : ¬ (0 ≤ d ∧ d ≤ 73048)) :
    Calls Tryd.prog 24 #[.int .i64 d] w fun e w' => e = .returned (.tuple #[.int .i64 0, .int .i64 0, .int .i64 1]) ∧ Below w.heap.size w w' := by
  have hc := weekday_any d w
  rw [if_neg h] at hc
  have HC := Lib.hid hc
  clear hc h
  go_enter Tryd.func24, Tryd.ntmps24
  go_wp2_with fail
  refine HC.out.mono ?_
  rintro e w' ⟨rfl, rfl⟩
  go_wp2_with fail
  go_ret3
  exact ⟨rfl, Below.refl _ _⟩

set_option maxHeartbeats 400000 in
theorem week_yes (d : Int) (w : World) (hT : BefT w) (h1 : 0 ≤ d) (h2 : d ≤ 73048) :
    Calls Tryd.prog 24 #[.int .i64 d] w fun e w' => e = .returned (.tuple #[.int .i64 (weekY d), .int .i64 (weekN d), .int .i64 0]) ∧ Below w.heap.size w w' := by
  have hc := weekday_any d w
  rw [if_pos ⟨h1, h2⟩] at hc
  have HC := Lib.hid hc
  clear hc
  have r0 : -2 ≤ d + 4 - ((d + 5) % 7 + 1) ∧ d + 4 - ((d + 5) % 7 + 1) ≤ 73051 := by omega
  have HY := Lib.hid (yearOf_any (d + 4 - ((d + 5) % 7 + 1)) w (by omega) (by omega) hT)
  have ry := yOf_wide (d + 4 - ((d + 5) % 7 + 1)) (by omega) (by omega)
  have HN := Lib.hid fun n => newYear_any (yOf (d + 4 - ((d + 5) % 7 + 1))) (w.drewN n) (by omega) (by omega) (hT.below (below_drewN _ _ _))
  have l1 := yOf_low (d + 4 - ((d + 5) % 7 + 1)) (by omega) (by omega)
  have l2 := yOf_high (d + 4 - ((d + 5) % 7 + 1)) (by omega) (by omega)
  rw [nY_succ] at l2
  have hw : weekN d = (d + 4 - ((d + 5) % 7 + 1) - nY (yOf (d + 4 - ((d + 5) % 7 + 1)))) / 7 + 1 := rfl
  have hy : weekY d = yOf (d + 4 - ((d + 5) % 7 + 1)) := rfl
  rw [hw, hy]
  clear hw hy hT
  obtain ⟨y, hy⟩ : ∃ y, y = yOf (d + 4 - ((d + 5) % 7 + 1)) := ⟨_, rfl⟩
  rw [← hy] at HY ry HN l1 l2 ⊢
  have rn := nY_range y (by omega) (by omega)
  have rl := lp_range y
  obtain ⟨a, ha⟩ : ∃ a, a = nY y := ⟨_, rfl⟩
  rw [← ha] at HN l1 l2 rn ⊢
  clear hy ha
  go_enter Tryd.func24, Tryd.ntmps24
  go_wp2_with fail
  refine HC.out.mono ?_
  rintro e w' ⟨rfl, rfl⟩
  go_wp2_with fail
  refine HY.out.mono ?_
  rintro e w' ⟨rfl, n1, rfl⟩
  go_wp2_with fail
  refine (HN.out _).mono ?_
  rintro e w' ⟨rfl, n2, rfl⟩
  go_wp2_with fail
  go_ret3
  exact ⟨rfl, below_drewN _ _ _⟩

set_option maxHeartbeats 400000 in
theorem at_any (d m : Int) (w : World) :
    Calls Tryd.prog 30 #[.int .i64 d, .int .i64 m] w fun e w' => e = .returned (if 0 ≤ d ∧ d ≤ 73048 then (if 0 ≤ m ∧ m < 1440 then .tuple #[.int .i64 (d * 86400 + m * 60), .int .i64 0] else .tuple #[.int .i64 0, .int .i64 6]) else .tuple #[.int .i64 0, .int .i64 1]) ∧ w = w' := by
  have hc := checkDay_any d w
  have hm := checkMinute_any m w
  by_cases h : 0 ≤ d ∧ d ≤ 73048
  · rw [if_pos h] at hc ⊢
    have HC := Lib.hid hc
    obtain ⟨h1, h2⟩ := h
    by_cases h' : 0 ≤ m ∧ m < 1440
    · rw [if_pos h'] at hm ⊢
      have HM := Lib.hid hm
      obtain ⟨h3, h4⟩ := h'
      clear hc hm
      go_enter Tryd.func30, Tryd.ntmps30
      go_wp2_with fail
      refine HC.out.mono ?_
      rintro e w' ⟨rfl, rfl⟩
      go_wp2_with fail
      refine HM.out.mono ?_
      rintro e w' ⟨rfl, rfl⟩
      go_wp2_with fail
      go_ret2
      exact ⟨rfl, rfl⟩
    · rw [if_neg h'] at hm ⊢
      have HM := Lib.hid hm
      clear hc hm h'
      go_enter Tryd.func30, Tryd.ntmps30
      go_wp2_with fail
      refine HC.out.mono ?_
      rintro e w' ⟨rfl, rfl⟩
      go_wp2_with fail
      refine HM.out.mono ?_
      rintro e w' ⟨rfl, rfl⟩
      go_wp2_with fail
      go_ret2
      exact ⟨rfl, rfl⟩
  · rw [if_neg h] at hc ⊢
    have HC := Lib.hid hc
    clear hc h hm
    go_enter Tryd.func30, Tryd.ntmps30
    go_wp2_with fail
    refine HC.out.mono ?_
    rintro e w' ⟨rfl, rfl⟩
    go_wp2_with fail
    go_ret2
    exact ⟨rfl, rfl⟩

set_option maxHeartbeats 400000 in
theorem split_no (n : Int) (w : World) (h : ¬ (0 ≤ n ∧ n ≤ 6311433599)) :
    Calls Tryd.prog 31 #[.int .i64 n] w fun e w' => e = .returned (.tuple #[.int .i64 0, .int .i64 0, .int .i64 0, .int .i64 1]) ∧ w = w' := by
  rcases (by omega : n < 0 ∨ (¬ n < 0 ∧ 6311433599 < n)) with h' | ⟨h0, h'⟩
  all_goals
    clear h
    go_enter Tryd.func31, Tryd.ntmps31
    go_wp2_with fail
    exact bodyPost_ret (v := .tuple #[.int .i64 0, .int .i64 0, .int .i64 0, .int .i64 1]) (by simp [results, Tryd.results31, go_sem]) rfl ⟨rfl, rfl⟩

set_option maxHeartbeats 400000 in
theorem split_yes (n : Int) (w : World) (h1 : 0 ≤ n) (h2 : n ≤ 6311433599) :
    Calls Tryd.prog 31 #[.int .i64 n] w fun e w' => e = .returned (.tuple #[.int .i64 (n / 86400), .int .i64 (n % 86400 / 60), .int .i64 (n % 86400 % 60), .int .i64 0]) ∧ w = w' := by
  go_enter Tryd.func31, Tryd.ntmps31
  go_wp2_with fail
  exact bodyPost_ret (v := .tuple #[.int .i64 (n / 86400), .int .i64 (n % 86400 / 60), .int .i64 (n % 86400 % 60), .int .i64 0]) (by simp [results, Tryd.results31, go_sem]) rfl ⟨rfl, rfl⟩
end Go.Proofs.YtnlkalnpmnnadaaDoor
