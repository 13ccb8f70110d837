/- Plain facts on years, months, days and weeks. No Go; no conditions beyond what each states. -/
import Derived.RowKit
namespace Go.Proofs.YtnlkalnpmnnadaaDoor
open Go.RowKit

/-- the three tests of a leap year, as Go computes them -/
def leapB (y : Int) : Bool := (y.tmod 4 == 0 && !(y.tmod 100 == 0)) || y.tmod 400 == 0
theorem tmod_zero (y k : Int) : (y.tmod k == 0) = decide (y % k = 0) := by
  rw [Bool.eq_iff_iff, beq_iff_eq, decide_eq_true_eq, ← Int.dvd_iff_tmod_eq_zero, ← Int.dvd_iff_emod_eq_zero]
theorem leapB_iff (y : Int) : leapB y = true ↔ (y % 4 = 0 ∧ ¬ y % 100 = 0) ∨ y % 400 = 0 := by
  unfold leapB
  rw [tmod_zero, tmod_zero, tmod_zero, Bool.or_eq_true, Bool.and_eq_true, decide_eq_true_eq, decide_eq_true_eq, Bool.not_eq_true', decide_eq_false_iff_not]
/-- 1 for a leap year -/
def lp (y : Int) : Int := if leapB y = true then 1 else 0
theorem lp_range (y : Int) : 0 ≤ lp y ∧ lp y ≤ 1 := by unfold lp; split <;> omega
/-- the leap years before a year -/
def lB (y : Int) : Int := (y - 1) / 4 - (y - 1) / 100 + (y - 1) / 400
theorem lB_succ (y : Int) : lB (y + 1) = lB y + lp y := by
  unfold lp lB
  by_cases h : leapB y = true
  · rw [if_pos h]; rw [leapB_iff] at h; omega
  · rw [if_neg h]; rw [leapB_iff] at h; omega
/-- the number of a year's first day -/
def nY (y : Int) : Int := (y - 2000) * 365 + lB y - 484
theorem nY_succ (y : Int) : nY (y + 1) = nY y + 365 + lp y := by unfold nY; rw [lB_succ]; omega
theorem nY_2000 : nY 2000 = 0 := by decide +kernel
theorem nY_1999 : nY 1999 = -365 := by decide +kernel
theorem nY_2199 : nY 2199 = 72684 := by decide +kernel
theorem nY_2200 : nY 2200 = 73049 := by decide +kernel
theorem nY_lt (y : Int) : nY y + 365 ≤ nY (y + 1) := by rw [nY_succ]; have := lp_range y; omega
theorem nY_add (y : Int) : ∀ n : Nat, nY y + 365 * n ≤ nY (y + n)
  | 0 => by simp
  | n + 1 => by
    have h := nY_add y n
    have h2 := nY_lt (y + n)
    have e : y + ((n + 1 : Nat) : Int) = y + n + 1 := by omega
    rw [e]; omega
theorem nY_mono {a b : Int} (h : a ≤ b) : nY a ≤ nY b := by
  have h1 := nY_add a (b - a).toNat
  have e : a + ((b - a).toNat : Int) = b := by omega
  rw [e] at h1; omega
theorem nY_range (y : Int) (h1 : 1999 ≤ y) (h2 : y ≤ 2200) : -365 ≤ nY y ∧ nY y ≤ 73049 := by
  have a := nY_mono h1
  have b := nY_mono h2
  rw [nY_1999] at a; rw [nY_2200] at b
  exact ⟨a, b⟩
theorem lB_range (y : Int) (h1 : 1000 ≤ y) (h2 : y ≤ 3000) : 0 ≤ lB y ∧ lB y ≤ 3000 := by unfold lB; omega

/-- the first guess of a year -/
theorem guess_low (d : Int) (h1 : -10 ≤ d) (h2 : d ≤ 73060) : nY (1999 + (d + 366) / 366) ≤ d := by unfold nY lB; omega
theorem guess_high (d : Int) (h1 : -10 ≤ d) (h2 : d ≤ 73060) : d < nY (1999 + (d + 366) / 366 + 1 + 1) := by unfold nY lB; omega
/-- the year of a day -/
def yOf (d : Int) : Int := if nY (1999 + (d + 366) / 366 + 1) ≤ d then 1999 + (d + 366) / 366 + 1 else 1999 + (d + 366) / 366
theorem yOf_low (d : Int) (h1 : -10 ≤ d) (h2 : d ≤ 73060) : nY (yOf d) ≤ d := by
  unfold yOf; split
  · assumption
  · exact guess_low d h1 h2
theorem yOf_high (d : Int) (h1 : -10 ≤ d) (h2 : d ≤ 73060) : d < nY (yOf d + 1) := by
  unfold yOf; split
  · exact guess_high d h1 h2
  · omega
theorem year_unique {a b d : Int} (ha : nY a ≤ d) (ha2 : d < nY (a + 1)) (hb : nY b ≤ d) (hb2 : d < nY (b + 1)) : a = b := by
  rcases Int.lt_trichotomy a b with h | h | h
  · have := nY_mono (show a + 1 ≤ b by omega); omega
  · exact h
  · have := nY_mono (show b + 1 ≤ a by omega); omega
theorem yOf_eq {d y : Int} (h1 : -10 ≤ d) (h2 : d ≤ 73060) (ha : nY y ≤ d) (hb : d < nY (y + 1)) : yOf d = y :=
  year_unique (yOf_low d h1 h2) (yOf_high d h1 h2) ha hb
theorem yOf_range (d : Int) (h1 : 0 ≤ d) (h2 : d ≤ 73048) : 2000 ≤ yOf d ∧ yOf d ≤ 2199 := by
  have a := yOf_low d (by omega) (by omega)
  have b := yOf_high d (by omega) (by omega)
  constructor
  · rcases Int.lt_or_le (yOf d) 2000 with h | h
    · have := nY_mono (show yOf d + 1 ≤ 2000 by omega); rw [nY_2000] at this; omega
    · exact h
  · rcases Int.lt_or_le 2199 (yOf d) with h | h
    · have := nY_mono (show 2200 ≤ yOf d by omega); rw [nY_2200] at this; omega
    · exact h
theorem yOf_wide (d : Int) (h1 : -10 ≤ d) (h2 : d ≤ 73060) : 1999 ≤ yOf d ∧ yOf d ≤ 2200 := by
  have a := yOf_low d (by omega) (by omega)
  have b := yOf_high d (by omega) (by omega)
  constructor
  · rcases Int.lt_or_le (yOf d) 1999 with h | h
    · have := nY_mono (show yOf d + 1 ≤ 1999 by omega); rw [nY_1999] at this; omega
    · exact h
  · rcases Int.lt_or_le 2200 (yOf d) with h | h
    · have := nY_mono (show 2201 ≤ yOf d by omega); have e : nY 2201 = 73414 := by decide +kernel
      rw [e] at this; omega
    · exact h

/-- the days before each month -/
def befTab : List Int := [0, 31, 59, 90, 120, 151, 181, 212, 243, 273, 304, 334, 365]
def bef0 (m : Int) : Int := befTab.getD (m - 1).toNat 0
def bef (y m : Int) : Int := bef0 m + if 2 < m then lp y else 0
/-- the days of a month -/
def dim (y m : Int) : Int := if m = 4 ∨ m = 6 ∨ m = 9 ∨ m = 11 then 30 else if m = 2 then 28 + lp y else if m < 1 ∨ 12 < m then 0 else 31

theorem month_cases {m : Int} (h1 : 1 ≤ m) (h2 : m ≤ 12) : m = 1 ∨ m = 2 ∨ m = 3 ∨ m = 4 ∨ m = 5 ∨ m = 6 ∨ m = 7 ∨ m = 8 ∨ m = 9 ∨ m = 10 ∨ m = 11 ∨ m = 12 := by omega
theorem bef_succ (y m : Int) (h1 : 1 ≤ m) (h2 : m ≤ 12) : bef y (m + 1) = bef y m + dim y m := by
  have hl := lp_range y
  generalize he : lp y = l at *
  rcases month_cases h1 h2 with rfl | rfl | rfl | rfl | rfl | rfl | rfl | rfl | rfl | rfl | rfl | rfl <;> simp [bef, dim, bef0, befTab, he] <;> omega
theorem bef_one (y : Int) : bef y 1 = 0 := by simp [bef, bef0, befTab]
theorem bef_13 (y : Int) : bef y 13 = 365 + lp y := by simp [bef, bef0, befTab]
theorem dim_range (y m : Int) (h1 : 1 ≤ m) (h2 : m ≤ 12) : 28 ≤ dim y m ∧ dim y m ≤ 31 := by
  have hl := lp_range y
  generalize he : lp y = l at *
  rcases month_cases h1 h2 with rfl | rfl | rfl | rfl | rfl | rfl | rfl | rfl | rfl | rfl | rfl | rfl <;> simp [dim, he] <;> omega
theorem dim_out (y m : Int) (h : m < 1 ∨ 12 < m) : dim y m = 0 := by unfold dim; rw [if_neg (by omega), if_neg (by omega), if_pos h]
theorem dim_pos (y m : Int) (h : 1 ≤ dim y m) : 1 ≤ m ∧ m ≤ 12 := by
  rcases Int.lt_or_le m 1 with h1 | h1
  · rw [dim_out y m (.inl h1)] at h; omega
  · rcases Int.lt_or_le 12 m with h2 | h2
    · rw [dim_out y m (.inr h2)] at h; omega
    · exact ⟨h1, h2⟩
theorem bef0_range (m : Int) (h1 : 1 ≤ m) (h2 : m ≤ 13) : 0 ≤ bef0 m ∧ bef0 m ≤ 365 := by
  by_cases e : m = 13
  · subst e; decide
  · rcases month_cases h1 (show m ≤ 12 by omega) with rfl | rfl | rfl | rfl | rfl | rfl | rfl | rfl | rfl | rfl | rfl | rfl <;> decide
theorem bef_range (y m : Int) (h1 : 1 ≤ m) (h2 : m ≤ 13) : 0 ≤ bef y m ∧ bef y m ≤ 366 := by
  have := bef0_range m h1 h2
  have hl := lp_range y
  unfold bef; split <;> omega
theorem bef_add (y m : Int) (h1 : 1 ≤ m) : ∀ n : Nat, m + n ≤ 13 → bef y m + 28 * n ≤ bef y (m + n)
  | 0, _ => by simp
  | n + 1, h => by
    have h3 := bef_add y m h1 n (by omega)
    have h4 := bef_succ y (m + n) (by omega) (by omega)
    have h5 := dim_range y (m + n) (by omega) (by omega)
    have e : m + ((n + 1 : Nat) : Int) = m + n + 1 := by omega
    rw [e, h4]; omega
theorem bef_mono (y : Int) {a b : Int} (h1 : 1 ≤ a) (h2 : b ≤ 13) (h : a ≤ b) : bef y a ≤ bef y b := by
  have h3 := bef_add y a h1 (b - a).toNat (by omega)
  have e : a + ((b - a).toNat : Int) = b := by omega
  rw [e] at h3; omega
theorem month_unique (y : Int) {a b p : Int} (a1 : 1 ≤ a) (a2 : a ≤ 12) (b1 : 1 ≤ b) (b2 : b ≤ 12) (ha : bef y a ≤ p) (ha2 : p < bef y (a + 1)) (hb : bef y b ≤ p) (hb2 : p < bef y (b + 1)) : a = b := by
  rcases Int.lt_trichotomy a b with h | h | h
  · have := bef_mono y (show 1 ≤ a + 1 by omega) (show b ≤ 13 by omega) (show a + 1 ≤ b by omega); omega
  · exact h
  · have := bef_mono y (show 1 ≤ b + 1 by omega) (show a ≤ 13 by omega) (show b + 1 ≤ a by omega); omega

/-- the number of a date -/
def numD (y m d : Int) : Int := nY y + bef y m + d - 1
/-- a date of the calendar -/
structure IsD (y m d : Int) : Prop where
  y1 : 2000 ≤ y
  y2 : y ≤ 2199
  m1 : 1 ≤ m
  m2 : m ≤ 12
  d1 : 1 ≤ d
  d2 : d ≤ dim y m
theorem IsD.low {y m d : Int} (h : IsD y m d) : nY y ≤ numD y m d := by
  have := bef_range y m h.m1 (by have := h.m2; omega); have := h.d1; unfold numD; omega
theorem IsD.high {y m d : Int} (h : IsD y m d) : numD y m d < nY (y + 1) := by
  have h1 := bef_succ y m h.m1 h.m2
  have h2 := bef_mono y (show 1 ≤ m + 1 by have := h.m1; omega) (show (13 : Int) ≤ 13 by omega) (show m + 1 ≤ 13 by have := h.m2; omega)
  rw [bef_13] at h2
  have := h.d2
  rw [nY_succ]; unfold numD; omega
theorem IsD.range {y m d : Int} (h : IsD y m d) : 0 ≤ numD y m d ∧ numD y m d ≤ 73048 := by
  have a := h.low
  have b := h.high
  have c := nY_mono h.y1
  have e := nY_mono (show y + 1 ≤ 2200 by have := h.y2; omega)
  rw [nY_2000] at c; rw [nY_2200] at e
  omega
theorem date_unique {y m d y' m' d' : Int} (h : IsD y m d) (h' : IsD y' m' d') (e : numD y m d = numD y' m' d') : y = y' ∧ m = m' ∧ d = d' := by
  obtain rfl : y = y' := year_unique h.low h.high (by rw [e]; exact h'.low) (by rw [e]; exact h'.high)
  have b1 := bef_succ y m h.m1 h.m2
  have b2 := bef_succ y m' h'.m1 h'.m2
  have := h.d1; have := h.d2; have := h'.d1; have := h'.d2
  obtain rfl : m = m' := month_unique y (p := numD y m d - nY y) h.m1 h.m2 h'.m1 h'.m2 (by unfold numD; omega) (by unfold numD; omega) (by rw [e]; unfold numD; omega) (by rw [e]; unfold numD; omega)
  unfold numD at e
  exact ⟨rfl, rfl, by omega⟩
/-- a date out of a day, its year and its month -/
theorem isD_of {day y m : Int} (h1 : 0 ≤ day) (h2 : day ≤ 73048) (hy : nY y ≤ day) (hy2 : day < nY (y + 1)) (m1 : 1 ≤ m) (m2 : m ≤ 12) (hm : bef y m ≤ day - nY y) (hm2 : m = 12 ∨ day - nY y < bef y (m + 1)) : IsD y m (day - nY y - bef y m + 1) ∧ numD y m (day - nY y - bef y m + 1) = day := by
  have hb := bef_succ y m m1 m2
  have e : yOf day = y := yOf_eq (by omega) (by omega) hy hy2
  have hr := yOf_range day h1 h2
  rw [e] at hr
  refine ⟨⟨hr.1, hr.2, m1, m2, by omega, ?_⟩, by unfold numD; omega⟩
  rcases hm2 with rfl | hm2
  · have h13 := bef_13 y
    have hs := nY_succ y
    have e12 : bef y (12 + 1) = bef y 13 := rfl
    rw [e12] at hb
    omega
  · omega
end Go.Proofs.YtnlkalnpmnnadaaDoor
