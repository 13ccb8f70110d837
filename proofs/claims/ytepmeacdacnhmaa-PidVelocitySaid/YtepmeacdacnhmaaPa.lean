/- Plain facts of controllers and of what follows a target. No Go; no conditions beyond what each states. -/
import Derived.Test.YtepmeacdacnhmaaR
namespace Go.Proofs.Ytepmeacdacnhmaa
open Go.RowKit

def numB (n : Int) : Bool := decide (-1000000000000 ≤ n) && decide (n ≤ 1000000000000)
def timeB (n : Int) : Bool := decide (1 ≤ n) && decide (n ≤ 86400)
def fromB (n lo hi : Int) : Bool := decide (lo ≤ n) && decide (n ≤ hi)
def rateB (u d : Int) : Bool := fromB u 0 1000000000000 && fromB d 0 1000000000000
def limI (n lo hi : Int) : Int := min (max n lo) hi
theorem numB_clamp (n : Int) : numB n = decide (clampI n = n) := by
  rw [Bool.eq_iff_iff]; unfold numB clampI; simp only [Bool.and_eq_true, decide_eq_true_eq]; omega
/-- whether numbers are those of a rate limiter -/
def folB (l t u d n : Int) : Bool := numB l && numB t && rateB u d && timeB n
theorem fromB_two (u : Int) : fromB u 0 1000000000000 = (numB u && decide (0 ≤ u)) := by
  rw [Bool.eq_iff_iff]; unfold numB fromB; simp only [Bool.and_eq_true, decide_eq_true_eq]; omega
theorem folB_two (l t u d n : Int) : folB l t u d n = (numB l && numB t && (numB u && decide (0 ≤ u)) && (numB d && decide (0 ≤ d)) && timeB n) := by
  unfold folB rateB; rw [fromB_two, fromB_two]; simp only [Bool.and_assoc]
structure Fol (l t u d n : Int) : Prop where
  l0 : -1000000000000 ≤ l
  l1 : l ≤ 1000000000000
  t0 : -1000000000000 ≤ t
  t1 : t ≤ 1000000000000
  u0 : 0 ≤ u
  u1 : u ≤ 1000000000000
  d0 : 0 ≤ d
  d1 : d ≤ 1000000000000
  n0 : 1 ≤ n
  n1 : n ≤ 86400
theorem fol_iff (l t u d n : Int) : folB l t u d n = true ↔ Fol l t u d n := by
  unfold folB numB rateB fromB timeB
  simp only [Bool.and_eq_true, decide_eq_true_eq]
  constructor
  · rintro ⟨⟨⟨⟨a, b⟩, c, e⟩, ⟨f, g⟩, h, i⟩, j, k⟩; exact ⟨a, b, c, e, f, g, h, i, j, k⟩
  · rintro ⟨a, b, c, e, f, g, h, i, j, k⟩; exact ⟨⟨⟨⟨a, b⟩, c, e⟩, ⟨f, g⟩, h, i⟩, j, k⟩
/-- a rate times seconds -/
theorem rate_bound (u n : Int) (h0 : 0 ≤ u) (h1 : u ≤ 1000000000000) (n0 : 1 ≤ n) (n1 : n ≤ 86400) : 0 ≤ u * n ∧ u * n ≤ 86400000000000000 := by
  have a := Int.mul_nonneg h0 (by omega : (0 : Int) ≤ n)
  have b := Int.mul_le_mul h1 n1 (by omega) (by omega : (0 : Int) ≤ 1000000000000)
  omega
/-- what follows a target, by the program's words: U, D are the ways of a scan -/
def limP (l t U D : Int) : Int := min (max t (l - D)) (l + U)
/-- by the specification's -/
def limR (l t U D : Int) : Int := if l < t then min t (l + U) else max t (l - D)
theorem lim_is (l t U D : Int) (hU : 0 ≤ U) (hD : 0 ≤ D) : limP l t U D = limR l t U D := by
  unfold limP limR; split <;> omega
def limV (l t u d n : Int) : Int := if folB l t u d n = true then limR l t (u * n) (d * n) else 0
def limE (l t u d n : Int) : Int := if folB l t u d n = true then 0 else 1
/-- after how many scans, with the way of a scan S -/
def setN (W S : Int) : Int := if W = 0 then 0 else if S = 0 then 0 else (W + S - 1) / S
def setE (W S : Int) : Int := if W = 0 then 0 else if S = 0 then 9 else 0
def wayI (l t : Int) : Int := if t - l < 0 then l - t else t - l
def stepI2 (l t U D : Int) : Int := if t - l < 0 then D else U
def setV (l t u d n : Int) : Int := if folB l t u d n = true then setN (wayI l t) (stepI2 l t (u * n) (d * n)) else 0
def setF (l t u d n : Int) : Int := if folB l t u d n = true then setE (wayI l t) (stepI2 l t (u * n) (d * n)) else 1

/-- the place after k scans -/
def posI (l t U D k : Int) : Int := if l ≤ t then min t (l + k * U) else max t (l - k * D)
theorem pos_start (l t U D : Int) : posI l t U D 0 = l := by unfold posI; split <;> omega
theorem mulU (k U : Int) : (k + 1) * U = k * U + U := by rw [Int.add_mul, Int.one_mul]
theorem pos_step (l t U D k : Int) (hU : 0 ≤ U) (hD : 0 ≤ D) (hk : 0 ≤ k) : limR (posI l t U D k) t U D = posI l t U D (k + 1) := by
  unfold posI limR
  have e1 := mulU k U
  have e2 := mulU k D
  have a1 := Int.mul_nonneg hk hU
  have a2 := Int.mul_nonneg hk hD
  generalize k * U = A at *
  generalize k * D = B at *
  generalize (k + 1) * U = A' at *
  generalize (k + 1) * D = B' at *
  split <;> split <;> omega
theorem pos_way (l t U D k : Int) (hU : 0 ≤ U) (hD : 0 ≤ D) (hk : 0 ≤ k) :
    posI l t U D (k + 1) - posI l t U D k ≤ U ∧ posI l t U D k - posI l t U D (k + 1) ≤ D ∧ (l ≤ t → posI l t U D k ≤ posI l t U D (k + 1) ∧ posI l t U D (k + 1) ≤ t) ∧ (t ≤ l → posI l t U D (k + 1) ≤ posI l t U D k ∧ t ≤ posI l t U D (k + 1)) := by
  unfold posI
  have e1 := mulU k U
  have e2 := mulU k D
  have a1 := Int.mul_nonneg hk hU
  have a2 := Int.mul_nonneg hk hD
  generalize k * U = A at *
  generalize k * D = B at *
  generalize (k + 1) * U = A' at *
  generalize (k + 1) * D = B' at *
  split <;> omega
theorem pos_range (l t U D k : Int) (hk : 0 ≤ k) (hU : 0 ≤ U) (hD : 0 ≤ D) (l0 : -1000000000000 ≤ l) (l1 : l ≤ 1000000000000) (t0 : -1000000000000 ≤ t) (t1 : t ≤ 1000000000000) : -1000000000000 ≤ posI l t U D k ∧ posI l t U D k ≤ 1000000000000 := by
  have a1 := Int.mul_nonneg hk hU
  have a2 := Int.mul_nonneg hk hD
  unfold posI; split <;> omega
theorem ceil_lo (W S k : Int) (hS : 0 < S) (hk : k < (W + S - 1) / S) : k * S < W := by
  have h1 : (W + S - 1) / S * S ≤ W + S - 1 := Int.ediv_mul_le _ (by omega)
  have h2 : (k + 1) * S ≤ (W + S - 1) / S * S := Int.mul_le_mul_of_nonneg_right (by omega) (by omega)
  have := mulU k S
  omega
theorem ceil_hi (W S : Int) (hS : 0 < S) : W ≤ (W + S - 1) / S * S := by
  have h := Int.lt_ediv_add_one_mul_self (W + S - 1) hS
  rw [mulU] at h
  omega
theorem setE_pos {W S : Int} (hS : 0 ≤ S) (h : setE W S = 0) : W = 0 ∨ 0 < S := by
  unfold setE at h; split at h
  · exact .inl ‹_›
  · split at h <;> omega
theorem pos_not (l t U D k : Int) (hU : 0 ≤ U) (hD : 0 ≤ D) (he : setE (wayI l t) (stepI2 l t U D) = 0) (hk : k < setN (wayI l t) (stepI2 l t U D)) (hk0 : 0 ≤ k) : posI l t U D k ≠ t := by
  have hs : 0 ≤ stepI2 l t U D := by unfold stepI2; split <;> assumption
  have hp := setE_pos hs he
  have hw : wayI l t ≠ 0 := by intro h; unfold setN at hk; rw [if_pos h] at hk; omega
  have hS : 0 < stepI2 l t U D := hp.resolve_left hw
  have hk' : k < (wayI l t + stepI2 l t U D - 1) / stepI2 l t U D := by unfold setN at hk; rw [if_neg hw, if_neg (by omega)] at hk; exact hk
  have h := ceil_lo _ _ _ hS hk'
  clear hk' hk
  unfold posI
  by_cases hlt : t - l < 0
  · have e1 : wayI l t = l - t := if_pos hlt
    have e2 : stepI2 l t U D = D := if_pos hlt
    rw [e1, e2] at h
    rw [if_neg (by omega)]; omega
  · have e1 : wayI l t = t - l := if_neg hlt
    have e2 : stepI2 l t U D = U := if_neg hlt
    rw [e1, e2] at h
    rw [if_pos (by omega)]; omega
theorem setN_nonneg (W S : Int) (hW : 0 ≤ W) (hS : 0 ≤ S) : 0 ≤ setN W S := by
  unfold setN; split
  · omega
  · split
    · omega
    · exact Int.ediv_nonneg (by omega) hS
theorem way_nonneg (l t : Int) : 0 ≤ wayI l t := by unfold wayI; split <;> omega
theorem pos_end (l t U D k : Int) (hU : 0 ≤ U) (hD : 0 ≤ D) (he : setE (wayI l t) (stepI2 l t U D) = 0) (hk : k = setN (wayI l t) (stepI2 l t U D)) : posI l t U D k = t := by
  have hs : 0 ≤ stepI2 l t U D := by unfold stepI2; split <;> assumption
  have hp := setE_pos hs he
  by_cases hw : wayI l t = 0
  · have : l = t := by unfold wayI at hw; split at hw <;> omega
    have hk0 : k = 0 := by rw [hk]; unfold setN; rw [if_pos hw]
    subst this; subst hk0; exact pos_start l l U D
  · have hS : 0 < stepI2 l t U D := hp.resolve_left hw
    have hk' : k = (wayI l t + stepI2 l t U D - 1) / stepI2 l t U D := by rw [hk]; unfold setN; rw [if_neg hw, if_neg (by omega)]
    have h := ceil_hi (wayI l t) _ hS
    rw [← hk'] at h
    clear hk hk'
    unfold posI
    by_cases hlt : t - l < 0
    · have e1 : wayI l t = l - t := if_pos hlt
      have e2 : stepI2 l t U D = D := if_pos hlt
      rw [e1, e2] at h
      rw [if_neg (by omega)]; omega
    · have e1 : wayI l t = t - l := if_neg hlt
      have e2 : stepI2 l t U D = U := if_neg hlt
      rw [e1, e2] at h
      rw [if_pos (by omega)]; omega
end Go.Proofs.Ytepmeacdacnhmaa
