/- Plain facts of a scan: the integral part, its rest, their bounds. No Go; no conditions beyond what each states. -/
import Derived.Test.YtepmeacdacnhmaaPa
namespace Go.Proofs.Ytepmeacdacnhmaa
open Go.RowKit

theorem tdiv_bound (T t B : Int) (ht : 0 < t) (h0 : -B ≤ T) (h1 : T ≤ B) : -B ≤ T.tdiv t ∧ T.tdiv t ≤ B := by
  by_cases h : 0 ≤ T
  · rw [Int.tdiv_eq_ediv_of_nonneg h]
    have a := Int.ediv_nonneg h (Int.le_of_lt ht)
    have b := Int.ediv_le_self t h
    omega
  · obtain ⟨U, rfl⟩ : ∃ U, T = -U := ⟨-T, by omega⟩
    rw [Int.neg_tdiv, Int.tdiv_eq_ediv_of_nonneg (by omega)]
    have a := Int.ediv_nonneg (show 0 ≤ U by omega) (Int.le_of_lt ht)
    have b := Int.ediv_le_self t (show 0 ≤ U by omega)
    omega
theorem tmod_bound (T t : Int) (ht : 0 < t) : -t < T.tmod t ∧ T.tmod t < t := by
  have a := Int.tmod_lt_of_pos T ht
  have b := Int.lt_tmod_of_pos T ht
  omega
theorem prod_bound (p n : Int) (h0 : -1000000000000 ≤ p) (h1 : p ≤ 1000000000000) (n0 : 1 ≤ n) (n1 : n ≤ 86400) : -86400000000000000 ≤ p * n ∧ p * n ≤ 86400000000000000 := by
  have e : p = -(-p) := by omega
  by_cases h : 0 ≤ p
  · have := rate_bound p n h h1 n0 n1; omega
  · have := rate_bound (-p) n (by omega) (by omega) n0 n1
    rw [Int.neg_mul] at this; omega
theorem limI_range (n lo hi : Int) (h : lo ≤ hi) : lo ≤ limI n lo hi ∧ limI n lo hi ≤ hi := by unfold limI; omega
/-- the integral part before a scan, and the rest -/
def begS (rd : Bool) (lo p sm : Int) : Int := if rd = true then sm else lo - p
def begR (rd : Bool) (rs : Int) : Int := if rd = true then rs else 0
def totI (rs p n : Int) : Int := p * n + rs
/-- the integral part, not yet limited -/
def sumI (ti sm rs p n : Int) : Int := sm + (totI rs p n).tdiv ti
def newS (ti lo hi sm rs p n : Int) : Int := limI (sumI ti sm rs p n) (lo - p) (hi - p)
def newR (ti lo hi sm rs p n : Int) : Int := if newS ti lo hi sm rs p n = sumI ti sm rs p n then (totI rs p n).tmod ti else 0
structure Scan (ti lo hi sm rs p n : Int) : Prop where
  t0 : 0 < ti
  t1 : ti ≤ 86400
  l0 : -1000000000000 ≤ lo
  lh : lo ≤ hi
  h1 : hi ≤ 1000000000000
  s0 : -2000000000000 ≤ sm
  s1 : sm ≤ 2000000000000
  r0 : -86400 ≤ rs
  r1 : rs ≤ 86400
  p0 : -1000000000000 ≤ p
  p1 : p ≤ 1000000000000
  n0 : 1 ≤ n
  n1 : n ≤ 86400
theorem Scan.next {ti lo hi sm rs p n : Int} (s : Scan ti lo hi sm rs p n) :
    (-2000000000000 ≤ newS ti lo hi sm rs p n ∧ newS ti lo hi sm rs p n ≤ 2000000000000) ∧ (-86400 ≤ newR ti lo hi sm rs p n ∧ newR ti lo hi sm rs p n ≤ 86400) := by
  obtain ⟨t0, t1, l0, lh, h1, s0, s1, r0, r1, p0, p1, n0, n1⟩ := s
  refine ⟨?_, ?_⟩
  · have := limI_range (sumI ti sm rs p n) (lo - p) (hi - p) (by omega)
    unfold newS; omega
  · unfold newR
    split
    · have := tmod_bound (totI rs p n) ti t0; omega
    · omega
/-- what a scan computes on the way is in range -/
theorem Scan.walk {ti lo hi sm rs p n : Int} (s : Scan ti lo hi sm rs p n) :
    (-86400000000000000 ≤ p * n ∧ p * n ≤ 86400000000000000) ∧ (-86400000000100000 ≤ totI rs p n ∧ totI rs p n ≤ 86400000000100000) ∧ (-86400000000100000 ≤ (totI rs p n).tdiv ti ∧ (totI rs p n).tdiv ti ≤ 86400000000100000) ∧ (-ti < (totI rs p n).tmod ti ∧ (totI rs p n).tmod ti < ti) := by
  obtain ⟨t0, t1, l0, lh, h1, s0, s1, r0, r1, p0, p1, n0, n1⟩ := s
  have a := prod_bound p n p0 p1 n0 n1
  have b : -86400000000100000 ≤ totI rs p n ∧ totI rs p n ≤ 86400000000100000 := by unfold totI; omega
  exact ⟨a, b, tdiv_bound _ _ _ t0 b.1 b.2, tmod_bound _ _ t0⟩
/-- velocity: the output is the one before, the change of p and the gain, limited -/
theorem velocity (ti lo hi sm rs p b n l : Int) (h : lo ≤ hi) (e : l = b + sm) : p + newS ti lo hi sm rs p n = max lo (min hi (l + p - b + (totI rs p n).tdiv ti)) := by
  unfold newS sumI limI; omega
end Go.Proofs.Ytepmeacdacnhmaa
