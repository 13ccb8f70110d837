/- Plain facts about moist air: the table, saturation, the dew point, the enthalpy, a mixture. No Go. -/
import Derived.Test.YtgpbcdelaipifaaDoorR
namespace Go.Proofs.YtgpbcdelaipifaaDoor
open Go.RowKit

theorem divU_mono (n m d : Nat) (_hd : 0 < d) (h : n ≤ m) : divU n d ≤ divU m d := by
  have hrn := divU_range n d
  have hrm := divU_range m d
  have hq : n / d ≤ m / d := Nat.div_le_div_right h
  have hg : n / 18446744073709551616 ≤ m / 18446744073709551616 := Nat.div_le_div_right h
  by_cases h1 : m / 18446744073709551616 ≥ d
  · have e : divU m d = 1000000000000 := by unfold divU; rw [if_pos h1]
    omega
  · by_cases h2 : m / d ≥ 1000000000000
    · have e : divU m d = 1000000000000 := by unfold divU; rw [if_neg h1, if_pos h2]
      omega
    · have en : divU n d = if n % d ≥ d - n % d then ((n / d : Nat) : Int) + 1 else ((n / d : Nat) : Int) := by
        unfold divU; rw [if_neg (by omega), if_neg (by omega)]
      have em : divU m d = if m % d ≥ d - m % d then ((m / d : Nat) : Int) + 1 else ((m / d : Nat) : Int) := by
        unfold divU; rw [if_neg h1, if_neg h2]
      rw [en, em]
      by_cases hlt : n / d < m / d
      · generalize n / d = q at *
        generalize m / d = r at *
        split <;> split <;> omega
      · have he : n / d = m / d := by omega
        have hn := Nat.div_add_mod n d
        have hm := Nat.div_add_mod m d
        rw [he] at hn
        generalize d * (m / d) = P at *
        rw [he]
        generalize m / d = r at *
        split <;> split <;> omega
theorem quoI_nonneg (p d : Int) (hd : 0 < d) (hp : 0 ≤ p) : 0 ≤ quoI p d := by
  rw [quoI_pos p d hd hp]; exact (divU_range _ _).1
theorem quoI_mono (p q d : Int) (hd : 0 < d) (h : p ≤ q) : quoI p d ≤ quoI q d := by
  by_cases hp : 0 ≤ p
  · rw [quoI_pos p d hd hp, quoI_pos q d hd (by omega)]
    exact divU_mono _ _ _ (by omega) (by omega)
  · by_cases hq : q ≤ 0
    · rw [quoI_neg2 p d hd (by omega), quoI_neg2 q d hd hq]
      have := divU_mono q.natAbs p.natAbs d.natAbs (by omega) (by omega)
      omega
    · have h1 := quoI_nonneg q d hd (by omega)
      rw [quoI_neg2 p d hd (by omega)]
      have := (divU_range p.natAbs d.natAbs).1
      omega
theorem num_mono (y1 y2 X1 X2 s t : Int) (hy : y1 ≤ y2) (h : s ≤ t) : y1 * (X2 - s) + y2 * (s - X1) ≤ y1 * (X2 - t) + y2 * (t - X1) := by
  have h1 := Int.mul_nonneg (show 0 ≤ y2 - y1 by omega) (show 0 ≤ t - s by omega)
  rw [Int.sub_mul, Int.mul_sub, Int.mul_sub] at h1
  rw [Int.mul_sub, Int.mul_sub, Int.mul_sub, Int.mul_sub]
  generalize y1 * X2 = A at *
  generalize y2 * X1 = B at *
  generalize y1 * s = C at *
  generalize y1 * t = D at *
  generalize y2 * s = E at *
  generalize y2 * t = F at *
  omega
theorem lineI_mono (x x' x1 y1 x2 y2 : Int) (hx : clampI x1 < clampI x2) (hy : clampI y1 ≤ clampI y2) (h : x ≤ x') : lineI x x1 y1 x2 y2 ≤ lineI x' x1 y1 x2 y2 := by
  have hc : clampI x ≤ clampI x' := by unfold clampI; omega
  unfold lineI
  rw [if_neg (by omega), if_neg (by omega)]
  exact quoI_mono _ _ _ (by omega) (num_mono _ _ _ _ _ _ hy (by omega))
theorem lineI_left (x x1 y1 x2 y2 : Int) (h : clampI x1 < clampI x2) (hs : clampI x ≤ clampI x1) : lineI x x1 y1 x2 y2 = clampI y1 := by
  have ry1 := clampI_range y1
  unfold lineI
  rw [if_neg (by omega), show min (max (clampI x) (clampI x1)) (clampI x2) = clampI x1 by omega, Int.sub_self, Int.mul_zero, Int.add_zero]
  exact quoI_exact2 _ _ (by omega) ry1.1 ry1.2
theorem lineI_right (x x1 y1 x2 y2 : Int) (h : clampI x1 < clampI x2) (hs : clampI x2 ≤ clampI x) : lineI x x1 y1 x2 y2 = clampI y2 := by
  have ry2 := clampI_range y2
  unfold lineI
  rw [if_neg (by omega), show min (max (clampI x) (clampI x1)) (clampI x2) = clampI x2 by omega, Int.sub_self, Int.mul_zero, Int.zero_add]
  exact quoI_exact2 _ _ (by omega) ry2.1 ry2.2
theorem line_near (x x1 y1 x2 y2 N d : Int) (hx : x1 < x2) (h1 : x1 ≤ x) (h2 : x ≤ x2) (a1 : -1000000 ≤ x1) (a2 : x2 ≤ 1000000) (b1 : -1000000 ≤ y1) (b2 : y1 ≤ 1000000) (c1 : -1000000 ≤ y2) (c2 : y2 ≤ 1000000)
    (hd : d = x2 - x1) (hN : N = y1 * (x2 - x) + y2 * (x - x1)) (hN1 : -1000000000000 ≤ N) (hN2 : N ≤ 1000000000000) : 2 * (N - lineI x x1 y1 x2 y2 * d) ≤ d ∧ -d ≤ 2 * (N - lineI x x1 y1 x2 y2 * d) := by
  have e : lineI x x1 y1 x2 y2 = quoI N d := by
    unfold lineI
    rw [clampI_in x (by omega) (by omega), clampI_in x1 (by omega) (by omega), clampI_in x2 (by omega) (by omega), clampI_in y1 (by omega) (by omega), clampI_in y2 (by omega) (by omega), if_neg (by omega), show min (max x x1) x2 = x by omega, ← hN, ← hd]
  rw [e]
  exact quoI_near N d (by omega) (by omega)

/-- a number that is limited -/
def limI (n lo hi : Int) : Int := min (max n lo) hi
theorem limI_range (n lo hi : Int) (h : lo ≤ hi) : lo ≤ limI n lo hi ∧ limI n lo hi ≤ hi := by unfold limI; omega
theorem limI_mono (n m lo hi : Int) (h : n ≤ m) : limI n lo hi ≤ limI m lo hi := by unfold limI; omega
theorem limI_in (n lo hi : Int) (h1 : lo ≤ n) (h2 : n ≤ hi) : limI n lo hi = n := by unfold limI; omega
def satL : List Int := [637, 1020, 1603, 2487, 3789, 5424, 7661, 10694, 14757, 20170, 27329, 36756, 49141, 65411, 86858, 115321, 153540]
def satI (i : Nat) : Int := satL.getD i 0
def degI (i : Nat) : Int := 5000 * (i : Int) - 20000
def spieceI (i : Nat) (T : Int) : Int := lineI T (degI i) (satI i) (degI (i + 1)) (satI (i + 1))
def dpieceI (i : Nat) (w : Int) : Int := lineI w (satI i) (degI i) (satI (i + 1)) (degI (i + 1))
/-- the interval of a temperature, of a ratio -/
def sIdx (T : Int) : Nat := min ((T + 20000) / 5000).toNat 15
def dIdx (w : Int) : Nat := if w < 1020 then 0 else if w < 1603 then 1 else if w < 2487 then 2 else if w < 3789 then 3 else if w < 5424 then 4 else if w < 7661 then 5 else if w < 10694 then 6 else if w < 14757 then 7 else if w < 20170 then 8 else if w < 27329 then 9 else if w < 36756 then 10 else if w < 49141 then 11 else if w < 65411 then 12 else if w < 86858 then 13 else if w < 115321 then 14 else 15
def satF (t : Int) : Int := spieceI (sIdx (limI t (-20000) 60000)) (limI t (-20000) 60000)
def dewF (w : Int) : Int := dpieceI (dIdx (limI w 0 1000000)) (limI w 0 1000000)
def ratF (t h : Int) : Int := mulDivI (satF t) (limI h 0 100000) 100000
def humF (t w : Int) : Int := min (mulDivI (limI w 0 1000000) 100000 (satF t)) 100000
def entF (t w : Int) : Int := mulDivI (limI t (-100000) 200000) 1006 1000 + mulDivI (limI w 0 1000000) (2501000 + mulDivI (limI t (-100000) 200000) 1860 1000) 1000000
def mixF (a b f f2 : Int) : Int := if f + f2 = 0 then a else a + mulDivI (b - a) f2 (f + f2)

theorem satI_range (i : Nat) (hi : i ≤ 16) : 637 ≤ satI i ∧ satI i ≤ 153540 := by
  rcases (by omega : i = 0 ∨ i = 1 ∨ i = 2 ∨ i = 3 ∨ i = 4 ∨ i = 5 ∨ i = 6 ∨ i = 7 ∨ i = 8 ∨ i = 9 ∨ i = 10 ∨ i = 11 ∨ i = 12 ∨ i = 13 ∨ i = 14 ∨ i = 15 ∨ i = 16) with rfl | rfl | rfl | rfl | rfl | rfl | rfl | rfl | rfl | rfl | rfl | rfl | rfl | rfl | rfl | rfl | rfl <;> decide
theorem satI_lt (i : Nat) (hi : i ≤ 15) : satI i < satI (i + 1) := by
  rcases (by omega : i = 0 ∨ i = 1 ∨ i = 2 ∨ i = 3 ∨ i = 4 ∨ i = 5 ∨ i = 6 ∨ i = 7 ∨ i = 8 ∨ i = 9 ∨ i = 10 ∨ i = 11 ∨ i = 12 ∨ i = 13 ∨ i = 14 ∨ i = 15) with rfl | rfl | rfl | rfl | rfl | rfl | rfl | rfl | rfl | rfl | rfl | rfl | rfl | rfl | rfl | rfl <;> decide
theorem dIdx_case (w : Int) : (w < 1020 ∧ dIdx w = 0) ∨ (1020 ≤ w ∧ w < 1603 ∧ dIdx w = 1) ∨ (1603 ≤ w ∧ w < 2487 ∧ dIdx w = 2) ∨ (2487 ≤ w ∧ w < 3789 ∧ dIdx w = 3) ∨ (3789 ≤ w ∧ w < 5424 ∧ dIdx w = 4) ∨ (5424 ≤ w ∧ w < 7661 ∧ dIdx w = 5) ∨ (7661 ≤ w ∧ w < 10694 ∧ dIdx w = 6) ∨ (10694 ≤ w ∧ w < 14757 ∧ dIdx w = 7) ∨ (14757 ≤ w ∧ w < 20170 ∧ dIdx w = 8) ∨ (20170 ≤ w ∧ w < 27329 ∧ dIdx w = 9) ∨ (27329 ≤ w ∧ w < 36756 ∧ dIdx w = 10) ∨ (36756 ≤ w ∧ w < 49141 ∧ dIdx w = 11) ∨ (49141 ≤ w ∧ w < 65411 ∧ dIdx w = 12) ∨ (65411 ≤ w ∧ w < 86858 ∧ dIdx w = 13) ∨ (86858 ≤ w ∧ w < 115321 ∧ dIdx w = 14) ∨ (115321 ≤ w ∧ dIdx w = 15) := by
  by_cases h1 : w < 1020
  · exact Or.inl ⟨h1, by unfold dIdx; rw [if_pos h1]⟩
  by_cases h2 : w < 1603
  · exact Or.inr (Or.inl ⟨by omega, h2, by unfold dIdx; rw [if_neg h1, if_pos h2]⟩)
  by_cases h3 : w < 2487
  · exact Or.inr (Or.inr (Or.inl ⟨by omega, h3, by unfold dIdx; rw [if_neg h1, if_neg h2, if_pos h3]⟩))
  by_cases h4 : w < 3789
  · exact Or.inr (Or.inr (Or.inr (Or.inl ⟨by omega, h4, by unfold dIdx; rw [if_neg h1, if_neg h2, if_neg h3, if_pos h4]⟩)))
  by_cases h5 : w < 5424
  · exact Or.inr (Or.inr (Or.inr (Or.inr (Or.inl ⟨by omega, h5, by unfold dIdx; rw [if_neg h1, if_neg h2, if_neg h3, if_neg h4, if_pos h5]⟩))))
  by_cases h6 : w < 7661
  · exact Or.inr (Or.inr (Or.inr (Or.inr (Or.inr (Or.inl ⟨by omega, h6, by unfold dIdx; rw [if_neg h1, if_neg h2, if_neg h3, if_neg h4, if_neg h5, if_pos h6]⟩)))))
  by_cases h7 : w < 10694
  · exact Or.inr (Or.inr (Or.inr (Or.inr (Or.inr (Or.inr (Or.inl ⟨by omega, h7, by unfold dIdx; rw [if_neg h1, if_neg h2, if_neg h3, if_neg h4, if_neg h5, if_neg h6, if_pos h7]⟩))))))
  by_cases h8 : w < 14757
  · exact Or.inr (Or.inr (Or.inr (Or.inr (Or.inr (Or.inr (Or.inr (Or.inl ⟨by omega, h8, by unfold dIdx; rw [if_neg h1, if_neg h2, if_neg h3, if_neg h4, if_neg h5, if_neg h6, if_neg h7, if_pos h8]⟩)))))))
  by_cases h9 : w < 20170
  · exact Or.inr (Or.inr (Or.inr (Or.inr (Or.inr (Or.inr (Or.inr (Or.inr (Or.inl ⟨by omega, h9, by unfold dIdx; rw [if_neg h1, if_neg h2, if_neg h3, if_neg h4, if_neg h5, if_neg h6, if_neg h7, if_neg h8, if_pos h9]⟩))))))))
  by_cases h10 : w < 27329
  · exact Or.inr (Or.inr (Or.inr (Or.inr (Or.inr (Or.inr (Or.inr (Or.inr (Or.inr (Or.inl ⟨by omega, h10, by unfold dIdx; rw [if_neg h1, if_neg h2, if_neg h3, if_neg h4, if_neg h5, if_neg h6, if_neg h7, if_neg h8, if_neg h9, if_pos h10]⟩)))))))))
  by_cases h11 : w < 36756
  · exact Or.inr (Or.inr (Or.inr (Or.inr (Or.inr (Or.inr (Or.inr (Or.inr (Or.inr (Or.inr (Or.inl ⟨by omega, h11, by unfold dIdx; rw [if_neg h1, if_neg h2, if_neg h3, if_neg h4, if_neg h5, if_neg h6, if_neg h7, if_neg h8, if_neg h9, if_neg h10, if_pos h11]⟩))))))))))
  by_cases h12 : w < 49141
  · exact Or.inr (Or.inr (Or.inr (Or.inr (Or.inr (Or.inr (Or.inr (Or.inr (Or.inr (Or.inr (Or.inr (Or.inl ⟨by omega, h12, by unfold dIdx; rw [if_neg h1, if_neg h2, if_neg h3, if_neg h4, if_neg h5, if_neg h6, if_neg h7, if_neg h8, if_neg h9, if_neg h10, if_neg h11, if_pos h12]⟩)))))))))))
  by_cases h13 : w < 65411
  · exact Or.inr (Or.inr (Or.inr (Or.inr (Or.inr (Or.inr (Or.inr (Or.inr (Or.inr (Or.inr (Or.inr (Or.inr (Or.inl ⟨by omega, h13, by unfold dIdx; rw [if_neg h1, if_neg h2, if_neg h3, if_neg h4, if_neg h5, if_neg h6, if_neg h7, if_neg h8, if_neg h9, if_neg h10, if_neg h11, if_neg h12, if_pos h13]⟩))))))))))))
  by_cases h14 : w < 86858
  · exact Or.inr (Or.inr (Or.inr (Or.inr (Or.inr (Or.inr (Or.inr (Or.inr (Or.inr (Or.inr (Or.inr (Or.inr (Or.inr (Or.inl ⟨by omega, h14, by unfold dIdx; rw [if_neg h1, if_neg h2, if_neg h3, if_neg h4, if_neg h5, if_neg h6, if_neg h7, if_neg h8, if_neg h9, if_neg h10, if_neg h11, if_neg h12, if_neg h13, if_pos h14]⟩)))))))))))))
  by_cases h15 : w < 115321
  · exact Or.inr (Or.inr (Or.inr (Or.inr (Or.inr (Or.inr (Or.inr (Or.inr (Or.inr (Or.inr (Or.inr (Or.inr (Or.inr (Or.inr (Or.inl ⟨by omega, h15, by unfold dIdx; rw [if_neg h1, if_neg h2, if_neg h3, if_neg h4, if_neg h5, if_neg h6, if_neg h7, if_neg h8, if_neg h9, if_neg h10, if_neg h11, if_neg h12, if_neg h13, if_neg h14, if_pos h15]⟩))))))))))))))
  exact Or.inr (Or.inr (Or.inr (Or.inr (Or.inr (Or.inr (Or.inr (Or.inr (Or.inr (Or.inr (Or.inr (Or.inr (Or.inr (Or.inr (Or.inr (⟨by omega, by unfold dIdx; rw [if_neg h1, if_neg h2, if_neg h3, if_neg h4, if_neg h5, if_neg h6, if_neg h7, if_neg h8, if_neg h9, if_neg h10, if_neg h11, if_neg h12, if_neg h13, if_neg h14, if_neg h15]⟩)))))))))))))))
theorem dIdx_le (w : Int) : dIdx w ≤ 15 := by have := dIdx_case w; omega
theorem dIdx_up (w : Int) (i : Nat) (hi : i ≤ 15) (h : i ≤ dIdx w) (h0 : 0 < i) : satI i ≤ w := by
  have hc := dIdx_case w
  rcases (by omega : i = 0 ∨ i = 1 ∨ i = 2 ∨ i = 3 ∨ i = 4 ∨ i = 5 ∨ i = 6 ∨ i = 7 ∨ i = 8 ∨ i = 9 ∨ i = 10 ∨ i = 11 ∨ i = 12 ∨ i = 13 ∨ i = 14 ∨ i = 15) with rfl | rfl | rfl | rfl | rfl | rfl | rfl | rfl | rfl | rfl | rfl | rfl | rfl | rfl | rfl | rfl
  · omega
  · show 1020 ≤ w
    omega
  · show 1603 ≤ w
    omega
  · show 2487 ≤ w
    omega
  · show 3789 ≤ w
    omega
  · show 5424 ≤ w
    omega
  · show 7661 ≤ w
    omega
  · show 10694 ≤ w
    omega
  · show 14757 ≤ w
    omega
  · show 20170 ≤ w
    omega
  · show 27329 ≤ w
    omega
  · show 36756 ≤ w
    omega
  · show 49141 ≤ w
    omega
  · show 65411 ≤ w
    omega
  · show 86858 ≤ w
    omega
  · show 115321 ≤ w
    omega
theorem dIdx_down (w : Int) (i : Nat) (hi : i < 15) (h : satI (i + 1) ≤ w) : i < dIdx w := by
  have hc := dIdx_case w
  rcases (by omega : i = 0 ∨ i = 1 ∨ i = 2 ∨ i = 3 ∨ i = 4 ∨ i = 5 ∨ i = 6 ∨ i = 7 ∨ i = 8 ∨ i = 9 ∨ i = 10 ∨ i = 11 ∨ i = 12 ∨ i = 13 ∨ i = 14) with rfl | rfl | rfl | rfl | rfl | rfl | rfl | rfl | rfl | rfl | rfl | rfl | rfl | rfl | rfl
  · replace h : 1020 ≤ w := h
    omega
  · replace h : 1603 ≤ w := h
    omega
  · replace h : 2487 ≤ w := h
    omega
  · replace h : 3789 ≤ w := h
    omega
  · replace h : 5424 ≤ w := h
    omega
  · replace h : 7661 ≤ w := h
    omega
  · replace h : 10694 ≤ w := h
    omega
  · replace h : 14757 ≤ w := h
    omega
  · replace h : 20170 ≤ w := h
    omega
  · replace h : 27329 ≤ w := h
    omega
  · replace h : 36756 ≤ w := h
    omega
  · replace h : 49141 ≤ w := h
    omega
  · replace h : 65411 ≤ w := h
    omega
  · replace h : 86858 ≤ w := h
    omega
  · replace h : 115321 ≤ w := h
    omega
theorem dIdx_lt (w : Int) (i : Nat) (h0 : 0 < i) (hi : i ≤ 15) (h : w < satI i) : dIdx w < i := by
  have hc := dIdx_case w
  rcases (by omega : i = 0 ∨ i = 1 ∨ i = 2 ∨ i = 3 ∨ i = 4 ∨ i = 5 ∨ i = 6 ∨ i = 7 ∨ i = 8 ∨ i = 9 ∨ i = 10 ∨ i = 11 ∨ i = 12 ∨ i = 13 ∨ i = 14 ∨ i = 15) with rfl | rfl | rfl | rfl | rfl | rfl | rfl | rfl | rfl | rfl | rfl | rfl | rfl | rfl | rfl | rfl
  · omega
  · replace h : w < 1020 := h
    omega
  · replace h : w < 1603 := h
    omega
  · replace h : w < 2487 := h
    omega
  · replace h : w < 3789 := h
    omega
  · replace h : w < 5424 := h
    omega
  · replace h : w < 7661 := h
    omega
  · replace h : w < 10694 := h
    omega
  · replace h : w < 14757 := h
    omega
  · replace h : w < 20170 := h
    omega
  · replace h : w < 27329 := h
    omega
  · replace h : w < 36756 := h
    omega
  · replace h : w < 49141 := h
    omega
  · replace h : w < 65411 := h
    omega
  · replace h : w < 86858 := h
    omega
  · replace h : w < 115321 := h
    omega
theorem sIdx_in (T : Int) (h1 : -20000 ≤ T) (h2 : T ≤ 60000) : sIdx T ≤ 15 ∧ degI (sIdx T) ≤ T ∧ T ≤ degI (sIdx T + 1) := by
  unfold sIdx degI; omega
theorem degI_range (i : Nat) (h : i ≤ 16) : -20000 ≤ degI i ∧ degI i ≤ 60000 := by unfold degI; omega
theorem clampS (i : Nat) (hi : i ≤ 16) : clampI (satI i) = satI i := by have := satI_range i hi; exact clampI_in _ (by omega) (by omega)
theorem clampD (i : Nat) (hi : i ≤ 16) : clampI (degI i) = degI i := by have := degI_range i hi; exact clampI_in _ (by omega) (by omega)
theorem spiece_left (i : Nat) (hi : i ≤ 15) (T : Int) (h : T ≤ degI i) : spieceI i T = satI i := by
  unfold spieceI
  rw [lineI_left _ _ _ _ _ (by rw [clampD i (by omega), clampD (i + 1) (by omega)]; unfold degI; omega) (by have := clampD i (by omega); unfold clampI at *; omega)]
  exact clampS i (by omega)
theorem spiece_right (i : Nat) (hi : i ≤ 15) (T : Int) (h : degI (i + 1) ≤ T) : spieceI i T = satI (i + 1) := by
  unfold spieceI
  rw [lineI_right _ _ _ _ _ (by rw [clampD i (by omega), clampD (i + 1) (by omega)]; unfold degI; omega) (by have := clampD (i + 1) (by omega); unfold clampI at *; omega)]
  exact clampS (i + 1) (by omega)
theorem dpiece_left (i : Nat) (hi : i ≤ 15) (w : Int) (h : w ≤ satI i) : dpieceI i w = degI i := by
  unfold dpieceI
  rw [lineI_left _ _ _ _ _ (by rw [clampS i (by omega), clampS (i + 1) (by omega)]; exact satI_lt i hi) (by have := clampS i (by omega); unfold clampI at *; omega)]
  exact clampD i (by omega)
theorem dpiece_right (i : Nat) (hi : i ≤ 15) (w : Int) (h : satI (i + 1) ≤ w) : dpieceI i w = degI (i + 1) := by
  unfold dpieceI
  rw [lineI_right _ _ _ _ _ (by rw [clampS i (by omega), clampS (i + 1) (by omega)]; exact satI_lt i hi) (by have := clampS (i + 1) (by omega); unfold clampI at *; omega)]
  exact clampD (i + 1) (by omega)
theorem spiece_mono (i : Nat) (hi : i ≤ 15) (T U : Int) (h : T ≤ U) : spieceI i T ≤ spieceI i U := by
  have hs := satI_lt i hi
  unfold spieceI
  exact lineI_mono _ _ _ _ _ _ (by rw [clampD i (by omega), clampD (i + 1) (by omega)]; unfold degI; omega) (by rw [clampS i (by omega), clampS (i + 1) (by omega)]; omega) h
theorem dpiece_mono (i : Nat) (hi : i ≤ 15) (T U : Int) (h : T ≤ U) : dpieceI i T ≤ dpieceI i U := by
  have hs := satI_lt i hi
  unfold dpieceI
  exact lineI_mono _ _ _ _ _ _ (by rw [clampS i (by omega), clampS (i + 1) (by omega)]; exact hs) (by rw [clampD i (by omega), clampD (i + 1) (by omega)]; unfold degI; omega) h
theorem spiece_range (i : Nat) (hi : i ≤ 15) (T : Int) : satI i ≤ spieceI i T ∧ spieceI i T ≤ satI (i + 1) := by
  have h1 := spiece_mono i hi (min T (degI i)) T (by omega)
  have h2 := spiece_mono i hi T (max T (degI (i + 1))) (by omega)
  rw [spiece_left i hi (min T (degI i)) (by omega)] at h1
  rw [spiece_right i hi (max T (degI (i + 1))) (by omega)] at h2
  exact ⟨h1, h2⟩
theorem dpiece_range (i : Nat) (hi : i ≤ 15) (T : Int) : degI i ≤ dpieceI i T ∧ dpieceI i T ≤ degI (i + 1) := by
  have h1 := dpiece_mono i hi (min T (satI i)) T (by omega)
  have h2 := dpiece_mono i hi T (max T (satI (i + 1))) (by omega)
  rw [dpiece_left i hi (min T (satI i)) (by omega)] at h1
  rw [dpiece_right i hi (max T (satI (i + 1))) (by omega)] at h2
  exact ⟨h1, h2⟩
theorem satI_mono : ∀ (j i : Nat), i ≤ j → j ≤ 16 → satI i ≤ satI j
  | 0, i, h, _ => by obtain rfl : i = 0 := by omega
                     exact Int.le_refl _
  | j + 1, i, h, hj => by
    by_cases e : i = j + 1
    · subst e; exact Int.le_refl _
    · have := satI_mono j i (by omega) (by omega)
      have := satI_lt j (by omega)
      omega
/-- which piece, by whatever interval -/
theorem satF_piece (t : Int) (i : Nat) (hi : i ≤ 15) (h1 : degI i ≤ t) (h2 : t ≤ degI (i + 1)) : satF t = spieceI i t := by
  have r1 := degI_range i (by omega)
  have r2 := degI_range (i + 1) (by omega)
  have e : limI t (-20000) 60000 = t := limI_in _ _ _ (by omega) (by omega)
  unfold satF
  rw [e]
  by_cases hj : sIdx t = i
  · rw [hj]
  · have hj2 : sIdx t = i + 1 ∧ t = degI (i + 1) := by unfold sIdx degI at *; omega
    have h15 := (sIdx_in t (by omega) (by omega)).1
    rw [hj2.1, hj2.2, spiece_right i hi _ (Int.le_refl _), spiece_left (i + 1) (by omega) _ (Int.le_refl _)]
theorem dewF_piece (w : Int) (i : Nat) (hi : i ≤ 15) (h1 : satI i ≤ w) (h2 : w ≤ satI (i + 1)) : dewF w = dpieceI i w := by
  have r1 := satI_range i (by omega)
  have r2 := satI_range (i + 1) (by omega)
  have e : limI w 0 1000000 = w := limI_in _ _ _ (by omega) (by omega)
  unfold dewF
  rw [e]
  have hle := dIdx_le w
  by_cases hj : dIdx w = i
  · rw [hj]
  · have ha : i ≤ dIdx w := by
      by_cases h0 : i = 0
      · omega
      · have := dIdx_down w (i - 1) (by omega) (by rw [show i - 1 + 1 = i by omega]; exact h1)
        omega
    have hu := dIdx_up w (dIdx w) hle (Nat.le_refl _) (by omega)
    have hm := satI_mono (dIdx w) (i + 1) (by omega) (by omega)
    have hw : w = satI (i + 1) := by omega
    have hd : dIdx w = i + 1 := by
      by_cases hgt : i + 1 < dIdx w
      · have := satI_mono (dIdx w) (i + 1 + 1) (by omega) (by omega)
        have := satI_lt (i + 1) (by omega)
        omega
      · omega
    rw [hd, dpiece_right i hi w (by omega), dpiece_left (i + 1) (by omega) w (by omega)]
theorem satF_low (t : Int) (h : t ≤ -20000) : satF t = 637 := by
  unfold satF
  rw [show limI t (-20000) 60000 = -20000 by unfold limI; omega]
  exact spiece_left 0 (by omega) _ (by decide)
theorem satF_high (t : Int) (h : 60000 ≤ t) : satF t = 153540 := by
  unfold satF
  rw [show limI t (-20000) 60000 = 60000 by unfold limI; omega]
  exact spiece_right 15 (by omega) _ (by decide)
theorem dewF_low (w : Int) (h : w ≤ 637) : dewF w = -20000 := by
  unfold dewF
  have e : dIdx (limI w 0 1000000) = 0 := by
    have := dIdx_lt (limI w 0 1000000) 1 (by omega) (by omega) (show limI w 0 1000000 < 1020 by unfold limI; omega)
    omega
  rw [e]
  exact dpiece_left 0 (by omega) _ (show limI w 0 1000000 ≤ 637 by unfold limI; omega)
theorem dewF_high (w : Int) (h : 153540 ≤ w) : dewF w = 60000 := by
  unfold dewF
  have e : dIdx (limI w 0 1000000) = 15 := by
    have := dIdx_down (limI w 0 1000000) 14 (by omega) (show 115321 ≤ limI w 0 1000000 by unfold limI; omega)
    have := dIdx_le (limI w 0 1000000)
    omega
  rw [e]
  exact dpiece_right 15 (by omega) _ (show 153540 ≤ limI w 0 1000000 by unfold limI; omega)
theorem satF_range (t : Int) : 637 ≤ satF t ∧ satF t ≤ 153540 := by
  have h := (sIdx_in (limI t (-20000) 60000) (limI_range _ _ _ (by omega)).1 (limI_range _ _ _ (by omega)).2).1
  have := spiece_range (sIdx (limI t (-20000) 60000)) h (limI t (-20000) 60000)
  have := satI_range (sIdx (limI t (-20000) 60000)) (by omega)
  have := satI_range (sIdx (limI t (-20000) 60000) + 1) (by omega)
  unfold satF
  omega
theorem satF_mono (t u : Int) (h : t ≤ u) : satF t ≤ satF u := by
  have a := sIdx_in (limI t (-20000) 60000) (limI_range _ _ _ (by omega)).1 (limI_range _ _ _ (by omega)).2
  have b := sIdx_in (limI u (-20000) 60000) (limI_range _ _ _ (by omega)).1 (limI_range _ _ _ (by omega)).2
  have hl := limI_mono t u (-20000) 60000 h
  unfold satF
  by_cases e : sIdx (limI t (-20000) 60000) = sIdx (limI u (-20000) 60000)
  · rw [e]; exact spiece_mono _ b.1 _ _ hl
  · have hlt : sIdx (limI t (-20000) 60000) < sIdx (limI u (-20000) 60000) := by unfold sIdx at *; omega
    have h1 := spiece_range _ a.1 (limI t (-20000) 60000)
    have h2 := spiece_range _ b.1 (limI u (-20000) 60000)
    have h3 := satI_mono (sIdx (limI u (-20000) 60000)) (sIdx (limI t (-20000) 60000) + 1) (by omega) (by omega)
    omega
theorem dewF_mono (w v : Int) (h : w ≤ v) : dewF w ≤ dewF v := by
  have hl := limI_mono w v 0 1000000 h
  have ha := dIdx_le (limI w 0 1000000)
  have hb := dIdx_le (limI v 0 1000000)
  unfold dewF
  by_cases e : dIdx (limI w 0 1000000) = dIdx (limI v 0 1000000)
  · rw [e]; exact dpiece_mono _ hb _ _ hl
  · have hlt : dIdx (limI w 0 1000000) < dIdx (limI v 0 1000000) := by
      by_cases h0 : dIdx (limI w 0 1000000) = 0
      · omega
      · have := dIdx_up (limI w 0 1000000) _ ha (Nat.le_refl _) (by omega)
        have := dIdx_down (limI v 0 1000000) (dIdx (limI w 0 1000000) - 1) (by omega) (by rw [show dIdx (limI w 0 1000000) - 1 + 1 = dIdx (limI w 0 1000000) by omega]; omega)
        omega
    have h1 := dpiece_range _ ha (limI w 0 1000000)
    have h2 := dpiece_range _ hb (limI v 0 1000000)
    unfold degI at *
    omega
theorem dewF_range (w : Int) : -20000 ≤ dewF w ∧ dewF w ≤ 60000 := by
  have ha := dIdx_le (limI w 0 1000000)
  have h1 := dpiece_range _ ha (limI w 0 1000000)
  have := degI_range (dIdx (limI w 0 1000000)) (by omega)
  have := degI_range (dIdx (limI w 0 1000000) + 1) (by omega)
  unfold dewF
  omega
/-- some interval that holds a temperature, a ratio -/
theorem some_deg (t : Int) (h1 : -20000 ≤ t) (h2 : t ≤ 60000) : ∃ i : Nat, i ≤ 15 ∧ degI i ≤ t ∧ t ≤ degI (i + 1) := ⟨_, sIdx_in t h1 h2⟩
theorem some_sat (w : Int) (h1 : 637 ≤ w) (h2 : w ≤ 153540) : ∃ i : Nat, i ≤ 15 ∧ satI i ≤ w ∧ w ≤ satI (i + 1) := by
  have hle := dIdx_le w
  refine ⟨dIdx w, hle, ?_, ?_⟩
  · by_cases h0 : dIdx w = 0
    · rw [h0]; exact h1
    · exact dIdx_up w _ hle (Nat.le_refl _) (by omega)
  · by_cases h15 : dIdx w = 15
    · rw [h15]; exact h2
    · by_cases hc : satI (dIdx w + 1) ≤ w
      · have := dIdx_down w (dIdx w) (by omega) hc
        omega
      · omega
theorem dew_sat (i : Nat) (hi : i ≤ 15) (t s d : Int) (h1 : degI i ≤ t) (h2 : t ≤ degI (i + 1)) (hs : s = spieceI i t) (hd : d = dpieceI i s) : d ≤ t + 7 := by
  have hr := spiece_range i hi t
  rw [← hs] at hr
  rcases (by omega : i = 0 ∨ i = 1 ∨ i = 2 ∨ i = 3 ∨ i = 4 ∨ i = 5 ∨ i = 6 ∨ i = 7 ∨ i = 8 ∨ i = 9 ∨ i = 10 ∨ i = 11 ∨ i = 12 ∨ i = 13 ∨ i = 14 ∨ i = 15) with rfl | rfl | rfl | rfl | rfl | rfl | rfl | rfl | rfl | rfl | rfl | rfl | rfl | rfl | rfl | rfl
  · replace h1 : (-20000) ≤ t := h1
    replace h2 : t ≤ (-15000) := h2
    replace hr : 637 ≤ s ∧ s ≤ 1020 := hr
    replace hs : s = lineI t (-20000) 637 (-15000) 1020 := hs
    replace hd : d = lineI s 637 (-20000) 1020 (-15000) := hd
    have a := line_near t (-20000) 637 (-15000) 1020 (637 * ((-15000) - t) + 1020 * (t - (-20000))) 5000 (by omega) (by omega) (by omega) (by omega) (by omega) (by omega) (by omega) (by omega) (by omega) (by omega) rfl (by omega) (by omega)
    have b := line_near s 637 (-20000) 1020 (-15000) ((-20000) * (1020 - s) + (-15000) * (s - 637)) 383 (by omega) (by omega) (by omega) (by omega) (by omega) (by omega) (by omega) (by omega) (by omega) (by omega) rfl (by omega) (by omega)
    rw [← hs] at a
    rw [← hd] at b
    clear hs hd
    omega
  · replace h1 : (-15000) ≤ t := h1
    replace h2 : t ≤ (-10000) := h2
    replace hr : 1020 ≤ s ∧ s ≤ 1603 := hr
    replace hs : s = lineI t (-15000) 1020 (-10000) 1603 := hs
    replace hd : d = lineI s 1020 (-15000) 1603 (-10000) := hd
    have a := line_near t (-15000) 1020 (-10000) 1603 (1020 * ((-10000) - t) + 1603 * (t - (-15000))) 5000 (by omega) (by omega) (by omega) (by omega) (by omega) (by omega) (by omega) (by omega) (by omega) (by omega) rfl (by omega) (by omega)
    have b := line_near s 1020 (-15000) 1603 (-10000) ((-15000) * (1603 - s) + (-10000) * (s - 1020)) 583 (by omega) (by omega) (by omega) (by omega) (by omega) (by omega) (by omega) (by omega) (by omega) (by omega) rfl (by omega) (by omega)
    rw [← hs] at a
    rw [← hd] at b
    clear hs hd
    omega
  · replace h1 : (-10000) ≤ t := h1
    replace h2 : t ≤ (-5000) := h2
    replace hr : 1603 ≤ s ∧ s ≤ 2487 := hr
    replace hs : s = lineI t (-10000) 1603 (-5000) 2487 := hs
    replace hd : d = lineI s 1603 (-10000) 2487 (-5000) := hd
    have a := line_near t (-10000) 1603 (-5000) 2487 (1603 * ((-5000) - t) + 2487 * (t - (-10000))) 5000 (by omega) (by omega) (by omega) (by omega) (by omega) (by omega) (by omega) (by omega) (by omega) (by omega) rfl (by omega) (by omega)
    have b := line_near s 1603 (-10000) 2487 (-5000) ((-10000) * (2487 - s) + (-5000) * (s - 1603)) 884 (by omega) (by omega) (by omega) (by omega) (by omega) (by omega) (by omega) (by omega) (by omega) (by omega) rfl (by omega) (by omega)
    rw [← hs] at a
    rw [← hd] at b
    clear hs hd
    omega
  · replace h1 : (-5000) ≤ t := h1
    replace h2 : t ≤ 0 := h2
    replace hr : 2487 ≤ s ∧ s ≤ 3789 := hr
    replace hs : s = lineI t (-5000) 2487 0 3789 := hs
    replace hd : d = lineI s 2487 (-5000) 3789 0 := hd
    have a := line_near t (-5000) 2487 0 3789 (2487 * (0 - t) + 3789 * (t - (-5000))) 5000 (by omega) (by omega) (by omega) (by omega) (by omega) (by omega) (by omega) (by omega) (by omega) (by omega) rfl (by omega) (by omega)
    have b := line_near s 2487 (-5000) 3789 0 ((-5000) * (3789 - s) + 0 * (s - 2487)) 1302 (by omega) (by omega) (by omega) (by omega) (by omega) (by omega) (by omega) (by omega) (by omega) (by omega) rfl (by omega) (by omega)
    rw [← hs] at a
    rw [← hd] at b
    clear hs hd
    omega
  · replace h1 : 0 ≤ t := h1
    replace h2 : t ≤ 5000 := h2
    replace hr : 3789 ≤ s ∧ s ≤ 5424 := hr
    replace hs : s = lineI t 0 3789 5000 5424 := hs
    replace hd : d = lineI s 3789 0 5424 5000 := hd
    have a := line_near t 0 3789 5000 5424 (3789 * (5000 - t) + 5424 * (t - 0)) 5000 (by omega) (by omega) (by omega) (by omega) (by omega) (by omega) (by omega) (by omega) (by omega) (by omega) rfl (by omega) (by omega)
    have b := line_near s 3789 0 5424 5000 (0 * (5424 - s) + 5000 * (s - 3789)) 1635 (by omega) (by omega) (by omega) (by omega) (by omega) (by omega) (by omega) (by omega) (by omega) (by omega) rfl (by omega) (by omega)
    rw [← hs] at a
    rw [← hd] at b
    clear hs hd
    omega
  · replace h1 : 5000 ≤ t := h1
    replace h2 : t ≤ 10000 := h2
    replace hr : 5424 ≤ s ∧ s ≤ 7661 := hr
    replace hs : s = lineI t 5000 5424 10000 7661 := hs
    replace hd : d = lineI s 5424 5000 7661 10000 := hd
    have a := line_near t 5000 5424 10000 7661 (5424 * (10000 - t) + 7661 * (t - 5000)) 5000 (by omega) (by omega) (by omega) (by omega) (by omega) (by omega) (by omega) (by omega) (by omega) (by omega) rfl (by omega) (by omega)
    have b := line_near s 5424 5000 7661 10000 (5000 * (7661 - s) + 10000 * (s - 5424)) 2237 (by omega) (by omega) (by omega) (by omega) (by omega) (by omega) (by omega) (by omega) (by omega) (by omega) rfl (by omega) (by omega)
    rw [← hs] at a
    rw [← hd] at b
    clear hs hd
    omega
  · replace h1 : 10000 ≤ t := h1
    replace h2 : t ≤ 15000 := h2
    replace hr : 7661 ≤ s ∧ s ≤ 10694 := hr
    replace hs : s = lineI t 10000 7661 15000 10694 := hs
    replace hd : d = lineI s 7661 10000 10694 15000 := hd
    have a := line_near t 10000 7661 15000 10694 (7661 * (15000 - t) + 10694 * (t - 10000)) 5000 (by omega) (by omega) (by omega) (by omega) (by omega) (by omega) (by omega) (by omega) (by omega) (by omega) rfl (by omega) (by omega)
    have b := line_near s 7661 10000 10694 15000 (10000 * (10694 - s) + 15000 * (s - 7661)) 3033 (by omega) (by omega) (by omega) (by omega) (by omega) (by omega) (by omega) (by omega) (by omega) (by omega) rfl (by omega) (by omega)
    rw [← hs] at a
    rw [← hd] at b
    clear hs hd
    omega
  · replace h1 : 15000 ≤ t := h1
    replace h2 : t ≤ 20000 := h2
    replace hr : 10694 ≤ s ∧ s ≤ 14757 := hr
    replace hs : s = lineI t 15000 10694 20000 14757 := hs
    replace hd : d = lineI s 10694 15000 14757 20000 := hd
    have a := line_near t 15000 10694 20000 14757 (10694 * (20000 - t) + 14757 * (t - 15000)) 5000 (by omega) (by omega) (by omega) (by omega) (by omega) (by omega) (by omega) (by omega) (by omega) (by omega) rfl (by omega) (by omega)
    have b := line_near s 10694 15000 14757 20000 (15000 * (14757 - s) + 20000 * (s - 10694)) 4063 (by omega) (by omega) (by omega) (by omega) (by omega) (by omega) (by omega) (by omega) (by omega) (by omega) rfl (by omega) (by omega)
    rw [← hs] at a
    rw [← hd] at b
    clear hs hd
    omega
  · replace h1 : 20000 ≤ t := h1
    replace h2 : t ≤ 25000 := h2
    replace hr : 14757 ≤ s ∧ s ≤ 20170 := hr
    replace hs : s = lineI t 20000 14757 25000 20170 := hs
    replace hd : d = lineI s 14757 20000 20170 25000 := hd
    have a := line_near t 20000 14757 25000 20170 (14757 * (25000 - t) + 20170 * (t - 20000)) 5000 (by omega) (by omega) (by omega) (by omega) (by omega) (by omega) (by omega) (by omega) (by omega) (by omega) rfl (by omega) (by omega)
    have b := line_near s 14757 20000 20170 25000 (20000 * (20170 - s) + 25000 * (s - 14757)) 5413 (by omega) (by omega) (by omega) (by omega) (by omega) (by omega) (by omega) (by omega) (by omega) (by omega) rfl (by omega) (by omega)
    rw [← hs] at a
    rw [← hd] at b
    clear hs hd
    omega
  · replace h1 : 25000 ≤ t := h1
    replace h2 : t ≤ 30000 := h2
    replace hr : 20170 ≤ s ∧ s ≤ 27329 := hr
    replace hs : s = lineI t 25000 20170 30000 27329 := hs
    replace hd : d = lineI s 20170 25000 27329 30000 := hd
    have a := line_near t 25000 20170 30000 27329 (20170 * (30000 - t) + 27329 * (t - 25000)) 5000 (by omega) (by omega) (by omega) (by omega) (by omega) (by omega) (by omega) (by omega) (by omega) (by omega) rfl (by omega) (by omega)
    have b := line_near s 20170 25000 27329 30000 (25000 * (27329 - s) + 30000 * (s - 20170)) 7159 (by omega) (by omega) (by omega) (by omega) (by omega) (by omega) (by omega) (by omega) (by omega) (by omega) rfl (by omega) (by omega)
    rw [← hs] at a
    rw [← hd] at b
    clear hs hd
    omega
  · replace h1 : 30000 ≤ t := h1
    replace h2 : t ≤ 35000 := h2
    replace hr : 27329 ≤ s ∧ s ≤ 36756 := hr
    replace hs : s = lineI t 30000 27329 35000 36756 := hs
    replace hd : d = lineI s 27329 30000 36756 35000 := hd
    have a := line_near t 30000 27329 35000 36756 (27329 * (35000 - t) + 36756 * (t - 30000)) 5000 (by omega) (by omega) (by omega) (by omega) (by omega) (by omega) (by omega) (by omega) (by omega) (by omega) rfl (by omega) (by omega)
    have b := line_near s 27329 30000 36756 35000 (30000 * (36756 - s) + 35000 * (s - 27329)) 9427 (by omega) (by omega) (by omega) (by omega) (by omega) (by omega) (by omega) (by omega) (by omega) (by omega) rfl (by omega) (by omega)
    rw [← hs] at a
    rw [← hd] at b
    clear hs hd
    omega
  · replace h1 : 35000 ≤ t := h1
    replace h2 : t ≤ 40000 := h2
    replace hr : 36756 ≤ s ∧ s ≤ 49141 := hr
    replace hs : s = lineI t 35000 36756 40000 49141 := hs
    replace hd : d = lineI s 36756 35000 49141 40000 := hd
    have a := line_near t 35000 36756 40000 49141 (36756 * (40000 - t) + 49141 * (t - 35000)) 5000 (by omega) (by omega) (by omega) (by omega) (by omega) (by omega) (by omega) (by omega) (by omega) (by omega) rfl (by omega) (by omega)
    have b := line_near s 36756 35000 49141 40000 (35000 * (49141 - s) + 40000 * (s - 36756)) 12385 (by omega) (by omega) (by omega) (by omega) (by omega) (by omega) (by omega) (by omega) (by omega) (by omega) rfl (by omega) (by omega)
    rw [← hs] at a
    rw [← hd] at b
    clear hs hd
    omega
  · replace h1 : 40000 ≤ t := h1
    replace h2 : t ≤ 45000 := h2
    replace hr : 49141 ≤ s ∧ s ≤ 65411 := hr
    replace hs : s = lineI t 40000 49141 45000 65411 := hs
    replace hd : d = lineI s 49141 40000 65411 45000 := hd
    have a := line_near t 40000 49141 45000 65411 (49141 * (45000 - t) + 65411 * (t - 40000)) 5000 (by omega) (by omega) (by omega) (by omega) (by omega) (by omega) (by omega) (by omega) (by omega) (by omega) rfl (by omega) (by omega)
    have b := line_near s 49141 40000 65411 45000 (40000 * (65411 - s) + 45000 * (s - 49141)) 16270 (by omega) (by omega) (by omega) (by omega) (by omega) (by omega) (by omega) (by omega) (by omega) (by omega) rfl (by omega) (by omega)
    rw [← hs] at a
    rw [← hd] at b
    clear hs hd
    omega
  · replace h1 : 45000 ≤ t := h1
    replace h2 : t ≤ 50000 := h2
    replace hr : 65411 ≤ s ∧ s ≤ 86858 := hr
    replace hs : s = lineI t 45000 65411 50000 86858 := hs
    replace hd : d = lineI s 65411 45000 86858 50000 := hd
    have a := line_near t 45000 65411 50000 86858 (65411 * (50000 - t) + 86858 * (t - 45000)) 5000 (by omega) (by omega) (by omega) (by omega) (by omega) (by omega) (by omega) (by omega) (by omega) (by omega) rfl (by omega) (by omega)
    have b := line_near s 65411 45000 86858 50000 (45000 * (86858 - s) + 50000 * (s - 65411)) 21447 (by omega) (by omega) (by omega) (by omega) (by omega) (by omega) (by omega) (by omega) (by omega) (by omega) rfl (by omega) (by omega)
    rw [← hs] at a
    rw [← hd] at b
    clear hs hd
    omega
  · replace h1 : 50000 ≤ t := h1
    replace h2 : t ≤ 55000 := h2
    replace hr : 86858 ≤ s ∧ s ≤ 115321 := hr
    replace hs : s = lineI t 50000 86858 55000 115321 := hs
    replace hd : d = lineI s 86858 50000 115321 55000 := hd
    have a := line_near t 50000 86858 55000 115321 (86858 * (55000 - t) + 115321 * (t - 50000)) 5000 (by omega) (by omega) (by omega) (by omega) (by omega) (by omega) (by omega) (by omega) (by omega) (by omega) rfl (by omega) (by omega)
    have b := line_near s 86858 50000 115321 55000 (50000 * (115321 - s) + 55000 * (s - 86858)) 28463 (by omega) (by omega) (by omega) (by omega) (by omega) (by omega) (by omega) (by omega) (by omega) (by omega) rfl (by omega) (by omega)
    rw [← hs] at a
    rw [← hd] at b
    clear hs hd
    omega
  · replace h1 : 55000 ≤ t := h1
    replace h2 : t ≤ 60000 := h2
    replace hr : 115321 ≤ s ∧ s ≤ 153540 := hr
    replace hs : s = lineI t 55000 115321 60000 153540 := hs
    replace hd : d = lineI s 115321 55000 153540 60000 := hd
    have a := line_near t 55000 115321 60000 153540 (115321 * (60000 - t) + 153540 * (t - 55000)) 5000 (by omega) (by omega) (by omega) (by omega) (by omega) (by omega) (by omega) (by omega) (by omega) (by omega) rfl (by omega) (by omega)
    have b := line_near s 115321 55000 153540 60000 (55000 * (153540 - s) + 60000 * (s - 115321)) 38219 (by omega) (by omega) (by omega) (by omega) (by omega) (by omega) (by omega) (by omega) (by omega) (by omega) rfl (by omega) (by omega)
    rw [← hs] at a
    rw [← hd] at b
    clear hs hd
    omega
theorem sat_dew (i : Nat) (hi : i ≤ 15) (w d s : Int) (h1 : satI i ≤ w) (h2 : w ≤ satI (i + 1)) (hd : d = dpieceI i w) (hs : s = spieceI i d) : -5 ≤ s - w ∧ s - w ≤ 5 := by
  have hr := dpiece_range i hi w
  rw [← hd] at hr
  rcases (by omega : i = 0 ∨ i = 1 ∨ i = 2 ∨ i = 3 ∨ i = 4 ∨ i = 5 ∨ i = 6 ∨ i = 7 ∨ i = 8 ∨ i = 9 ∨ i = 10 ∨ i = 11 ∨ i = 12 ∨ i = 13 ∨ i = 14 ∨ i = 15) with rfl | rfl | rfl | rfl | rfl | rfl | rfl | rfl | rfl | rfl | rfl | rfl | rfl | rfl | rfl | rfl
  · replace h1 : 637 ≤ w := h1
    replace h2 : w ≤ 1020 := h2
    replace hr : (-20000) ≤ d ∧ d ≤ (-15000) := hr
    replace hd : d = lineI w 637 (-20000) 1020 (-15000) := hd
    replace hs : s = lineI d (-20000) 637 (-15000) 1020 := hs
    have a := line_near w 637 (-20000) 1020 (-15000) ((-20000) * (1020 - w) + (-15000) * (w - 637)) 383 (by omega) (by omega) (by omega) (by omega) (by omega) (by omega) (by omega) (by omega) (by omega) (by omega) rfl (by omega) (by omega)
    have b := line_near d (-20000) 637 (-15000) 1020 (637 * ((-15000) - d) + 1020 * (d - (-20000))) 5000 (by omega) (by omega) (by omega) (by omega) (by omega) (by omega) (by omega) (by omega) (by omega) (by omega) rfl (by omega) (by omega)
    rw [← hd] at a
    rw [← hs] at b
    clear hs hd
    omega
  · replace h1 : 1020 ≤ w := h1
    replace h2 : w ≤ 1603 := h2
    replace hr : (-15000) ≤ d ∧ d ≤ (-10000) := hr
    replace hd : d = lineI w 1020 (-15000) 1603 (-10000) := hd
    replace hs : s = lineI d (-15000) 1020 (-10000) 1603 := hs
    have a := line_near w 1020 (-15000) 1603 (-10000) ((-15000) * (1603 - w) + (-10000) * (w - 1020)) 583 (by omega) (by omega) (by omega) (by omega) (by omega) (by omega) (by omega) (by omega) (by omega) (by omega) rfl (by omega) (by omega)
    have b := line_near d (-15000) 1020 (-10000) 1603 (1020 * ((-10000) - d) + 1603 * (d - (-15000))) 5000 (by omega) (by omega) (by omega) (by omega) (by omega) (by omega) (by omega) (by omega) (by omega) (by omega) rfl (by omega) (by omega)
    rw [← hd] at a
    rw [← hs] at b
    clear hs hd
    omega
  · replace h1 : 1603 ≤ w := h1
    replace h2 : w ≤ 2487 := h2
    replace hr : (-10000) ≤ d ∧ d ≤ (-5000) := hr
    replace hd : d = lineI w 1603 (-10000) 2487 (-5000) := hd
    replace hs : s = lineI d (-10000) 1603 (-5000) 2487 := hs
    have a := line_near w 1603 (-10000) 2487 (-5000) ((-10000) * (2487 - w) + (-5000) * (w - 1603)) 884 (by omega) (by omega) (by omega) (by omega) (by omega) (by omega) (by omega) (by omega) (by omega) (by omega) rfl (by omega) (by omega)
    have b := line_near d (-10000) 1603 (-5000) 2487 (1603 * ((-5000) - d) + 2487 * (d - (-10000))) 5000 (by omega) (by omega) (by omega) (by omega) (by omega) (by omega) (by omega) (by omega) (by omega) (by omega) rfl (by omega) (by omega)
    rw [← hd] at a
    rw [← hs] at b
    clear hs hd
    omega
  · replace h1 : 2487 ≤ w := h1
    replace h2 : w ≤ 3789 := h2
    replace hr : (-5000) ≤ d ∧ d ≤ 0 := hr
    replace hd : d = lineI w 2487 (-5000) 3789 0 := hd
    replace hs : s = lineI d (-5000) 2487 0 3789 := hs
    have a := line_near w 2487 (-5000) 3789 0 ((-5000) * (3789 - w) + 0 * (w - 2487)) 1302 (by omega) (by omega) (by omega) (by omega) (by omega) (by omega) (by omega) (by omega) (by omega) (by omega) rfl (by omega) (by omega)
    have b := line_near d (-5000) 2487 0 3789 (2487 * (0 - d) + 3789 * (d - (-5000))) 5000 (by omega) (by omega) (by omega) (by omega) (by omega) (by omega) (by omega) (by omega) (by omega) (by omega) rfl (by omega) (by omega)
    rw [← hd] at a
    rw [← hs] at b
    clear hs hd
    omega
  · replace h1 : 3789 ≤ w := h1
    replace h2 : w ≤ 5424 := h2
    replace hr : 0 ≤ d ∧ d ≤ 5000 := hr
    replace hd : d = lineI w 3789 0 5424 5000 := hd
    replace hs : s = lineI d 0 3789 5000 5424 := hs
    have a := line_near w 3789 0 5424 5000 (0 * (5424 - w) + 5000 * (w - 3789)) 1635 (by omega) (by omega) (by omega) (by omega) (by omega) (by omega) (by omega) (by omega) (by omega) (by omega) rfl (by omega) (by omega)
    have b := line_near d 0 3789 5000 5424 (3789 * (5000 - d) + 5424 * (d - 0)) 5000 (by omega) (by omega) (by omega) (by omega) (by omega) (by omega) (by omega) (by omega) (by omega) (by omega) rfl (by omega) (by omega)
    rw [← hd] at a
    rw [← hs] at b
    clear hs hd
    omega
  · replace h1 : 5424 ≤ w := h1
    replace h2 : w ≤ 7661 := h2
    replace hr : 5000 ≤ d ∧ d ≤ 10000 := hr
    replace hd : d = lineI w 5424 5000 7661 10000 := hd
    replace hs : s = lineI d 5000 5424 10000 7661 := hs
    have a := line_near w 5424 5000 7661 10000 (5000 * (7661 - w) + 10000 * (w - 5424)) 2237 (by omega) (by omega) (by omega) (by omega) (by omega) (by omega) (by omega) (by omega) (by omega) (by omega) rfl (by omega) (by omega)
    have b := line_near d 5000 5424 10000 7661 (5424 * (10000 - d) + 7661 * (d - 5000)) 5000 (by omega) (by omega) (by omega) (by omega) (by omega) (by omega) (by omega) (by omega) (by omega) (by omega) rfl (by omega) (by omega)
    rw [← hd] at a
    rw [← hs] at b
    clear hs hd
    omega
  · replace h1 : 7661 ≤ w := h1
    replace h2 : w ≤ 10694 := h2
    replace hr : 10000 ≤ d ∧ d ≤ 15000 := hr
    replace hd : d = lineI w 7661 10000 10694 15000 := hd
    replace hs : s = lineI d 10000 7661 15000 10694 := hs
    have a := line_near w 7661 10000 10694 15000 (10000 * (10694 - w) + 15000 * (w - 7661)) 3033 (by omega) (by omega) (by omega) (by omega) (by omega) (by omega) (by omega) (by omega) (by omega) (by omega) rfl (by omega) (by omega)
    have b := line_near d 10000 7661 15000 10694 (7661 * (15000 - d) + 10694 * (d - 10000)) 5000 (by omega) (by omega) (by omega) (by omega) (by omega) (by omega) (by omega) (by omega) (by omega) (by omega) rfl (by omega) (by omega)
    rw [← hd] at a
    rw [← hs] at b
    clear hs hd
    omega
  · replace h1 : 10694 ≤ w := h1
    replace h2 : w ≤ 14757 := h2
    replace hr : 15000 ≤ d ∧ d ≤ 20000 := hr
    replace hd : d = lineI w 10694 15000 14757 20000 := hd
    replace hs : s = lineI d 15000 10694 20000 14757 := hs
    have a := line_near w 10694 15000 14757 20000 (15000 * (14757 - w) + 20000 * (w - 10694)) 4063 (by omega) (by omega) (by omega) (by omega) (by omega) (by omega) (by omega) (by omega) (by omega) (by omega) rfl (by omega) (by omega)
    have b := line_near d 15000 10694 20000 14757 (10694 * (20000 - d) + 14757 * (d - 15000)) 5000 (by omega) (by omega) (by omega) (by omega) (by omega) (by omega) (by omega) (by omega) (by omega) (by omega) rfl (by omega) (by omega)
    rw [← hd] at a
    rw [← hs] at b
    clear hs hd
    omega
  · replace h1 : 14757 ≤ w := h1
    replace h2 : w ≤ 20170 := h2
    replace hr : 20000 ≤ d ∧ d ≤ 25000 := hr
    replace hd : d = lineI w 14757 20000 20170 25000 := hd
    replace hs : s = lineI d 20000 14757 25000 20170 := hs
    have a := line_near w 14757 20000 20170 25000 (20000 * (20170 - w) + 25000 * (w - 14757)) 5413 (by omega) (by omega) (by omega) (by omega) (by omega) (by omega) (by omega) (by omega) (by omega) (by omega) rfl (by omega) (by omega)
    have b := line_near d 20000 14757 25000 20170 (14757 * (25000 - d) + 20170 * (d - 20000)) 5000 (by omega) (by omega) (by omega) (by omega) (by omega) (by omega) (by omega) (by omega) (by omega) (by omega) rfl (by omega) (by omega)
    rw [← hd] at a
    rw [← hs] at b
    clear hs hd
    omega
  · replace h1 : 20170 ≤ w := h1
    replace h2 : w ≤ 27329 := h2
    replace hr : 25000 ≤ d ∧ d ≤ 30000 := hr
    replace hd : d = lineI w 20170 25000 27329 30000 := hd
    replace hs : s = lineI d 25000 20170 30000 27329 := hs
    have a := line_near w 20170 25000 27329 30000 (25000 * (27329 - w) + 30000 * (w - 20170)) 7159 (by omega) (by omega) (by omega) (by omega) (by omega) (by omega) (by omega) (by omega) (by omega) (by omega) rfl (by omega) (by omega)
    have b := line_near d 25000 20170 30000 27329 (20170 * (30000 - d) + 27329 * (d - 25000)) 5000 (by omega) (by omega) (by omega) (by omega) (by omega) (by omega) (by omega) (by omega) (by omega) (by omega) rfl (by omega) (by omega)
    rw [← hd] at a
    rw [← hs] at b
    clear hs hd
    omega
  · replace h1 : 27329 ≤ w := h1
    replace h2 : w ≤ 36756 := h2
    replace hr : 30000 ≤ d ∧ d ≤ 35000 := hr
    replace hd : d = lineI w 27329 30000 36756 35000 := hd
    replace hs : s = lineI d 30000 27329 35000 36756 := hs
    have a := line_near w 27329 30000 36756 35000 (30000 * (36756 - w) + 35000 * (w - 27329)) 9427 (by omega) (by omega) (by omega) (by omega) (by omega) (by omega) (by omega) (by omega) (by omega) (by omega) rfl (by omega) (by omega)
    have b := line_near d 30000 27329 35000 36756 (27329 * (35000 - d) + 36756 * (d - 30000)) 5000 (by omega) (by omega) (by omega) (by omega) (by omega) (by omega) (by omega) (by omega) (by omega) (by omega) rfl (by omega) (by omega)
    rw [← hd] at a
    rw [← hs] at b
    clear hs hd
    omega
  · replace h1 : 36756 ≤ w := h1
    replace h2 : w ≤ 49141 := h2
    replace hr : 35000 ≤ d ∧ d ≤ 40000 := hr
    replace hd : d = lineI w 36756 35000 49141 40000 := hd
    replace hs : s = lineI d 35000 36756 40000 49141 := hs
    have a := line_near w 36756 35000 49141 40000 (35000 * (49141 - w) + 40000 * (w - 36756)) 12385 (by omega) (by omega) (by omega) (by omega) (by omega) (by omega) (by omega) (by omega) (by omega) (by omega) rfl (by omega) (by omega)
    have b := line_near d 35000 36756 40000 49141 (36756 * (40000 - d) + 49141 * (d - 35000)) 5000 (by omega) (by omega) (by omega) (by omega) (by omega) (by omega) (by omega) (by omega) (by omega) (by omega) rfl (by omega) (by omega)
    rw [← hd] at a
    rw [← hs] at b
    clear hs hd
    omega
  · replace h1 : 49141 ≤ w := h1
    replace h2 : w ≤ 65411 := h2
    replace hr : 40000 ≤ d ∧ d ≤ 45000 := hr
    replace hd : d = lineI w 49141 40000 65411 45000 := hd
    replace hs : s = lineI d 40000 49141 45000 65411 := hs
    have a := line_near w 49141 40000 65411 45000 (40000 * (65411 - w) + 45000 * (w - 49141)) 16270 (by omega) (by omega) (by omega) (by omega) (by omega) (by omega) (by omega) (by omega) (by omega) (by omega) rfl (by omega) (by omega)
    have b := line_near d 40000 49141 45000 65411 (49141 * (45000 - d) + 65411 * (d - 40000)) 5000 (by omega) (by omega) (by omega) (by omega) (by omega) (by omega) (by omega) (by omega) (by omega) (by omega) rfl (by omega) (by omega)
    rw [← hd] at a
    rw [← hs] at b
    clear hs hd
    omega
  · replace h1 : 65411 ≤ w := h1
    replace h2 : w ≤ 86858 := h2
    replace hr : 45000 ≤ d ∧ d ≤ 50000 := hr
    replace hd : d = lineI w 65411 45000 86858 50000 := hd
    replace hs : s = lineI d 45000 65411 50000 86858 := hs
    have a := line_near w 65411 45000 86858 50000 (45000 * (86858 - w) + 50000 * (w - 65411)) 21447 (by omega) (by omega) (by omega) (by omega) (by omega) (by omega) (by omega) (by omega) (by omega) (by omega) rfl (by omega) (by omega)
    have b := line_near d 45000 65411 50000 86858 (65411 * (50000 - d) + 86858 * (d - 45000)) 5000 (by omega) (by omega) (by omega) (by omega) (by omega) (by omega) (by omega) (by omega) (by omega) (by omega) rfl (by omega) (by omega)
    rw [← hd] at a
    rw [← hs] at b
    clear hs hd
    omega
  · replace h1 : 86858 ≤ w := h1
    replace h2 : w ≤ 115321 := h2
    replace hr : 50000 ≤ d ∧ d ≤ 55000 := hr
    replace hd : d = lineI w 86858 50000 115321 55000 := hd
    replace hs : s = lineI d 50000 86858 55000 115321 := hs
    have a := line_near w 86858 50000 115321 55000 (50000 * (115321 - w) + 55000 * (w - 86858)) 28463 (by omega) (by omega) (by omega) (by omega) (by omega) (by omega) (by omega) (by omega) (by omega) (by omega) rfl (by omega) (by omega)
    have b := line_near d 50000 86858 55000 115321 (86858 * (55000 - d) + 115321 * (d - 50000)) 5000 (by omega) (by omega) (by omega) (by omega) (by omega) (by omega) (by omega) (by omega) (by omega) (by omega) rfl (by omega) (by omega)
    rw [← hd] at a
    rw [← hs] at b
    clear hs hd
    omega
  · replace h1 : 115321 ≤ w := h1
    replace h2 : w ≤ 153540 := h2
    replace hr : 55000 ≤ d ∧ d ≤ 60000 := hr
    replace hd : d = lineI w 115321 55000 153540 60000 := hd
    replace hs : s = lineI d 55000 115321 60000 153540 := hs
    have a := line_near w 115321 55000 153540 60000 (55000 * (153540 - w) + 60000 * (w - 115321)) 38219 (by omega) (by omega) (by omega) (by omega) (by omega) (by omega) (by omega) (by omega) (by omega) (by omega) rfl (by omega) (by omega)
    have b := line_near d 55000 115321 60000 153540 (115321 * (60000 - d) + 153540 * (d - 55000)) 5000 (by omega) (by omega) (by omega) (by omega) (by omega) (by omega) (by omega) (by omega) (by omega) (by omega) rfl (by omega) (by omega)
    rw [← hd] at a
    rw [← hs] at b
    clear hs hd
    omega
theorem ratF_le (t h : Int) : ratF t h ≤ satF t := by
  have hr := satF_range t
  have hl := limI_range h 0 100000 (by omega)
  unfold ratF mulDivI
  rw [clampI_in (satF t) (by omega) (by omega), clampI_in (limI h 0 100000) (by omega) (by omega), clampI_in 100000 (by omega) (by omega)]
  have e := quoI_exact2 (satF t) 100000 (by omega) (by omega) (by omega)
  have m := quoI_mono (satF t * limI h 0 100000) (satF t * 100000) 100000 (by omega) (Int.mul_le_mul_of_nonneg_left hl.2 (by omega))
  omega
theorem dew_law (t h : Int) (ht : -20000 ≤ t) : dewF (ratF t h) ≤ min t 200000 + 7 := by
  have m := dewF_mono _ _ (ratF_le t h)
  by_cases h6 : t ≤ 60000
  · obtain ⟨i, hi, h1, h2⟩ := some_deg t ht h6
    have hr := spiece_range i hi t
    have e1 := satF_piece t i hi h1 h2
    have e2 := dewF_piece (satF t) i hi (by omega) (by omega)
    have := dew_sat i hi t (satF t) (dewF (satF t)) h1 h2 e1 e2
    omega
  · have := dewF_range (satF t)
    omega
theorem sat_law (w : Int) (h1 : 637 ≤ w) (h2 : w ≤ 153540) : -5 ≤ satF (dewF w) - w ∧ satF (dewF w) - w ≤ 5 := by
  obtain ⟨i, hi, a, b⟩ := some_sat w h1 h2
  have hr := dpiece_range i hi w
  have e1 := dewF_piece w i hi a b
  have e2 := satF_piece (dewF w) i hi (by omega) (by omega)
  exact sat_dew i hi w (dewF w) (satF (dewF w)) a b e1 (by rw [e2])
theorem mulDiv_in (a b c : Int) (h1 : -1000000000000 ≤ a) (h2 : a ≤ 1000000000000) (h3 : -1000000000000 ≤ b) (h4 : b ≤ 1000000000000) (h5 : -1000000000000 ≤ c) (h6 : c ≤ 1000000000000) : mulDivI a b c = quoI (a * b) c := by
  unfold mulDivI
  rw [clampI_in a h1 h2, clampI_in b h3 h4, clampI_in c h5 h6]
theorem ratF_mono (t u h k : Int) (h1 : t ≤ u) (h2 : h ≤ k) : ratF t h ≤ ratF u k := by
  have hr := satF_range t
  have hq := satF_range u
  have hl := limI_range h 0 100000 (by omega)
  have hk := limI_range k 0 100000 (by omega)
  have hm := limI_mono h k 0 100000 h2
  have hs := satF_mono t u h1
  unfold ratF
  rw [mulDiv_in _ _ _ (by omega) (by omega) (by omega) (by omega) (by omega) (by omega), mulDiv_in _ _ _ (by omega) (by omega) (by omega) (by omega) (by omega) (by omega)]
  exact quoI_mono _ _ _ (by omega) (Int.mul_le_mul hs hm (by omega) (by omega))
theorem ratF_range (t h : Int) : 0 ≤ ratF t h ∧ ratF t h ≤ 153540 := by
  have := ratF_le t h
  have hr := satF_range t
  have hl := limI_range h 0 100000 (by omega)
  refine ⟨?_, by omega⟩
  unfold ratF
  rw [mulDiv_in _ _ _ (by omega) (by omega) (by omega) (by omega) (by omega) (by omega)]
  exact quoI_nonneg _ _ (by omega) (Int.mul_nonneg (by omega) hl.1)
theorem humF_mono (t w v : Int) (h : w ≤ v) : humF t w ≤ humF t v := by
  have hr := satF_range t
  have hl := limI_range w 0 1000000 (by omega)
  have hk := limI_range v 0 1000000 (by omega)
  have hm := limI_mono w v 0 1000000 h
  unfold humF
  rw [mulDiv_in (limI w 0 1000000) _ _ (by omega) (by omega) (by omega) (by omega) (by omega) (by omega), mulDiv_in (limI v 0 1000000) _ _ (by omega) (by omega) (by omega) (by omega) (by omega) (by omega)]
  have := quoI_mono (limI w 0 1000000 * 100000) (limI v 0 1000000 * 100000) (satF t) (by omega) (by omega)
  omega
theorem heat_range (T : Int) (h1 : -100000 ≤ T) (h2 : T ≤ 200000) : -186000 ≤ mulDivI T 1860 1000 ∧ mulDivI T 1860 1000 ≤ 372000 := by
  rw [mulDiv_in _ _ _ (by omega) (by omega) (by omega) (by omega) (by omega) (by omega)]
  have a := quoI_mono (-186000 * 1000) (T * 1860) 1000 (by omega) (by omega)
  have b := quoI_mono (T * 1860) (372000 * 1000) 1000 (by omega) (by omega)
  have e1 := quoI_exact2 (-186000) 1000 (by omega) (by omega) (by omega)
  have e2 := quoI_exact2 372000 1000 (by omega) (by omega) (by omega)
  omega
theorem entF_mono (t u w v : Int) (h1 : t ≤ u) (h2 : w ≤ v) : entF t w ≤ entF u v := by
  have a := limI_range t (-100000) 200000 (by omega)
  have b := limI_range u (-100000) 200000 (by omega)
  have c := limI_range w 0 1000000 (by omega)
  have d := limI_range v 0 1000000 (by omega)
  have m1 := limI_mono t u (-100000) 200000 h1
  have m2 := limI_mono w v 0 1000000 h2
  have k1 := heat_range _ a.1 a.2
  have k2 := heat_range _ b.1 b.2
  unfold entF
  have q1 : mulDivI (limI t (-100000) 200000) 1006 1000 ≤ mulDivI (limI u (-100000) 200000) 1006 1000 := by
    rw [mulDiv_in _ _ _ (by omega) (by omega) (by omega) (by omega) (by omega) (by omega), mulDiv_in _ _ _ (by omega) (by omega) (by omega) (by omega) (by omega) (by omega)]
    exact quoI_mono _ _ _ (by omega) (by omega)
  have q2 : mulDivI (limI t (-100000) 200000) 1860 1000 ≤ mulDivI (limI u (-100000) 200000) 1860 1000 := by
    rw [mulDiv_in _ _ _ (by omega) (by omega) (by omega) (by omega) (by omega) (by omega), mulDiv_in _ _ _ (by omega) (by omega) (by omega) (by omega) (by omega) (by omega)]
    exact quoI_mono _ _ _ (by omega) (by omega)
  have q3 : mulDivI (limI w 0 1000000) (2501000 + mulDivI (limI t (-100000) 200000) 1860 1000) 1000000 ≤ mulDivI (limI v 0 1000000) (2501000 + mulDivI (limI u (-100000) 200000) 1860 1000) 1000000 := by
    generalize mulDivI (limI t (-100000) 200000) 1860 1000 = A at *
    generalize mulDivI (limI u (-100000) 200000) 1860 1000 = B at *
    rw [mulDiv_in _ _ _ (by omega) (by omega) (by omega) (by omega) (by omega) (by omega), mulDiv_in _ _ _ (by omega) (by omega) (by omega) (by omega) (by omega) (by omega)]
    exact quoI_mono _ _ _ (by omega) (Int.mul_le_mul m2 (by omega) (by omega) (by omega))
  omega
theorem entF_lim (t w : Int) (h : 200000 ≤ t) : entF t w = entF 200000 w := by
  unfold entF
  rw [show limI t (-100000) 200000 = limI 200000 (-100000) 200000 by unfold limI; omega]
/-- the least temperature, counted from the lowest one -/
def LeastT (h w : Int) (r : Nat) : Prop := r ≤ 300000 ∧ (∀ i : Nat, i < r → decide (clampI h ≤ entF (-100000 + (i : Int)) w) = false) ∧ (∀ i : Nat, r ≤ i → i < 300000 → decide (clampI h ≤ entF (-100000 + (i : Int)) w) = true)
theorem least_from (h w : Int) : ∀ (n : Nat), n ≤ 300000 → (∀ i : Nat, i < 300000 - n → decide (clampI h ≤ entF (-100000 + (i : Int)) w) = false) → ∃ r, LeastT h w r
  | 0, _, hf => ⟨300000, Nat.le_refl _, hf, fun i h1 h2 => by omega⟩
  | n + 1, hn, hf => by
    by_cases hc : clampI h ≤ entF (-100000 + ((300000 - (n + 1) : Nat) : Int)) w
    · refine ⟨300000 - (n + 1), by omega, hf, fun i h1 _ => decide_eq_true ?_⟩
      have := entF_mono (-100000 + ((300000 - (n + 1) : Nat) : Int)) (-100000 + (i : Int)) w w (by omega) (Int.le_refl _)
      omega
    · refine least_from h w n (by omega) fun i hi => ?_
      by_cases he : i = 300000 - (n + 1)
      · subst he; exact decide_eq_false hc
      · exact hf i (by omega)
theorem least_some (h w : Int) : ∃ r, LeastT h w r := least_from h w 300000 (Nat.le_refl _) fun i hi => by omega
theorem mix_range (a b f f2 : Int) (h1 : 0 ≤ f) (h2 : 0 ≤ f2) (f9 : f ≤ 1000000000) (g9 : f2 ≤ 1000000000) (a1 : -1000000 ≤ a) (a2 : a ≤ 1000000) (b1 : -1000000 ≤ b) (b2 : b ≤ 1000000) : min a b ≤ mixF a b f f2 ∧ mixF a b f f2 ≤ max a b := by
  unfold mixF
  by_cases h0 : f + f2 = 0
  · rw [if_pos h0]; omega
  · rw [if_neg h0, mulDiv_in _ _ _ (by omega) (by omega) (by omega) (by omega) (by omega) (by omega)]
    have e := quoI_exact2 (b - a) (f + f2) (by omega) (by omega) (by omega)
    have z := quoI_exact2 0 (f + f2) (by omega) (by omega) (by omega)
    rw [Int.zero_mul] at z
    rcases Int.le_total 0 (b - a) with hp | hp
    · have m1 := quoI_mono ((b - a) * f2) ((b - a) * (f + f2)) (f + f2) (by omega) (Int.mul_le_mul_of_nonneg_left (by omega) hp)
      have m2 := quoI_mono 0 ((b - a) * f2) (f + f2) (by omega) (Int.mul_nonneg hp h2)
      omega
    · have m1 := quoI_mono ((b - a) * (f + f2)) ((b - a) * f2) (f + f2) (by omega) (Int.mul_le_mul_of_nonpos_left hp (by omega))
      have m2 := quoI_mono ((b - a) * f2) 0 (f + f2) (by omega) (by have := Int.mul_nonneg (show 0 ≤ a - b by omega) h2; rw [Int.sub_mul] at *; omega)
      omega
end Go.Proofs.YtgpbcdelaipifaaDoor
