/- Plain facts: a knot that can be left out changes no value and no direction; Simplify neither; its knots are knots of the curve. No Go. -/
import Derived.Test.YthghcppdfeeloaaBt
import Derived.Test.YthghcppdfeeloaaSm
namespace Go.Proofs.Ythghcppdfeeloaa
open Go.RowKit

theorem divU_two (n d : Nat) (hd : 0 < d) : divU n d = if n / d ≥ 1000000000000 then 1000000000000 else if n % d ≥ d - n % d then ((n / d : Nat) : Int) + 1 else ((n / d : Nat) : Int) := by
  unfold divU
  by_cases h : n / 18446744073709551616 ≥ d
  · rw [if_pos h]
    have : n / d ≥ 18446744073709551616 := by
      rw [ge_iff_le, Nat.le_div_iff_mul_le hd]
      have h2 := (Nat.le_div_iff_mul_le (by decide)).1 h
      rw [Nat.mul_comm]; exact h2
    rw [if_pos (by omega)]
  · rw [if_neg h]
theorem divU_scale (n d k : Nat) (hd : 0 < d) (hk : 0 < k) : divU (n * k) (d * k) = divU n d := by
  rw [divU_two _ _ (Nat.mul_pos hd hk), divU_two _ _ hd, Nat.mul_div_mul_right _ _ hk, Nat.mul_mod_mul_right]
  have hm := Nat.mod_lt n hd
  have e : (n % d * k ≥ d * k - n % d * k) = (n % d ≥ d - n % d) := by
    rw [← Nat.sub_mul, ge_iff_le, ge_iff_le, eq_iff_iff]
    exact Nat.mul_le_mul_right_iff hk
  simp only [e]
theorem divU_same (n d n' d' : Nat) (hd : 0 < d) (hd' : 0 < d') (h : n * d' = n' * d) : divU n d = divU n' d' := by
  rw [← divU_scale n d d' hd hd', ← divU_scale n' d' d hd' hd, h, Nat.mul_comm d' d]
theorem quoI_same (p d p' d' : Int) (hd : 0 < d) (hd' : 0 < d') (h : p * d' = p' * d) : quoI p d = quoI p' d' := by
  have hn : p.natAbs * d'.natAbs = p'.natAbs * d.natAbs := by rw [← Int.natAbs_mul, h, Int.natAbs_mul]
  have hu := divU_same p.natAbs d.natAbs p'.natAbs d'.natAbs (by omega) (by omega) hn
  rcases Int.lt_trichotomy p 0 with hp | hp | hp
  · have hp' : p' < 0 := by
      rcases Int.lt_or_le p' 0 with h1 | h1
      · exact h1
      · have := Int.mul_neg_of_neg_of_pos hp hd'
        have := Int.mul_nonneg h1 (Int.le_of_lt hd)
        omega
    rw [quoI_neg2 p d hd (by omega), quoI_neg2 p' d' hd' (by omega), hu]
  · have hp' : p' = 0 := by
      subst hp
      rw [Int.zero_mul] at h
      rcases Int.mul_eq_zero.1 h.symm with h1 | h1
      · exact h1
      · omega
    subst hp; subst hp'
    rw [quoI_pos 0 d hd (by omega), quoI_pos 0 d' hd' (by omega), hu]
  · have hp' : 0 < p' := by
      rcases Int.lt_or_le 0 p' with h1 | h1
      · exact h1
      · have := Int.mul_pos hp hd'
        have := Int.mul_nonneg (show 0 ≤ -p' by omega) (Int.le_of_lt hd)
        rw [Int.neg_mul] at this
        omega
    rw [quoI_pos p d hd (by omega), quoI_pos p' d' hd' (by omega), hu]

theorem straight_left (x1 y1 xb yb x2 y2 s : Int) (h : (yb - y1) * (x2 - xb) = (y2 - yb) * (xb - x1)) :
    (y1 * (xb - s) + yb * (s - x1)) * (x2 - x1) = (y1 * (x2 - s) + y2 * (s - x1)) * (xb - x1) := by
  grind
theorem straight_right (x1 y1 xb yb x2 y2 s : Int) (h : (yb - y1) * (x2 - xb) = (y2 - yb) * (xb - x1)) :
    (yb * (x2 - s) + y2 * (s - xb)) * (x2 - x1) = (y1 * (x2 - s) + y2 * (s - x1)) * (x2 - xb) := by
  grind
theorem lineI_in (x x1 y1 x2 y2 : Int) (h1 : clampI x1 = x1) (h2 : clampI y1 = y1) (h3 : clampI x2 = x2) (h4 : clampI y2 = y2) (h : x1 < x2) (ha : x1 ≤ x) (hb : x ≤ x2) : lineI x x1 y1 x2 y2 = quoI (y1 * (x2 - x) + y2 * (x - x1)) (x2 - x1) := by
  have hx : clampI x = x := by
    have := clampI_range x1; have := clampI_range x2
    exact clampI_in x (by omega) (by omega)
  unfold lineI
  rw [h1, h2, h3, h4, hx, if_neg (by omega), show min (max x x1) x2 = x by omega]

theorem line_flat (x x1 y1 x2 y2 : Int) (h1 : clampI x1 = x1) (h2 : clampI y1 = y1) (h3 : clampI x2 = x2) (h : x1 < x2) (hy : y1 = y2) : lineI x x1 y1 x2 y2 = y1 := by
  subst hy
  have := lineI_between x x1 y1 x2 y1 (by omega) (Int.le_refl _)
  omega

theorem check_erase {ks : List (Int × Int)} {i : Nat} (he : checkL ks = 0) (hi : i < ks.length) (h2 : 1 < ks.length) : checkL (ks.eraseIdx i) = 0 := by
  obtain ⟨h0, h32, hf, hr⟩ := check_zero ks he
  have hl := len_erase hi
  have hf2 := fit_erase hf i hi
  have hr2 : riseL (ks.eraseIdx i) ((ks.eraseIdx i).length - 1) = true := by
    unfold riseL
    rw [List.all_eq_true]
    intro j hj
    have hj := List.mem_range.1 hj
    rw [hl] at hj
    rw [decide_eq_true_eq, kx_erase, kx_erase]
    split
    · split
      · exact rise_lt ks hr _ _ (by omega) (by omega)
      · exact rise_lt ks hr _ _ (by omega) (by omega)
    · split
      · omega
      · exact rise_lt ks hr _ _ (by omega) (by omega)
  unfold checkL
  rw [if_neg (by omega), if_neg (by rw [hf2]; simp), if_neg (by rw [hr2]; simp)]

theorem need_cases {ks : List (Int × Int)} {i : Nat} (h : needB ks i = true) (hi : i < ks.length) : 1 < ks.length ∧ ((i = 0 ∧ ky ks 0 = ky ks 1) ∨ (0 < i ∧ i = ks.length - 1 ∧ ky ks (i - 1) = ky ks i) ∨ (0 < i ∧ i + 1 < ks.length ∧ (ky ks i - ky ks (i - 1)) * (kx ks (i + 1) - kx ks i) = (ky ks (i + 1) - ky ks i) * (kx ks i - kx ks (i - 1)))) := by
  unfold needB at h
  by_cases h1 : ks.length = 1
  · rw [if_pos h1] at h; cases h
  · rw [if_neg h1] at h
    refine ⟨by omega, ?_⟩
    by_cases h2 : i = 0
    · rw [if_pos h2] at h
      exact .inl ⟨h2, by simpa using h⟩
    · rw [if_neg h2] at h
      by_cases h3 : i = ks.length - 1
      · rw [if_pos h3] at h
        refine .inr (.inl ⟨by omega, h3, ?_⟩)
        have := (by simpa using h : ky ks (ks.length - 1 - 1) = ky ks (ks.length - 1))
        rw [h3]; exact this
      · rw [if_neg h3] at h
        unfold lineB at h
        exact .inr (.inr ⟨by omega, by omega, of_decide_eq_true h⟩)

theorem val_erase {ks : List (Int × Int)} {i : Nat} (he : checkL ks = 0) (hi : i < ks.length) (hn : needB ks i = true) (x : Int) : valI (ks.eraseIdx i) x = valI ks x := by
  obtain ⟨h2, hc⟩ := need_cases hn hi
  obtain ⟨h0, h32, hf, hr⟩ := check_zero ks he
  have he' := check_erase he hi h2
  have hl := len_erase hi
  have X := fun j => kx_erase ks i j
  have Y := fun j => ky_erase ks i j
  have hx0 := X 0
  have hy0 := Y 0
  have hxl := X ((ks.eraseIdx i).length - 1)
  have hyl := Y ((ks.eraseIdx i).length - 1)
  rw [hl] at hxl hyl
  by_cases c1 : x ≤ kx (ks.eraseIdx i) 0
  · rw [val_first _ _ he' c1, hy0]
    rw [hx0] at c1
    by_cases hi0 : i = 0
    · subst hi0
      rw [if_neg (by omega)] at c1 ⊢
      have hyy : ky ks 0 = ky ks 1 := by rcases hc with h | h | h <;> omega
      by_cases c2 : x ≤ kx ks 0
      · rw [val_first _ _ he c2, hyy]
      · rw [val_seg ks x 0 he (by omega) (by omega) c1, line_flat _ _ _ _ _ (fit_at ks hf 0 h0).1 (fit_at ks hf 0 h0).2 (fit_at ks hf 1 h2).1 (rise_lt ks hr 0 1 (by omega) h2) hyy, hyy]
    · rw [if_pos (by omega)] at c1 ⊢
      rw [val_first _ _ he c1]
  · by_cases c2 : kx (ks.eraseIdx i) ((ks.eraseIdx i).length - 1) ≤ x
    · rw [val_last _ _ he' c2, hl, hyl]
      rw [hl, hxl] at c2
      by_cases hi1 : i = ks.length - 1
      · rw [if_pos (by omega)] at c2 ⊢
        have hyy : ky ks (i - 1) = ky ks i := by rcases hc with h | h | h <;> omega
        by_cases c3 : kx ks (ks.length - 1) ≤ x
        · rw [val_last _ _ he c3, show ks.length - 1 - 1 = i - 1 by omega, hyy, hi1]
        · obtain ⟨m, hm⟩ : ∃ m, i = m + 1 := ⟨i - 1, by omega⟩
          subst hm
          rw [show m + 1 - 1 = m from rfl] at hyy
          rw [show ks.length - 1 - 1 = m by omega] at c2 ⊢
          rw [← hi1] at c3
          rw [val_seg ks x m he (by omega) c2 (by omega), line_flat _ _ _ _ _ (fit_at ks hf m (by omega)).1 (fit_at ks hf m (by omega)).2 (fit_at ks hf (m + 1) (by omega)).1 (rise_lt ks hr m (m + 1) (by omega) (by omega)) hyy]
      · rw [if_neg (by omega)] at c2 ⊢
        rw [show ks.length - 1 - 1 + 1 = ks.length - 1 by omega] at c2 ⊢
        rw [val_last _ _ he c2]
    · obtain ⟨j, hj1, hj2, hj3⟩ := seg_of _ x he' (by omega) (by omega)
      rw [val_mid _ x j he' hj1 hj2 hj3]
      rw [X, Y, X, Y]
      rw [X] at hj2 hj3
      rw [hl] at hj1
      by_cases d1 : j + 1 < i
      · rw [if_pos (by omega), if_pos (by omega), if_pos d1, if_pos d1]
        rw [if_pos (by omega)] at hj2
        rw [if_pos d1] at hj3
        rw [val_mid ks x j he (by omega) hj2 hj3]
      · rw [if_neg d1] at hj3
        by_cases d2 : j < i
        · -- the piece around the knot that is left out
          rw [if_pos d2, if_pos d2, if_neg d1, if_neg d1]
          rw [if_pos d2] at hj2
          obtain rfl : i = j + 1 := by omega
          have hs : (ky ks (j + 1) - ky ks j) * (kx ks (j + 1 + 1) - kx ks (j + 1)) = (ky ks (j + 1 + 1) - ky ks (j + 1)) * (kx ks (j + 1) - kx ks j) := by
            rcases hc with h | h | h
            · omega
            · omega
            · exact h.2.2
          obtain ⟨a1, a2⟩ := fit_at ks hf j (by omega)
          obtain ⟨b1, b2⟩ := fit_at ks hf (j + 1) (by omega)
          obtain ⟨e1, e2⟩ := fit_at ks hf (j + 1 + 1) (by omega)
          have r1 := rise_lt ks hr j (j + 1) (by omega) (by omega)
          have r2 := rise_lt ks hr (j + 1) (j + 1 + 1) (by omega) (by omega)
          rw [lineI_in x _ _ _ _ a1 a2 e1 e2 (by omega) hj2 (by omega)]
          by_cases d3 : x ≤ kx ks (j + 1)
          · rw [val_seg ks x j he (by omega) hj2 d3, lineI_in x _ _ _ _ a1 a2 b1 b2 r1 hj2 d3]
            exact (quoI_same _ _ _ _ (by omega) (by omega) (straight_left _ _ _ _ _ _ _ hs)).symm
          · rw [val_seg ks x (j + 1) he (by omega) (by omega) (by omega), lineI_in x _ _ _ _ b1 b2 e1 e2 r2 (by omega) (by omega)]
            exact (quoI_same _ _ _ _ (by omega) (by omega) (straight_right _ _ _ _ _ _ _ hs)).symm
        · rw [if_neg d2, if_neg d2, if_neg d1, if_neg d1]
          rw [if_neg d2] at hj2
          rw [val_mid ks x (j + 1) he (by omega) hj2 hj3]

theorem upL_iff (ks : List (Int × Int)) (k : Nat) : upL ks k = true ↔ ∃ j, j < k ∧ ky ks j < ky ks (j + 1) := by
  unfold upL
  rw [List.any_eq_true]
  exact ⟨fun ⟨j, h1, h2⟩ => ⟨j, List.mem_range.1 h1, of_decide_eq_true h2⟩, fun ⟨j, h1, h2⟩ => ⟨j, List.mem_range.2 h1, decide_eq_true h2⟩⟩
theorem up_erase {ks : List (Int × Int)} {i : Nat} (he : checkL ks = 0) (hi : i < ks.length) (hn : needB ks i = true) : upL (ks.eraseIdx i) ((ks.eraseIdx i).length - 1) = upL ks (ks.length - 1) := by
  obtain ⟨h2, hc⟩ := need_cases hn hi
  obtain ⟨h0, h32, hf, hr⟩ := check_zero ks he
  have hl := len_erase hi
  have Y := fun j => ky_erase ks i j
  rw [Bool.eq_iff_iff, upL_iff, upL_iff, hl]
  have hm : 0 < i → i + 1 < ks.length → ((ky ks (i - 1) < ky ks i ↔ ky ks (i - 1) < ky ks (i + 1)) ∧ (ky ks i < ky ks (i + 1) ↔ ky ks (i - 1) < ky ks (i + 1))) := by
    intro p1 p2
    have hs : (ky ks i - ky ks (i - 1)) * (kx ks (i + 1) - kx ks i) = (ky ks (i + 1) - ky ks i) * (kx ks i - kx ks (i - 1)) := by
      rcases hc with h | h | h
      · omega
      · omega
      · exact h.2.2
    have r1 := rise_lt ks hr (i - 1) i (by omega) (by omega)
    have r2 := rise_lt ks hr i (i + 1) (by omega) (by omega)
    have key : 0 < ky ks i - ky ks (i - 1) ↔ 0 < ky ks (i + 1) - ky ks i := by
      constructor
      · intro h
        have := Int.mul_pos h (show 0 < kx ks (i + 1) - kx ks i by omega)
        rw [hs] at this
        exact Int.pos_of_mul_pos_left this (by omega)
      · intro h
        have := Int.mul_pos h (show 0 < kx ks i - kx ks (i - 1) by omega)
        rw [← hs] at this
        exact Int.pos_of_mul_pos_left this (by omega)
    omega
  constructor
  · rintro ⟨j, hj, hlt⟩
    rw [Y, Y] at hlt
    by_cases d1 : j + 1 < i
    · rw [if_pos (by omega), if_pos d1] at hlt
      exact ⟨j, by omega, hlt⟩
    · by_cases d2 : j < i
      · rw [if_pos d2, if_neg d1] at hlt
        obtain rfl : i = j + 1 := by omega
        exact ⟨j, by omega, (hm (by omega) (by omega)).1.2 hlt⟩
      · rw [if_neg d2, if_neg d1] at hlt
        exact ⟨j + 1, by omega, hlt⟩
  · rintro ⟨j, hj, hlt⟩
    by_cases d1 : j + 1 < i
    · exact ⟨j, by omega, by rw [Y, Y, if_pos (by omega), if_pos d1]; exact hlt⟩
    · by_cases d2 : i < j
      · obtain ⟨m, rfl⟩ : ∃ m, j = m + 1 := ⟨j - 1, by omega⟩
        exact ⟨m, by omega, by rw [Y, Y, if_neg (by omega), if_neg (by omega)]; exact hlt⟩
      · by_cases hi0 : i = 0
        · subst hi0
          obtain rfl : j = 0 := by omega
          have hyy : ky ks 0 = ky ks 1 := by rcases hc with h | h | h <;> omega
          have hlt : ky ks 0 < ky ks 1 := hlt
          omega
        · by_cases hil : i = ks.length - 1
          · have hyy : ky ks (i - 1) = ky ks i := by rcases hc with h | h | h <;> omega
            obtain rfl : i = j + 1 := by omega
            rw [show j + 1 - 1 = j from rfl] at hyy
            omega
          · have hm' := hm (by omega) (by omega)
            refine ⟨i - 1, by omega, ?_⟩
            rw [Y, Y, if_pos (by omega), if_neg (by omega), show i - 1 + 1 + 1 = i + 1 by omega]
            by_cases d3 : j = i
            · subst d3; exact hm'.2.1 hlt
            · obtain rfl : i = j + 1 := by omega
              exact hm'.1.1 hlt
theorem negK_erase (ks : List (Int × Int)) (i : Nat) : negK (ks.eraseIdx i) = (negK ks).eraseIdx i := by
  induction ks generalizing i with
  | nil => rfl
  | cons k ks ih =>
    cases i with
    | zero => rfl
    | succ i => show _ :: negK (ks.eraseIdx i) = _ :: (negK ks).eraseIdx i; rw [ih]
theorem need_negK {ks : List (Int × Int)} {i : Nat} (h : needB ks i = true) : needB (negK ks) i = true := by
  unfold needB at h ⊢
  unfold lineB at h ⊢
  simp only [negK_len, kx_negK, ky_negK]
  split at h
  · cases h
  · rename_i h1
    rw [if_neg h1]
    split at h
    · rename_i h2
      rw [if_pos h2]
      have := (by simpa using h : ky ks 0 = ky ks 1)
      simp [this]
    · rename_i h2
      rw [if_neg h2]
      split at h
      · rename_i h3
        rw [if_pos h3]
        have := (by simpa using h : ky ks (ks.length - 1 - 1) = ky ks (ks.length - 1))
        simp [this]
      · rename_i h3
        rw [if_neg h3, decide_eq_true_eq]
        have := of_decide_eq_true h
        grind
theorem dir_erase {ks : List (Int × Int)} {i : Nat} (he : checkL ks = 0) (hi : i < ks.length) (hn : needB ks i = true) : dirI (ks.eraseIdx i) = dirI ks := by
  have h1 := up_erase he hi hn
  have h2 := @up_erase (negK ks) i ((checkL_negK ks).trans he) (by rw [negK_len]; exact hi) (need_negK hn)
  rw [← negK_erase, negK_len, negK_len] at h2
  have e : ∀ (l : List (Int × Int)) k, upL (negK l) k = dnL l k := fun l k => by
    unfold upL dnL
    simp only [ky_negK]
    congr 1
    funext j
    rw [decide_eq_decide]; omega
  rw [e, e] at h2
  unfold dirI
  rw [h1, h2]

/-- what Simplify keeps -/
def GoodS (ks ls : List (Int × Int)) : Prop := checkL ls = 0 ∧ (∀ x, valI ls x = valI ks x) ∧ dirI ls = dirI ks ∧ ls.Sublist ks ∧ firstN ls = none
theorem firstN_need {ks : List (Int × Int)} {i : Nat} (h : firstN ks = some i) : needB ks i = true := by
  unfold firstN at h
  exact List.find?_some h
theorem simp_good : ∀ (n : Nat) (ks : List (Int × Int)), ks.length = n → checkL ks = 0 → GoodS ks (simpL ks)
  | 0, ks, hn, he => by
    have := (check_zero ks he).1; omega
  | n + 1, ks, hn, he => by
    cases hf : firstN ks with
    | none => rw [simpL_none hf]; exact ⟨he, fun _ => rfl, rfl, List.Sublist.refl _, hf⟩
    | some i =>
      have hi := firstN_lt hf
      have h2 := firstN_two hf
      have hnd := firstN_need hf
      rw [simpL_some hf]
      obtain ⟨g1, g2, g3, g4, g5⟩ := simp_good n (ks.eraseIdx i) (by rw [len_erase hi]; omega) (check_erase he hi h2)
      exact ⟨g1, fun x => (g2 x).trans (val_erase he hi hnd x), g3.trans (dir_erase he hi hnd), g4.trans (List.eraseIdx_sublist _ _), g5⟩
end Go.Proofs.Ythghcppdfeeloaa
