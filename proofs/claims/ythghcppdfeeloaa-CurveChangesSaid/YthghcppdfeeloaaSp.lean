/- Plain facts: a curve that is moved. No Go. -/
import Derived.Test.YthghcppdfeeloaaSd
namespace Go.Proofs.Ythghcppdfeeloaa
open Go.RowKit

def shiftK (ks : List (Int × Int)) (dx dy : Int) : List (Int × Int) := ks.map fun k => (k.1 + dx, k.2 + dy)
/-- as words are added -/
def shiftW (ks : List (Int × Int)) (dx dy : Int) : List (Int × Int) := ks.map fun k => (wrap64 (k.1 + dx), wrap64 (k.2 + dy))
def shiftE (ks : List (Int × Int)) (dx dy : Int) : Int := if checkL ks ≠ 0 then checkL ks else if fitL (shiftK ks dx dy) ks.length = true then 0 else 6
def shiftR (ks : List (Int × Int)) (dx dy : Int) : List (Int × Int) := if shiftE ks dx dy = 0 then shiftK ks dx dy else []
theorem shiftK_len (ks : List (Int × Int)) (dx dy : Int) : (shiftK ks dx dy).length = ks.length := List.length_map _
theorem shiftW_len (ks : List (Int × Int)) (dx dy : Int) : (shiftW ks dx dy).length = ks.length := List.length_map _
theorem kx_shiftK (ks : List (Int × Int)) (dx dy : Int) (i : Nat) (hi : i < ks.length) : kx (shiftK ks dx dy) i = kx ks i + dx := by
  unfold kx shiftK; simp only [List.getD, List.getElem?_map, List.getElem?_eq_getElem hi]; rfl
theorem ky_shiftK (ks : List (Int × Int)) (dx dy : Int) (i : Nat) (hi : i < ks.length) : ky (shiftK ks dx dy) i = ky ks i + dy := by
  unfold ky shiftK; simp only [List.getD, List.getElem?_map, List.getElem?_eq_getElem hi]; rfl
theorem kx_shiftW (ks : List (Int × Int)) (dx dy : Int) (i : Nat) (hi : i < ks.length) : kx (shiftW ks dx dy) i = wrap64 (kx ks i + dx) := by
  unfold kx shiftW; simp only [List.getD, List.getElem?_map, List.getElem?_eq_getElem hi]; rfl
theorem ky_shiftW (ks : List (Int × Int)) (dx dy : Int) (i : Nat) (hi : i < ks.length) : ky (shiftW ks dx dy) i = wrap64 (ky ks i + dy) := by
  unfold ky shiftW; simp only [List.getD, List.getElem?_map, List.getElem?_eq_getElem hi]; rfl
theorem knots_ext (ks ls : List (Int × Int)) (hl : ks.length = ls.length) (h : ∀ i, i < ks.length → kx ks i = kx ls i ∧ ky ks i = ky ls i) : ks = ls := by
  refine List.ext_getElem hl fun i h1 h2 => ?_
  have := h i h1
  unfold kx ky at this
  simp only [List.getD, List.getElem?_eq_getElem h1, List.getElem?_eq_getElem h2] at this
  exact Prod.ext this.1 this.2
theorem inR_wrap (a d : Int) (a1 : -1000000000000 ≤ a) (a2 : a ≤ 1000000000000) (d1 : -9223372036854775808 ≤ d) (d2 : d ≤ 9223372036854775807) : inR (wrap64 (a + d)) = inR (a + d) := by
  rw [Bool.eq_iff_iff, inR_iff, inR_iff]
  unfold wrap64
  omega
theorem inR_near (a d : Int) (a1 : -1000000000000 ≤ a) (a2 : a ≤ 1000000000000) (h : inR (a + d) = true) : (-2000000000000 ≤ d ∧ d ≤ 2000000000000) ∧ wrap64 (a + d) = a + d := by
  rw [inR_iff] at h
  unfold wrap64
  omega
theorem fitL_iff (ks : List (Int × Int)) (k : Nat) : fitL ks k = true ↔ ∀ i, i < k → (-1000000000000 ≤ kx ks i ∧ kx ks i ≤ 1000000000000) ∧ (-1000000000000 ≤ ky ks i ∧ ky ks i ≤ 1000000000000) := by
  unfold fitL
  rw [List.all_eq_true]
  constructor
  · intro h i hi
    have := h i (List.mem_range.2 hi)
    rw [Bool.and_eq_true, inR_iff, inR_iff] at this
    exact this
  · intro h i hi
    rw [Bool.and_eq_true, inR_iff, inR_iff]
    exact h i (List.mem_range.1 hi)
theorem riseL_iff (ks : List (Int × Int)) (k : Nat) : riseL ks k = true ↔ ∀ i, i < k → kx ks i < kx ks (i + 1) := by
  unfold riseL
  rw [List.all_eq_true]
  exact ⟨fun h i hi => of_decide_eq_true (h i (List.mem_range.2 hi)), fun h i hi => decide_eq_true (h i (List.mem_range.1 hi))⟩
theorem fit_shift {ks : List (Int × Int)} (he : checkL ks = 0) (dx dy : Int) (x1 : -9223372036854775808 ≤ dx) (x2 : dx ≤ 9223372036854775807) (y1 : -9223372036854775808 ≤ dy) (y2 : dy ≤ 9223372036854775807) : fitL (shiftW ks dx dy) ks.length = fitL (shiftK ks dx dy) ks.length := by
  obtain ⟨h0, h32, hf, hr⟩ := check_zero ks he
  rw [fitL_iff] at hf
  rw [Bool.eq_iff_iff, fitL_iff, fitL_iff]
  constructor <;> intro h i hi <;> have g := h i hi <;> have f := hf i hi
  · rw [kx_shiftW _ _ _ _ hi, ky_shiftW _ _ _ _ hi] at g
    rw [kx_shiftK _ _ _ _ hi, ky_shiftK _ _ _ _ hi]
    unfold wrap64 at g
    omega
  · rw [kx_shiftK _ _ _ _ hi, ky_shiftK _ _ _ _ hi] at g
    rw [kx_shiftW _ _ _ _ hi, ky_shiftW _ _ _ _ hi]
    unfold wrap64
    omega
theorem shiftW_eq {ks : List (Int × Int)} (he : checkL ks = 0) (dx dy : Int) (h : fitL (shiftK ks dx dy) ks.length = true) : shiftW ks dx dy = shiftK ks dx dy := by
  obtain ⟨h0, h32, hf, hr⟩ := check_zero ks he
  rw [fitL_iff] at hf h
  refine knots_ext _ _ (by rw [shiftW_len, shiftK_len]) fun i hi => ?_
  rw [shiftW_len] at hi
  have g := h i hi
  have f := hf i hi
  rw [kx_shiftK _ _ _ _ hi, ky_shiftK _ _ _ _ hi] at g
  rw [kx_shiftW _ _ _ _ hi, ky_shiftW _ _ _ _ hi, kx_shiftK _ _ _ _ hi, ky_shiftK _ _ _ _ hi]
  unfold wrap64
  omega
theorem check_shiftK {ks : List (Int × Int)} (he : checkL ks = 0) (dx dy : Int) (h : fitL (shiftK ks dx dy) ks.length = true) : checkL (shiftK ks dx dy) = 0 := by
  obtain ⟨h0, h32, hf, hr⟩ := check_zero ks he
  have hr2 : riseL (shiftK ks dx dy) ((shiftK ks dx dy).length - 1) = true := by
    rw [riseL_iff] at hr ⊢
    intro i hi
    rw [shiftK_len] at hi
    rw [kx_shiftK _ _ _ _ (by omega), kx_shiftK _ _ _ _ (by omega)]
    have := hr i hi
    omega
  unfold checkL
  rw [if_neg (by rw [shiftK_len]; omega), shiftK_len, if_neg (by rw [h]; simp)]
  rw [shiftK_len] at hr2
  rw [if_neg (by rw [hr2]; simp)]
theorem check_shiftW {ks : List (Int × Int)} (he : checkL ks = 0) (dx dy : Int) (x1 : -9223372036854775808 ≤ dx) (x2 : dx ≤ 9223372036854775807) (y1 : -9223372036854775808 ≤ dy) (y2 : dy ≤ 9223372036854775807) : checkL (shiftW ks dx dy) = if fitL (shiftK ks dx dy) ks.length = true then 0 else 6 := by
  by_cases h : fitL (shiftK ks dx dy) ks.length = true
  · rw [if_pos h, shiftW_eq he dx dy h, check_shiftK he dx dy h]
  · rw [if_neg h]
    obtain ⟨h0, h32, hf, hr⟩ := check_zero ks he
    have h2 := fit_shift he dx dy x1 x2 y1 y2
    unfold checkL
    rw [if_neg (by rw [shiftW_len]; omega), shiftW_len, if_pos (by rw [h2]; simpa using h)]
theorem shift_near {ks : List (Int × Int)} (he : checkL ks = 0) (dx dy : Int) (h : fitL (shiftK ks dx dy) ks.length = true) : (-2000000000000 ≤ dx ∧ dx ≤ 2000000000000) ∧ (-2000000000000 ≤ dy ∧ dy ≤ 2000000000000) := by
  obtain ⟨h0, h32, hf, hr⟩ := check_zero ks he
  rw [fitL_iff] at hf h
  have g := h 0 h0
  have f := hf 0 h0
  rw [kx_shiftK _ _ _ _ h0, ky_shiftK _ _ _ _ h0] at g
  omega
theorem shift_back (ks : List (Int × Int)) (dx dy : Int) : shiftK (shiftK ks dx dy) (-dx) (-dy) = ks := by
  refine knots_ext _ _ (by rw [shiftK_len, shiftK_len]) fun i hi => ?_
  rw [shiftK_len, shiftK_len] at hi
  rw [kx_shiftK _ _ _ _ (by rw [shiftK_len]; exact hi), ky_shiftK _ _ _ _ (by rw [shiftK_len]; exact hi), kx_shiftK _ _ _ _ hi, ky_shiftK _ _ _ _ hi]
  omega
theorem shiftE_back {ks : List (Int × Int)} (he : checkL ks = 0) (dx dy : Int) (h : fitL (shiftK ks dx dy) ks.length = true) : shiftE (shiftK ks dx dy) (-dx) (-dy) = 0 := by
  unfold shiftE
  rw [check_shiftK he dx dy h, if_neg (by omega), shift_back, shiftK_len, if_pos (check_zero ks he).2.2.1]
theorem shiftE_flat {ks : List (Int × Int)} (he : checkL ks = 0) (dx dy : Int) (h : fitL (shiftK ks dx dy) ks.length = true) : fitL (shiftK ks dx 0) ks.length = true := by
  have hf := (check_zero ks he).2.2.1
  rw [fitL_iff] at hf h ⊢
  intro i hi
  have g := h i hi
  have f := hf i hi
  rw [kx_shiftK _ _ _ _ hi, ky_shiftK _ _ _ _ hi] at g ⊢
  omega
theorem behind_shift {ks : List (Int × Int)} (he : checkL ks = 0) (dx dy x : Int) (h : checkL (shiftK ks dx dy) = 0) : behind (shiftK ks dx dy) (x + dx) = behind ks x := by
  obtain ⟨h0, h32, hf, hr⟩ := check_zero ks he
  obtain ⟨g0, g32, gf, gr⟩ := check_zero _ h
  obtain ⟨b1, b2, b3⟩ := behind_facts ks x hr
  refine behind_eq _ _ gr _ (by rw [shiftK_len]; exact b1) (fun hp => ?_) (fun hl => ?_)
  · rw [kx_shiftK _ _ _ _ (by omega)]
    have := of_decide_eq_false (b2 (behind ks x - 1) (by omega))
    omega
  · rw [shiftK_len] at hl
    rw [kx_shiftK _ _ _ _ hl]
    have := of_decide_eq_true (b3 (behind ks x) (Nat.le_refl _) hl)
    omega
theorem lineI_shift (x d x1 y1 x2 y2 : Int) (h1 : clampI x1 = x1) (h2 : clampI x2 = x2) (g1 : clampI (x1 + d) = x1 + d) (g2 : clampI (x2 + d) = x2 + d) (h : x1 < x2) : lineI (x + d) (x1 + d) y1 (x2 + d) y2 = lineI x x1 y1 x2 y2 := by
  have c1 := clampI_range x1
  have c2 := clampI_range x2
  have c3 := clampI_range (x1 + d)
  have c4 := clampI_range (x2 + d)
  have e1 : min (max (clampI x) x1) x2 = min (max x x1) x2 := by unfold clampI; omega
  have e2 : min (max (clampI (x + d)) (x1 + d)) (x2 + d) = min (max x x1) x2 + d := by unfold clampI; omega
  unfold lineI
  rw [h1, h2, g1, g2, if_neg (by omega), if_neg (by omega), e1, e2]
  have e3 : x2 + d - (min (max x x1) x2 + d) = x2 - min (max x x1) x2 := by omega
  have e4 : min (max x x1) x2 + d - (x1 + d) = min (max x x1) x2 - x1 := by omega
  have e5 : x2 + d - (x1 + d) = x2 - x1 := by omega
  rw [e3, e4, e5]
theorem val_shift {ks : List (Int × Int)} (he : checkL ks = 0) (dx x : Int) (h : checkL (shiftK ks dx 0) = 0) : valI (shiftK ks dx 0) (x + dx) = valI ks x := by
  obtain ⟨h0, h32, hf, hr⟩ := check_zero ks he
  obtain ⟨g0, g32, gf, gr⟩ := check_zero _ h
  obtain ⟨b1, b2, b3⟩ := behind_facts ks x hr
  have hb := behind_shift he dx 0 x h
  unfold valI
  rw [hb, shiftK_len]
  obtain ⟨i, hi⟩ : ∃ i, i = behind ks x - 1 := ⟨_, rfl⟩
  obtain ⟨j, hj⟩ : ∃ j, j = min (behind ks x) (ks.length - 1) := ⟨_, rfl⟩
  rw [← hi, ← hj, kx_shiftK _ _ _ _ (by omega), ky_shiftK _ _ _ _ (by omega), kx_shiftK _ _ _ _ (by omega), ky_shiftK _ _ _ _ (by omega), Int.add_zero, Int.add_zero]
  by_cases hij : i = j
  · rw [hij, lineI_one, lineI_one]
  · have f1 := (fit_at ks hf i (by omega)).1
    have f2 := (fit_at ks hf j (by omega)).1
    have e1 := (fit_at _ gf i (by rw [shiftK_len]; omega)).1
    have e2 := (fit_at _ gf j (by rw [shiftK_len]; omega)).1
    rw [kx_shiftK _ _ _ _ (by omega)] at e1 e2
    exact lineI_shift x dx _ _ _ _ f1 f2 e1 e2 (rise_lt ks hr i j (by omega) (by omega))
theorem dir_shift (ks : List (Int × Int)) (dx dy : Int) : dirI (shiftK ks dx dy) = dirI ks := by
  have e1 : upL (shiftK ks dx dy) (ks.length - 1) = upL ks (ks.length - 1) := by
    rw [Bool.eq_iff_iff, upL_iff, upL_iff]
    constructor <;> rintro ⟨j, hj, hlt⟩ <;> refine ⟨j, hj, ?_⟩
    · rw [ky_shiftK _ _ _ _ (by omega), ky_shiftK _ _ _ _ (by omega)] at hlt; omega
    · rw [ky_shiftK _ _ _ _ (by omega), ky_shiftK _ _ _ _ (by omega)]; omega
  have e2 : dnL (shiftK ks dx dy) (ks.length - 1) = dnL ks (ks.length - 1) := by
    unfold dnL
    rw [Bool.eq_iff_iff, List.any_eq_true, List.any_eq_true]
    constructor <;> rintro ⟨j, hj, hlt⟩ <;> refine ⟨j, hj, ?_⟩ <;> have hj' := List.mem_range.1 hj <;> rw [decide_eq_true_eq] at hlt ⊢
    · rw [ky_shiftK _ _ _ _ (by omega), ky_shiftK _ _ _ _ (by omega)] at hlt; omega
    · rw [ky_shiftK _ _ _ _ (by omega), ky_shiftK _ _ _ _ (by omega)]; omega
  unfold dirI
  rw [shiftK_len, e1, e2]
theorem area_shift (ks : List (Int × Int)) (dx : Int) : ∀ k, k < ks.length → areaI (shiftK ks dx 0) k = areaI ks k
  | 0, _ => rfl
  | k + 1, hk => by
    have ih := area_shift ks dx k (by omega)
    have e : ∀ l, areaI l (k + 1) = areaI l k + (kx l (k + 1) - kx l k) * (ky l k + ky l (k + 1)) := fun _ => rfl
    rw [e, e, ih, kx_shiftK _ _ _ _ hk, kx_shiftK _ _ _ _ (by omega), ky_shiftK _ _ _ _ hk, ky_shiftK _ _ _ _ (by omega), Int.add_zero, Int.add_zero, show kx ks (k + 1) + dx - (kx ks k + dx) = kx ks (k + 1) - kx ks k by omega]
end Go.Proofs.Ythghcppdfeeloaa
