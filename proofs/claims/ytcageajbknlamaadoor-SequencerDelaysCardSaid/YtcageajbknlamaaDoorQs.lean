/- Plain facts of the law Delays: how long a demand has been high when a stage comes. -/
import Derived.Test.YtcageajbknlamaaDoorQr
namespace Go.Proofs.YtcageajbknlamaaDoor
open Go.RowKit Go.Shelf

theorem stage_up (L up dn ud dd d dt P T : Int) (h : (stageS L up dn ud dd d dt P T).1 = P + 1) : up < d ∧ ud ≤ max T 0 + dt := by
  unfold stageS at h
  split at h
  · rename_i hc
    split at h
    · rename_i h2; exact ⟨hc.1, h2⟩
    · dsimp only at h; omega
  · split at h
    · split at h <;> (dsimp only at h; omega)
    · dsimp only at h; omega
theorem stage_down (L up dn ud dd d dt P T : Int) (h : (stageS L up dn ud dd d dt P T).1 = P - 1) : d < dn ∧ dd ≤ -(min T 0 - dt) := by
  unfold stageS at h
  split at h
  · split at h <;> (dsimp only at h; omega)
  · split at h
    · rename_i hc
      split at h
      · rename_i h2; exact ⟨hc.1, h2⟩
      · dsimp only at h; omega
    · dsimp only at h; omega
theorem stage_one (L up dn ud dd d dt P T : Int) : (stageS L up dn ud dd d dt P T).1 = P ∨ (stageS L up dn ud dd d dt P T).1 = P + 1 ∨ (stageS L up dn ud dd d dt P T).1 = P - 1 := by
  unfold stageS
  (repeat' split) <;> simp
theorem stage_time (L up dn ud dd d dt P T : Int) : (stageS L up dn ud dd d dt P T).2 = 0 ∨ (up < d ∧ (stageS L up dn ud dd d dt P T).2 = max T 0 + dt) ∨ (d < dn ∧ (stageS L up dn ud dd d dt P T).2 = min T 0 - dt) := by
  unfold stageS
  split
  · rename_i hc
    split
    · exact .inl rfl
    · exact .inr (.inl ⟨hc.1, rfl⟩)
  · split
    · rename_i hc
      split
      · exact .inl rfl
      · exact .inr (.inr ⟨hc.1, rfl⟩)
    · exact .inl rfl
/-- the time stands for so many steps on end, high or low -/
def HighI (up dn dt : Int) (ds : List Int) (i : Nat) (T : Int) : Prop := ∃ m : Int, T = m * dt ∧ ∀ k : Nat, k < i → ((i : Int) - k ≤ m → up < ds.getD k 0) ∧ ((i : Int) - k ≤ -m → ds.getD k 0 < dn)
theorem max_mul (m dt : Int) (h : 0 < dt) : max (m * dt) 0 = max m 0 * dt := by
  by_cases hm : 0 ≤ m
  · rw [Int.max_eq_left hm, Int.max_eq_left (Int.mul_nonneg hm (by omega))]
  · rw [Int.max_eq_right (by omega : m ≤ 0), Int.max_eq_right (Int.mul_nonpos_of_nonpos_of_nonneg (by omega) (by omega)), Int.zero_mul]
theorem min_mul (m dt : Int) (h : 0 < dt) : min (m * dt) 0 = min m 0 * dt := by
  by_cases hm : 0 ≤ m
  · rw [Int.min_eq_right hm, Int.min_eq_right (Int.mul_nonneg hm (by omega)), Int.zero_mul]
  · rw [Int.min_eq_left (by omega : m ≤ 0), Int.min_eq_left (Int.mul_nonpos_of_nonpos_of_nonneg (by omega) (by omega))]
theorem high_next (L up dn ud dd dt : Int) (ds : List Int) (i : Nat) (P T : Int) (hdt : 0 < dt) (h : HighI up dn dt ds i T) : HighI up dn dt ds (i + 1) (stageS L up dn ud dd (ds.getD i 0) dt P T).2 := by
  obtain ⟨m, hm, hk⟩ := h
  rcases stage_time L up dn ud dd (ds.getD i 0) dt P T with e | ⟨hd, e⟩ | ⟨hd, e⟩
  · exact ⟨0, by rw [e, Int.zero_mul], fun k hlt => ⟨fun h => by omega, fun h => by omega⟩⟩
  · refine ⟨max m 0 + 1, by rw [e, hm, max_mul m dt hdt, Int.add_mul, Int.one_mul], fun k hlt => ⟨fun h => ?_, fun h => by omega⟩⟩
    by_cases hki : k = i
    · subst hki; exact hd
    · exact (hk k (by omega)).1 (by omega)
  · refine ⟨min m 0 - 1, by rw [e, hm, min_mul m dt hdt, Int.sub_mul, Int.one_mul], fun k hlt => ⟨fun h => by omega, fun h => ?_⟩⟩
    by_cases hki : k = i
    · subst hki; exact hd
    · exact (hk k (by omega)).2 (by omega)
theorem high_run (L up dn ud dd dt : Int) (ds : List Int) (P T : Int) (hdt : 0 < dt) (h0 : T = 0) : ∀ i, HighI up dn dt ds i (runS L up dn ud dd dt ds P T i).2
  | 0 => ⟨0, by rw [Int.zero_mul]; exact h0, fun k hk => by omega⟩
  | i + 1 => high_next L up dn ud dd dt ds i _ _ hdt (high_run L up dn ud dd dt ds P T hdt h0 i)
theorem delay_up (L up dn ud dd dt : Int) (ds : List Int) (P : Int) (i k : Nat) (hdt : 0 < dt) (hki : k ≤ i) (hmv : (runS L up dn ud dd dt ds P 0 (i + 1)).1 = (runS L up dn ud dd dt ds P 0 i).1 + 1) (hs : k = i ∨ ((i : Int) - k) * dt < ud) : up < ds.getD k 0 := by
  obtain ⟨h1, h2⟩ := stage_up L up dn ud dd (ds.getD i 0) dt _ _ hmv
  by_cases hk : k = i
  · subst hk; exact h1
  · obtain ⟨m, hm, hh⟩ := high_run L up dn ud dd dt ds P 0 hdt rfl i
    rw [hm, max_mul m dt hdt] at h2
    have h3 : ((i : Int) - k) * dt < (max m 0 + 1) * dt := by rw [Int.add_mul, Int.one_mul]; rcases hs with h | h <;> omega
    have h4 : (i : Int) - k < max m 0 + 1 := Int.lt_of_mul_lt_mul_right h3 (by omega)
    exact (hh k (by omega)).1 (by omega)
theorem delay_down (L up dn ud dd dt : Int) (ds : List Int) (P : Int) (i k : Nat) (hdt : 0 < dt) (hki : k ≤ i) (hmv : (runS L up dn ud dd dt ds P 0 (i + 1)).1 = (runS L up dn ud dd dt ds P 0 i).1 - 1) (hs : k = i ∨ ((i : Int) - k) * dt < dd) : ds.getD k 0 < dn := by
  obtain ⟨h1, h2⟩ := stage_down L up dn ud dd (ds.getD i 0) dt _ _ hmv
  by_cases hk : k = i
  · subst hk; exact h1
  · obtain ⟨m, hm, hh⟩ := high_run L up dn ud dd dt ds P 0 hdt rfl i
    rw [hm, min_mul m dt hdt] at h2
    have h3 : ((i : Int) - k) * dt < (max (-m) 0 + 1) * dt := by
      have h5 : -(min m 0 * dt - dt) = (max (-m) 0 + 1) * dt := by
        rw [show max (-m) 0 = -(min m 0) by omega, Int.add_mul, Int.one_mul, Int.neg_mul]; omega
      rcases hs with h | h
      · exact absurd h hk
      · rw [← h5]; omega
    have h4 : (i : Int) - k < max (-m) 0 + 1 := Int.lt_of_mul_lt_mul_right h3 (by omega)
    exact (hh k (by omega)).2 (by omega)
end Go.Proofs.YtcageajbknlamaaDoor
