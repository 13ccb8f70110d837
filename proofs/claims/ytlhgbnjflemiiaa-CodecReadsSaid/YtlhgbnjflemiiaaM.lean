/- Plain facts on encodings: what begins a string is the same however the string goes on. -/
import Derived.Test.YtlhgbnjflemiiaaD
namespace Go.Proofs.Ytlhgbnjflemiiaa
open Go.RowKit

theorem kindL_app (l x : List UInt8) (h : l ≠ []) : kindL (l ++ x) = kindL l := by
  cases l with
  | nil => exact absurd rfl h
  | cons c r => rfl
theorem headD_app (l x : List UInt8) (h : l ≠ []) : (l ++ x).headD 0 = l.headD 0 := by
  cases l with
  | nil => exact absurd rfl h
  | cons c r => rfl
theorem bep_app (l x : List UInt8) (n : Nat) (h : 1 + n ≤ l.length) : bep (l ++ x) n = bep l n := by
  unfold bep
  rw [List.drop_append_of_le_length (by omega), List.take_append_of_le_length (by rw [List.length_drop]; omega)]
theorem tkN_app (l x : List UInt8) (k : Int) (m : Nat) (h : (tkN l k m).2 ≠ 0) : tkN (l ++ x) k m = tkN l k m := by
  unfold tkN at h ⊢
  split at h
  · rename_i hc
    have hne : l ≠ [] := by intro e; subst e; simp at hc
    rw [kindL_app l x hne, headD_app l x hne, if_pos hc, if_pos ⟨hc.1, by rw [List.length_append]; omega⟩, bep_app l x _ (by omega)]
  · simp at h
theorem tkU_app (l x : List UInt8) (h : (tkU l).2 ≠ 0) : tkU (l ++ x) = tkU l := by
  have hN : (tkN l 3 16).2 ≠ 0 := by
    intro e; unfold tkU at h; rw [if_pos (Or.inl e)] at h; exact h rfl
  unfold tkU
  rw [tkN_app l x 3 16 hN]
theorem tkS_app (l x : List UInt8) (h : (tkS l).2 ≠ 0) : tkS (l ++ x) = tkS l := by
  have hN : (tkN l 4 32).2 ≠ 0 := by
    intro e; unfold tkS at h; rw [if_pos (Or.inl e)] at h; exact h rfl
  unfold tkS
  rw [tkN_app l x 4 32 hN]
theorem tkH_app (l x : List UInt8) (k : Int) (h : (tkH l k).2 ≠ 0) : tkH (l ++ x) k = tkH l k := by
  unfold tkH at h ⊢
  split at h
  · rename_i hc
    have hl := tkU_size (l.drop 1)
    rw [List.length_drop] at hl
    have hne : l ≠ [] := by intro e; subst e; exact hc.2.1 (by simpa using hl)
    have h1 : 1 ≤ l.length := by
      cases l with
      | nil => exact absurd rfl hne
      | cons => simp
    rw [kindL_app l x hne, List.drop_append_of_le_length h1, tkU_app _ _ hc.2.1, if_pos hc]
  · simp at h
theorem tkTn_app (l x : List UInt8) (h : tkTn l ≠ 0) : tkTn (l ++ x) = tkTn l := by
  unfold tkTn at h ⊢
  split at h
  · exact absurd rfl h
  · rename_i hc
    rw [tkH_app l x 5 (by omega), if_neg hc, if_neg (by rw [List.length_append]; omega)]
theorem flat_app (l x : List UInt8) (h : (flat l).1 ≠ 0) : flat (l ++ x) = flat l := by
  have hs := (flat_size l).1
  have hne : l ≠ [] := by intro e; subst e; simp at hs; omega
  have hf : ∀ y, flat y = if kindL y = 1 ∨ kindL y = 2 then (1, 0) else if kindL y = 3 then ((tkU y).2, 0) else if kindL y = 4 then ((tkS y).2, 0) else if kindL y = 5 then (tkTn y, 0) else (0, 0) := fun _ => rfl
  rw [hf] at h
  rw [hf, hf, kindL_app l x hne]
  by_cases c1 : kindL l = 1 ∨ kindL l = 2
  · rw [if_pos c1, if_pos c1]
  · rw [if_neg c1] at h ⊢; rw [if_neg c1]
    by_cases c2 : kindL l = 3
    · rw [if_pos c2] at h ⊢; rw [if_pos c2, tkU_app l x h]
    · rw [if_neg c2] at h ⊢; rw [if_neg c2]
      by_cases c3 : kindL l = 4
      · rw [if_pos c3] at h ⊢; rw [if_pos c3, tkS_app l x h]
      · rw [if_neg c3] at h ⊢; rw [if_neg c3]
        by_cases c4 : kindL l = 5
        · rw [if_pos c4] at h ⊢; rw [if_pos c4, tkTn_app l x h]
        · rw [if_neg c4] at h; exact absurd rfl h
theorem measL_app (f : List UInt8 → Nat × Nat) (hf : ∀ l, (f l).1 ≤ l.length) (ha : ∀ l x, (f l).1 ≠ 0 → f (l ++ x) = f l) (l x : List UInt8) : ∀ (n z d : Nat), (measL f l n z d).1 ≠ 0 → measL f (l ++ x) n z d = measL f l n z d
  | 0, _, _, _ => rfl
  | n + 1, z, d, h => by
    unfold measL at h ⊢
    by_cases c : (f (l.drop z)).1 = 0
    · rw [if_pos c] at h; exact absurd rfl h
    · rw [if_neg c] at h
      have hz : z ≤ l.length := by
        have := hf (l.drop z)
        rw [List.length_drop] at this
        omega
      rw [List.drop_append_of_le_length hz, ha _ _ c, if_neg c, if_neg c]
      exact measL_app f hf ha l x n _ _ h
theorem meas_app : ∀ (r : Nat) (l x : List UInt8), (meas r l).1 ≠ 0 → meas r (l ++ x) = meas r l
  | 0, l, x, h => by
    have hs := (meas_size 0 l).1
    have hne : l ≠ [] := by intro e; subst e; simp at hs; omega
    unfold meas at h ⊢
    rw [kindL_app l x hne]
    split at h
    · exact absurd rfl h
    · rename_i c
      rw [if_neg c, if_neg c, flat_app l x h]
  | r + 1, l, x, h => by
    have hs := (meas_size (r + 1) l).1
    have hne : l ≠ [] := by intro e; subst e; simp at hs; omega
    unfold meas at h ⊢
    rw [kindL_app l x hne]
    split at h
    · rename_i c
      rw [if_pos c, if_pos c]
      split at h
      · exact absurd rfl h
      · rename_i c2
        rw [tkH_app l x 6 c2, if_neg c2, if_neg c2]
        exact measL_app (meas r) (fun l => (meas_size r l).1) (fun l x h => meas_app r l x h) l x _ _ _ h
    · rename_i c
      rw [if_neg c, if_neg c, flat_app l x h]

theorem depthL_iff (l : List UInt8) : 0 ≤ depthL l ↔ (meas 16 l).1 ≠ 0 ∧ (meas 16 l).1 = l.length := by
  have hs := (meas_size 16 l).1
  unfold depthL
  split <;> omega
/-- no beginning of an encoding is one, and nothing that goes on behind one -/
theorem prefix_no (l : List UInt8) (k : Nat) (hk : k < l.length) (h : 0 ≤ depthL l) : ¬ 0 ≤ depthL (l.take k) := by
  intro h2
  rw [depthL_iff] at h h2
  have := meas_app 16 (l.take k) (l.drop k) h2.1
  rw [List.take_append_drop] at this
  rw [this, h2.2, List.length_take] at h
  omega
theorem longer_no (l x : List UInt8) (hx : x ≠ []) (h : 0 ≤ depthL l) : ¬ 0 ≤ depthL (l ++ x) := by
  intro h2
  rw [depthL_iff] at h h2
  have := meas_app 16 l x h.1
  rw [this, h.2, List.length_append] at h2
  have : 0 < x.length := List.length_pos_iff.2 hx
  omega
end Go.Proofs.Ytlhgbnjflemiiaa
