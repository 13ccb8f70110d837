/- Plain: a token can stand in a line just when the specification calls it valid. -/
import Derived.Test.YtaaaddmdcldclaaGreatDoorTi
namespace Go.Proofs.YtaaaddmdcldclaaGreatDoor
open Go.RowKit Go.Shelf
set_option linter.unusedVariables false

theorem wordsB_all {s : ByteArray} (h : wordsB s = true) : ∀ j, j < s.size → wordB (byteI s j) = true := by
  intro j hj
  cases hb : wordB (byteI s j)
  · rw [words_no hj hb] at h; cases h
  · rfl
theorem word_run {t : ByteArray} (h0 : 0 < t.size) : (∀ j, 1 ≤ j → j < t.size → wordB (byteI t j) = true) ↔ wordN t = t.size := by
  have hs := runF_spec (fun k => wordB (byteI t k)) (t.size - 1) 1
  constructor
  · intro h
    unfold wordN
    exact runF_eq (by omega) (by omega) (fun j a b => h j a b) (.inl (by omega))
  · intro h j a b
    have h2 : runF (fun k => wordB (byteI t k)) (t.size - 1) 1 = t.size := h
    exact hs.1 j a (by omega)
/-- the kinds of what is read -/
theorem read_kind {s : ByteArray} (h0 : 0 < s.size) (h : (readR s).c = 0) :
    (letB (byteI s 0) = true ∧ wordN s ≤ 49 ∧ readR s = ⟨1, s.extract 0 (wordN s), 0, wordN s, 0⟩) ∨
    (letB (byteI s 0) = false ∧ (digB (byteI s 0) || decide (byteI s 0 = 45) || decide (byteI s 0 = 42)) = true ∧ readR s = runR s) ∨
    (labelB (textS s) = true ∧ byteI s 0 = 34 ∧ readR s = ⟨3, textS s, 0, (textS s).size + 2, 0⟩) ∨
    (letB (byteI s 0) = false ∧ (digB (byteI s 0) || decide (byteI s 0 = 45) || decide (byteI s 0 = 42)) = false ∧ byteI s 0 ≠ 34 ∧ 0 ≤ signI (byteI s 0) ∧ readR s = ⟨6, s.extract 0 1, 0, 1, 0⟩) := by
  unfold readR at h ⊢
  by_cases h1 : letB (byteI s 0) = true
  · rw [if_pos h1] at h ⊢
    unfold wordR at h ⊢
    split at h
    · exact absurd h (by decide)
    · rename_i hm
      rw [if_neg hm]
      exact .inl ⟨h1, by omega, rfl⟩
  rw [if_neg h1] at h ⊢
  have h1' : letB (byteI s 0) = false := by simpa using h1
  by_cases h2 : (digB (byteI s 0) || decide (byteI s 0 = 45) || decide (byteI s 0 = 42)) = true
  · rw [if_pos h2]
    exact .inr (.inl ⟨h1', h2, rfl⟩)
  rw [if_neg h2] at h ⊢
  have h2' : (digB (byteI s 0) || decide (byteI s 0 = 45) || decide (byteI s 0 = 42)) = false := by simpa using h2
  by_cases h3 : byteI s 0 = 34
  · rw [if_pos h3] at h ⊢
    unfold textR at h ⊢
    split at h
    · rename_i h4
      rw [if_pos h4]
      split at h
      · rename_i h5
        rw [if_pos h5]
        exact .inr (.inr (.inl ⟨h5, h3, rfl⟩))
      · exact absurd h (by decide)
    · exact absurd h (by decide)
  rw [if_neg h3] at h ⊢
  unfold signR at h ⊢
  split at h
  · rename_i h4
    rw [if_pos h4]
    exact .inr (.inr (.inr ⟨h1', h2', h3, h4, rfl⟩))
  · exact absurd h (by decide)
end Go.Proofs.YtaaaddmdcldclaaGreatDoor
