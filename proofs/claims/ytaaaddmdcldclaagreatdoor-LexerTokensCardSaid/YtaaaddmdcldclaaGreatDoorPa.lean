/- Plain: the tokens that are read from a text can stand in a line: words, signs, texts, dates, times. -/
import Derived.Test.YtaaaddmdcldclaaGreatDoorNs
namespace Go.Proofs.YtaaaddmdcldclaaGreatDoor
open Go.RowKit Go.Shelf

theorem runF_eq {p : Nat → Bool} : ∀ {n k m : Nat}, k ≤ m → m ≤ k + n → (∀ j, k ≤ j → j < m → p j = true) → (m = k + n ∨ p m = false) → runF p n k = m
  | 0, k, m, h1, h2, _, _ => by show k = m; omega
  | n + 1, k, m, h1, h2, h3, h4 => by
    by_cases h : k = m
    · subst h
      rcases h4 with h4 | h4
      · omega
      · exact if_neg (by rw [h4]; simp)
    · have hk := h3 k (Nat.le_refl _) (by omega)
      show (if p k = true then runF p n (k + 1) else k) = m
      rw [if_pos hk]
      refine runF_eq (by omega) (by omega) (fun j a b => h3 j (by omega) b) ?_
      rcases h4 with h4 | h4
      · exact .inl (by omega)
      · exact .inr h4
theorem runF_spec (p : Nat → Bool) : ∀ n k, (∀ j, k ≤ j → j < runF p n k → p j = true) ∧ (runF p n k = k + n ∨ p (runF p n k) = false)
  | 0, k => ⟨fun j a b => absurd b (by show ¬ j < k; omega), .inl rfl⟩
  | n + 1, k => by
    by_cases h : p k = true
    · have e : runF p (n + 1) k = runF p n (k + 1) := if_pos h
      have ih := runF_spec p n (k + 1)
      rw [e]
      refine ⟨fun j a b => ?_, ?_⟩
      · by_cases hj : j = k
        · rw [hj]; exact h
        · exact ih.1 j (by omega) b
      · rcases ih.2 with h2 | h2
        · exact .inl (by omega)
        · exact .inr h2
    · have e : runF p (n + 1) k = k := if_neg h
      rw [e]
      exact ⟨fun j a b => by omega, .inr (by simpa using h)⟩
theorem pre_size (s : ByteArray) {m : Nat} (hm : m ≤ s.size) : (s.extract 0 m).size = m := by rw [ByteArray.size_extract]; omega
theorem byteI_pre (s : ByteArray) {m j : Nat} (h : j < m) (hm : m ≤ s.size) : byteI (s.extract 0 m) j = byteI s j := by
  have h1 : j < (s.extract 0 m).size := by rw [pre_size s hm]; exact h
  rw [byteI_at h1, byteI_at (by omega), ByteArray.getElem_extract]
  simp
theorem pre_pre (s : ByteArray) {m : Nat} (hm : m ≤ s.size) : (s.extract 0 m).extract 0 m = s.extract 0 m := by
  have h := ext_all (s.extract 0 m)
  rwa [pre_size s hm] at h
theorem spell_self {k : Int} (t : ByteArray) (n : Int) (h : k = 1 ∨ k = 5 ∨ k = 6) : spellB k t n = t := if_pos h
theorem word_ok {s : ByteArray} (h0 : 0 < s.size) (h : letB (byteI s 0) = true) (hm : wordN s ≤ 49) : tokOk 1 (s.extract 0 (wordN s)) 0 := by
  have hb := runF_le (fun k => wordB (byteI s k)) (s.size - 1) 1
  have hs := runF_spec (fun k => wordB (byteI s k)) (s.size - 1) 1
  replace hb : wordN s ≤ 1 + (s.size - 1) ∧ 1 ≤ wordN s := hb
  replace hs : (∀ j, 1 ≤ j → j < wordN s → wordB (byteI s j) = true) ∧ _ := hs
  generalize wordN s = m at *
  have hz := pre_size s (m := m) (by omega)
  have hw : wordN (s.extract 0 m) = m := by
    unfold wordN
    rw [hz]
    exact runF_eq (by omega) (by omega) (fun j a b => by rw [byteI_pre s b (by omega)]; exact hs.1 j a b) (.inl (by omega))
  unfold tokOk
  rw [spell_self _ _ (.inl rfl), hz]
  refine ⟨by omega, ?_⟩
  unfold readR
  rw [byteI_pre s (by omega) (by omega), if_pos h]
  unfold wordR
  rw [hw, if_neg (by omega), pre_pre s (by omega)]
theorem sign_ok {s : ByteArray} (h0 : 0 < s.size) (h1 : letB (byteI s 0) = false) (h2 : (digB (byteI s 0) || decide (byteI s 0 = 45) || decide (byteI s 0 = 42)) = false) (h3 : byteI s 0 ≠ 34) (h4 : 0 ≤ signI (byteI s 0)) : tokOk 6 (s.extract 0 1) 0 := by
  have hz := pre_size s (m := 1) (by omega)
  unfold tokOk
  rw [spell_self _ _ (.inr (.inr rfl)), hz]
  refine ⟨by omega, ?_⟩
  unfold readR signR
  rw [byteI_pre s (by omega) (by omega), if_neg (by rw [h1]; simp), if_neg (by rw [h2]; simp), if_neg h3, if_pos h4, pre_pre s (by omega)]
theorem run_idem {s : ByteArray} (h0 : 0 < s.size) : runN (runS s) = (runS s).size ∧ (runS s).size = runN s ∧ 1 ≤ runN s ∧ runN s ≤ s.size := by
  have hb := runF_le (fun k => runB s k) (s.size - 1) 1
  have hs := runF_spec (fun k => runB s k) (s.size - 1) 1
  replace hb : runN s ≤ 1 + (s.size - 1) ∧ 1 ≤ runN s := hb
  replace hs : (∀ j, 1 ≤ j → j < runN s → runB s j = true) ∧ (runN s = 1 + (s.size - 1) ∨ runB s (runN s) = false) := hs
  unfold runS
  generalize runN s = m at *
  have hz := pre_size s (m := m) (by omega)
  refine ⟨?_, hz, by omega, by omega⟩
  rw [hz]
  unfold runN
  rw [hz]
  refine runF_eq (by omega) (by omega) (fun j a b => ?_) (.inl (by omega))
  have hj := hs.1 j a b
  unfold runB at hj ⊢
  rw [byteI_pre s b (by omega)]
  by_cases h58 : byteI s j = 58
  · rw [if_pos h58] at hj ⊢
    unfold colonB at hj ⊢
    simp only [Bool.and_eq_true, decide_eq_true_eq] at hj
    have hlt : j + 1 < m := by
      by_cases he : j + 1 < m
      · exact he
      · have hm : j + 1 = m := by omega
        rcases hs.2 with h2 | h2
        · omega
        · unfold runB plainRunB at h2
          rw [← hm] at h2
          have hd := hj.2
          unfold digB at hd
          simp only [Bool.and_eq_true, decide_eq_true_eq] at hd
          rw [if_neg (by omega)] at h2
          unfold digB at h2
          rw [decide_eq_true hd.1, decide_eq_true hd.2] at h2
          simp at h2
    rw [byteI_pre s (by omega) (by omega), byteI_pre s hlt (by omega), hz, decide_eq_true hlt, hj.1.1, hj.2]
    rfl
  · rw [if_neg h58] at hj ⊢
    exact hj
theorem run_read {s : ByteArray} (h0 : 0 < s.size) (h1 : letB (byteI s 0) = false) (h2 : (digB (byteI s 0) || decide (byteI s 0 = 45) || decide (byteI s 0 = 42)) = true) : readR (runS s) = ⟨(runT (runS s)).1, (runT (runS s)).2.1, (runT (runS s)).2.2.1, (runS s).size, (runT (runS s)).2.2.2⟩ := by
  obtain ⟨hi, hz, ha, hb⟩ := run_idem h0
  have hby : byteI (runS s) 0 = byteI s 0 := byteI_pre s (by omega) hb
  have hrr : runS (runS s) = runS s := by
    show (runS s).extract 0 (runN (runS s)) = runS s
    rw [hi]; exact ext_all _
  unfold readR
  rw [hby, if_neg (by rw [h1]; simp), if_pos h2]
  unfold runR
  rw [hrr, hi]
theorem runT_cases {t : ByteArray} (h : (runT t).2.2.2 = 0) : (runT t = (4, ⟨#[]⟩, clkN t, 0) ∧ clkE t = 0) ∨ runT t = (5, t, 0, 0) ∨ (runT t = (2, ⟨#[]⟩, fixN t, 0) ∧ fixE t = 0 ∧ badNumB t = false) := by
  unfold runT at h ⊢
  by_cases h1 : (timeT t).2.2.2 = 2
  · rw [if_pos h1] at h ⊢
    by_cases h2 : (dateT t).2.2.2 = 2
    · rw [if_pos h2] at h ⊢
      unfold numberT at h ⊢
      split at h
      · exact absurd h (by decide)
      · rename_i hb
        rw [if_neg hb]
        split at h
        · rename_i he
          rw [if_pos he]
          exact .inr (.inr ⟨rfl, he, by simpa using hb⟩)
        · rename_i he; exact absurd h he
    · rw [if_neg h2] at h ⊢
      refine .inr (.inl ?_)
      unfold dateT at h ⊢
      split at h
      · unfold dateT3 at h ⊢
        split at h
        · split at h
          · simp_all
          · exact absurd h (by decide)
        · exact absurd h (by decide)
      · exact absurd h (by decide)
  · rw [if_neg h1] at h ⊢
    unfold timeT at h ⊢
    split at h
    · rename_i he
      rw [if_pos he]
      exact .inl ⟨rfl, he⟩
    · rename_i he; exact absurd h he
theorem date_ok {s : ByteArray} (h0 : 0 < s.size) (h1 : letB (byteI s 0) = false) (h2 : (digB (byteI s 0) || decide (byteI s 0 = 45) || decide (byteI s 0 = 42)) = true) (h3 : runT (runS s) = (5, runS s, 0, 0)) : tokOk 5 (runS s) 0 := by
  obtain ⟨hi, hz, ha, hb⟩ := run_idem h0
  unfold tokOk
  rw [spell_self _ _ (.inr (.inl rfl))]
  refine ⟨by omega, ?_⟩
  rw [run_read h0 h1 h2, h3]
def timeChk (n : Nat) : Bool := (let r := readR (Cv.bs (Cv.clockL n)); decide (r.k = 4) && r.t.data.toList.isEmpty && decide (r.n = n) && decide (r.l = 5) && decide (r.c = 0))
end Go.Proofs.YtaaaddmdcldclaaGreatDoor
