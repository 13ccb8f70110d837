/- Plain facts on texts of numbers: what a text is read as; the specification's way to read one. No Go but names of lists' functions. -/
import Derived.Test.YtckbfkkohkmcaaaDoorP
namespace Go.Proofs.YtckbfkkohkmcaaaDoor
open Go.RowKit

def dgt (c : UInt8) : Bool := decide (48 ≤ c.toNat) && decide (c.toNat ≤ 57)
/-- how many digits a list begins with -/
def ndig (l : List UInt8) : Nat := (l.takeWhile dgt).length
theorem ndig_le (l : List UInt8) : ndig l ≤ l.length := (List.takeWhile_sublist _).length_le
theorem ndig_cons (c : UInt8) (l : List UInt8) : ndig (c :: l) = if dgt c = true then ndig l + 1 else 0 := by
  unfold ndig
  by_cases h : dgt c = true
  · rw [List.takeWhile_cons_of_pos h, if_pos h]; rfl
  · rw [List.takeWhile_cons_of_neg h, if_neg h]; rfl
theorem ndig_at : ∀ (l : List UInt8) (k : Nat) (hk : k < l.length), k < ndig l → dgt l[k] = true
  | c :: l, 0, _, h => by
    rw [ndig_cons] at h
    split at h
    · assumption
    · omega
  | c :: l, k + 1, hk, h => by
    rw [ndig_cons] at h
    split at h
    · exact ndig_at l k (by simpa using hk) (by omega)
    · omega
theorem ndig_stop : ∀ (l : List UInt8) (hk : ndig l < l.length), dgt l[ndig l] = false
  | [], hk => by simp at hk
  | c :: l, hk => by
    by_cases h : dgt c = true
    · have e : ndig (c :: l) = ndig l + 1 := by rw [ndig_cons, if_pos h]
      have := ndig_stop l (by rw [e] at hk; simpa using hk)
      simp only [e, List.getElem_cons_succ]; exact this
    · have e : ndig (c :: l) = 0 := by rw [ndig_cons, if_neg h]
      simp only [e, List.getElem_cons_zero]
      simpa using h
theorem isDg_iff (l : List UInt8) : isDg l = true ↔ l ≠ [] ∧ l.all dgt = true := by
  unfold isDg
  rw [Bool.and_eq_true, Bool.not_eq_true', List.isEmpty_eq_false_iff]
  rfl
theorem all_ndig : ∀ (l : List UInt8), l.all dgt = true ↔ ndig l = l.length
  | [] => by simp [ndig]
  | c :: l => by
    rw [List.all_cons, Bool.and_eq_true, all_ndig l, ndig_cons, List.length_cons]
    by_cases h : dgt c = true
    · rw [if_pos h]; simp [h]
    · rw [if_neg h]
      constructor
      · intro h2; exact absurd h2.1 h
      · intro h2; omega
theorem isDg_ndig (l : List UInt8) : isDg l = true ↔ 0 < l.length ∧ ndig l = l.length := by
  rw [isDg_iff, all_ndig]
  constructor
  · intro h; exact ⟨List.length_pos_iff.2 h.1, h.2⟩
  · intro h; exact ⟨List.length_pos_iff.1 h.1, h.2⟩

/-- the specification's reading of what stands behind a sign -/
def refBody (s : List UInt8) : Option (List UInt8) :=
  if ndig s = 0 then none
  else if ndig s < s.length then
    (if s.getD (ndig s) 0 ≠ 46 ∨ ndig (s.drop (ndig s + 1)) < 1 ∨ 3 < ndig (s.drop (ndig s + 1)) ∨ ndig s + 1 + ndig (s.drop (ndig s + 1)) ≠ s.length then none
    else some (s.take (ndig s) ++ (s.drop (ndig s + 1) ++ [48, 48]).take 3))
  else some (s ++ [48, 48, 48])

theorem index_none : ∀ (s : List UInt8), Lib.indexByte s 46 = -1 → ∀ (k : Nat), s[k]? ≠ some 46 := fun _ h => Lib.indexByte_none h
theorem index_some : ∀ (s : List UInt8) (o : Nat), Lib.indexByte s 46 = o → s[o]? = some 46 ∧ ∀ (k : Nat), k < o → s[k]? ≠ some 46 := fun _ _ h => Lib.indexByte_some h

theorem ndig_take (s : List UInt8) (i : Nat) (hi : i ≤ s.length) (hd : ∀ h : i < s.length, dgt s[i] = false) : ndig s ≤ i ∧ (ndig s = i ↔ ndig (s.take i) = i) := by
  have h1 : ndig s ≤ i := by
    rcases Nat.lt_or_ge i (ndig s) with h | h
    · have hl := ndig_le s
      have := ndig_at s i (by omega) h
      rw [hd (by omega)] at this; cases this
    · exact h
  refine ⟨h1, ?_⟩
  have hl : (s.take i).length = i := by rw [List.length_take]; omega
  constructor
  · intro h
    have := (all_ndig (s.take i)).1 (by
      rw [List.all_eq_true]
      intro c hc
      obtain ⟨j, hj, rfl⟩ := List.getElem_of_mem hc
      rw [List.getElem_take]
      exact ndig_at s j (by omega) (by omega))
    omega
  · intro h
    have h2 := (all_ndig (s.take i)).2 (by omega)
    rcases Nat.lt_or_ge (ndig s) i with h3 | h3
    · have h4 := ndig_stop s (by omega)
      rw [List.all_eq_true] at h2
      have h5 := h2 s[ndig s] (by rw [List.mem_take_iff_getElem]; exact ⟨ndig s, by omega, rfl⟩)
      rw [h4] at h5; cases h5
    · omega

/-- the program's reading of what stands behind a sign, and the specification's -/
theorem body_eq (s : List UInt8) : refBody s = if (!isDg (Lib.cut s [46]).1 || ((Lib.cut s [46]).2.2 && (!isDg (Lib.cut s [46]).2.1 || decide ((3 : Int) < (Lib.cut s [46]).2.1.length)))) = true then none else some ((Lib.cut s [46]).1 ++ ((Lib.cut s [46]).2.1 ++ [48, 48, 48]).take 3) := by
  have hge := Lib.indexByte_ge s 46
  have hnd := ndig_le s
  by_cases hi : Lib.indexByte s 46 = -1
  · have hc : Lib.cut s [46] = (s, [], false) := by unfold Lib.cut; rw [Lib.index_one, hi, if_neg (by omega)]
    rw [hc]
    have hno := index_none s hi
    simp only [Bool.false_and, Bool.or_false, List.nil_append]
    unfold refBody
    by_cases h0 : ndig s = 0
    · have : isDg s = false := by
        rw [← Bool.not_eq_true, isDg_ndig]; omega
      rw [if_pos h0, this]; rfl
    · rw [if_neg h0]
      by_cases h1 : ndig s < s.length
      · have : isDg s = false := by rw [← Bool.not_eq_true, isDg_ndig]; omega
        have h2 : s.getD (ndig s) 0 ≠ 46 := by
          rw [List.getD_eq_getElem?_getD, List.getElem?_eq_getElem h1]
          intro h; exact hno (ndig s) (by rw [List.getElem?_eq_getElem h1]; exact congrArg some h)
        rw [if_pos h1, if_pos (.inl h2), this]; rfl
      · have : isDg s = true := (isDg_ndig s).2 (by omega)
        rw [if_neg h1, this]; rfl
  · obtain ⟨i, hie⟩ : ∃ i : Nat, Lib.indexByte s 46 = i := ⟨(Lib.indexByte s 46).toNat, by omega⟩
    have hc : Lib.cut s [46] = (s.take i, s.drop (i + 1), true) := by
      unfold Lib.cut; rw [Lib.index_one, hie, if_pos (by omega)]; simp
    rw [hc]
    obtain ⟨hat, hbef⟩ := index_some s i hie
    have hil : i < s.length := by
      rcases Nat.lt_or_ge i s.length with h | h
      · exact h
      · rw [List.getElem?_eq_none h] at hat; cases hat
    have hsi : s[i] = 46 := by rw [List.getElem?_eq_getElem hil] at hat; exact Option.some.inj hat
    obtain ⟨hk1, hk2⟩ := ndig_take s i (by omega) (fun _ => by rw [hsi]; decide)
    have htl : (s.take i).length = i := by rw [List.length_take]; omega
    simp only [Bool.true_and]
    unfold refBody
    by_cases h0 : ndig s = 0
    · have : isDg (s.take i) = false := by rw [← Bool.not_eq_true, isDg_ndig]; omega
      rw [if_pos h0, this]; rfl
    · rw [if_neg h0, if_pos (by omega)]
      by_cases hki : ndig s = i
      · have hA : isDg (s.take i) = true := (isDg_ndig _).2 (by have := hk2.1 hki; omega)
        rw [hA, hki]
        have hg : s.getD i 0 = 46 := by rw [List.getD_eq_getElem?_getD, hat]; rfl
        have hbl : (s.drop (i + 1)).length = s.length - (i + 1) := List.length_drop
        have hbn := ndig_le (s.drop (i + 1))
        by_cases hB : isDg (s.drop (i + 1)) = true
        · have hB' := (isDg_ndig _).1 hB
          by_cases hlong : (3 : Int) < (s.drop (i + 1)).length
          · rw [if_pos (.inr (.inr (.inl (by omega)))), hB, decide_eq_true hlong]; rfl
          · rw [if_neg (by rw [not_or, not_or, not_or]; exact ⟨fun h => h hg, by omega, by omega, by omega⟩), hB, decide_eq_false hlong]
            simp only [Bool.not_true, Bool.false_or, Bool.false_eq_true, if_false]
            have e : s.drop (i + 1) ++ [48, 48, 48] = (s.drop (i + 1) ++ [48, 48]) ++ [48] := by rw [List.append_assoc]; rfl
            have e2 : ((s.drop (i + 1) ++ [48, 48]) ++ [48]).take 3 = (s.drop (i + 1) ++ [48, 48]).take 3 := List.take_append_of_le_length (by rw [List.length_append]; simp only [List.length_cons, List.length_nil]; omega)
            rw [e, e2]
        · have hB2 : isDg (s.drop (i + 1)) = false := by simpa using hB
          have hB' : ¬ (0 < (s.drop (i + 1)).length ∧ ndig (s.drop (i + 1)) = (s.drop (i + 1)).length) := fun h => hB ((isDg_ndig _).2 h)
          rw [if_pos (by omega), hB2]; rfl
      · have hA : isDg (s.take i) = false := by rw [← Bool.not_eq_true, isDg_ndig]; have := hk2; omega
        have h2 : s.getD (ndig s) 0 ≠ 46 := by
          rw [List.getD_eq_getElem?_getD, List.getElem?_eq_getElem (by omega)]
          intro h; exact hbef (ndig s) (by omega) (by rw [List.getElem?_eq_getElem (by omega)]; exact congrArg some h)
        rw [if_pos (.inl h2), hA]; rfl
end Go.Proofs.YtckbfkkohkmcaaaDoor
