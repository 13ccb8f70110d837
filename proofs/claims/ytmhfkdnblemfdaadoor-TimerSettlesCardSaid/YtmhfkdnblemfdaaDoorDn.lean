/- Plain facts of Settle: the states under inputs that stay, and how long they move. -/
import Derived.Test.YtmhfkdnblemfdaaDoorDk
namespace Go.Proofs.YtmhfkdnblemfdaaDoor
open Go.RowKit Go.Shelf

set_option linter.unusedVariables false
set_option linter.unusedSimpArgs false
def seqS (F : List Int → List Int) (S : List Int) : Nat → List Int
  | 0 => S
  | k + 1 => F (seqS F S k)
/-- the output at last, and since when, behind k evaluations -/
def svV (F : List Int → List Int) (O : List Int → Int) (S : List Int) : Nat → Int × Nat
  | 0 => (0, 0)
  | k + 1 => if k = 0 ∨ O (seqS F S k) ≠ (svV F O S k).1 then (O (seqS F S k), k + 1) else svV F O S k
theorem first_fix (F : List Int → List Int) (S : List Int) (μ : Nat → Int) (B : Nat) (h0 : ∀ k, 0 ≤ μ k) (h1 : ∀ k, seqS F S (k + 1) ≠ seqS F S k → μ (k + 1) < μ k) (hB : μ 0 ≤ B) :
    ∃ N : Nat, 1 ≤ N ∧ N ≤ B + 2 ∧ seqS F S N = seqS F S (N - 1) ∧ ∀ k, k + 1 < N → seqS F S (k + 1) ≠ seqS F S k := by
  classical
  have key : ∀ m, (∃ k, k < m ∧ seqS F S (k + 1) = seqS F S k) → ∃ N, N < m ∧ seqS F S (N + 1) = seqS F S N ∧ ∀ k, k < N → seqS F S (k + 1) ≠ seqS F S k := by
    intro m
    induction m with
    | zero => rintro ⟨k, hk, _⟩; omega
    | succ m ih =>
      rintro ⟨k, hk, he⟩
      by_cases h2 : ∃ k, k < m ∧ seqS F S (k + 1) = seqS F S k
      · obtain ⟨N, a, b, c⟩ := ih h2
        exact ⟨N, by omega, b, c⟩
      · exact ⟨k, hk, he, fun j hj e => h2 ⟨j, by omega, e⟩⟩
  by_cases h : ∃ k, k < B + 2 ∧ seqS F S (k + 1) = seqS F S k
  · obtain ⟨N, a, b, c⟩ := key _ h
    exact ⟨N + 1, by omega, by omega, by rw [Nat.add_sub_cancel]; exact b, fun k hk => c k (by omega)⟩
  · have hd : ∀ k, k ≤ B + 2 → μ k ≤ B - k := by
      intro k
      induction k with
      | zero => intro _; omega
      | succ k ih =>
        intro hk
        have := ih (by omega)
        have := h1 k (fun e => h ⟨k, by omega, e⟩)
        omega
    have := hd (B + 2) (by omega)
    have := h0 (B + 2)
    omega
theorem sv_fix (F : List Int → List Int) (O : List Int → Int) (S : List Int) (h : seqS F S 1 = seqS F S 0) : svV F O S 2 = svV F O S 1 := by
  have e1 : svV F O S 1 = (O S, 1) := by show (if (0 : Nat) = 0 ∨ _ then _ else _) = _; rw [if_pos (.inl rfl)]; rfl
  show (if (1 : Nat) = 0 ∨ O (seqS F S 1) ≠ (svV F O S 1).1 then _ else svV F O S 1) = _
  rw [if_neg]
  intro hh
  rcases hh with hh | hh
  · omega
  · rw [h, e1] at hh
    exact hh rfl
def F_count (a c : Int) (st : List Int) : List Int := [a, cntS a c (st.getD 0 0) (st.getD 1 0)]
def O_count (a c : Int) (st : List Int) : Int := 1000 * cntS a c (st.getD 0 0) (st.getD 1 0)
def mu_count (a c : Int) (st : List Int) : Int := (if (st.getD 0 0) = a then 0 else 2) + (if c = 1 ∧ (st.getD 1 0) ≠ 0 then 1 else 0)
set_option maxHeartbeats 4000000 in
theorem mu_count_at (a c : Int) (st : List Int) (ha : a = 0 ∨ a = 1) (hc : c = 0 ∨ c = 1) (h : poss_count st = true) : (0 ≤ mu_count a c st ∧ mu_count a c st ≤ 1000) ∧ (F_count a c st ≠ st → mu_count a c (F_count a c st) < mu_count a c st) ∧ poss_count (F_count a c st) = true := by
  obtain ⟨x, y, rfl⟩ := poss_count_at h
  have hxy : (inZ 0 x 1 && inZ 0 y 1000000000) = true := h
  rw [Bool.and_eq_true] at hxy
  have hx := inZ_le hxy.1
  have hy := inZ_le hxy.2
  refine ⟨?_, ?_, ?_⟩
  · show 0 ≤ ((if x = a then 0 else 2) + (if c = 1 ∧ y ≠ 0 then 1 else 0) : Int) ∧ ((if x = a then 0 else 2) + (if c = 1 ∧ y ≠ 0 then 1 else 0) : Int) ≤ 1000
    (try unfold cntS at *); (repeat' split at *) <;> (repeat' split) <;> omega
  · intro hne
    have hmv : ¬ (a = x ∧ cntS a c x y = y) := fun e => hne (by show [a, cntS a c x y] = [x, y]; rw [List.cons.injEq, List.cons.injEq]; exact ⟨e.1, e.2, rfl⟩)
    clear hne h
    show ((if (a) = a then 0 else 2) + (if c = 1 ∧ (cntS a c x y) ≠ 0 then 1 else 0) : Int) < (if x = a then 0 else 2) + (if c = 1 ∧ y ≠ 0 then 1 else 0)
    (try unfold cntS at *); (repeat' split at *) <;> (repeat' split) <;> omega
  · exact possN_count x y a c 1 (by omega) hx hy ha hc
def F_edge (a : Int) (st : List Int) : List Int := [a]
def O_edge (a : Int) (st : List Int) : Int := edgeN a (st.getD 0 0)
def mu_edge (a : Int) (st : List Int) : Int := if (st.getD 0 0) = a then 0 else 1
set_option maxHeartbeats 4000000 in
theorem mu_edge_at (a : Int) (st : List Int) (ha : a = 0 ∨ a = 1) (h : poss_edge st = true) : (0 ≤ mu_edge a st ∧ mu_edge a st ≤ 1000) ∧ (F_edge a st ≠ st → mu_edge a (F_edge a st) < mu_edge a st) ∧ poss_edge (F_edge a st) = true := by
  obtain ⟨x, rfl⟩ := poss_edge_at h
  have hx := inZ_le (show inZ 0 x 1 = true from h)
  refine ⟨?_, ?_, ?_⟩
  · show 0 ≤ (if x = a then 0 else 1 : Int) ∧ (if x = a then 0 else 1 : Int) ≤ 1000
    (repeat' split at *) <;> (repeat' split) <;> omega
  · intro hne
    have hmv : ¬ a = x := fun e => hne (by show [a] = [x]; rw [e])
    clear hne h
    show (if (a) = a then 0 else 1 : Int) < if x = a then 0 else 1
    (repeat' split at *) <;> (repeat' split) <;> omega
  · exact possN_edge x a 1 (by omega) hx ha
def F_hyst (p0 p1 a : Int) (st : List Int) : List Int := [hystN p1 p0 a (st.getD 0 0)]
def O_hyst (p0 p1 a : Int) (st : List Int) : Int := hystN p1 p0 a (st.getD 0 0)
def mu_hyst (p0 p1 a : Int) (st : List Int) : Int := if hystN p1 p0 a (st.getD 0 0) = (st.getD 0 0) then 0 else 1
set_option maxHeartbeats 4000000 in
theorem mu_hyst_at (p0 p1 a : Int) (st : List Int) (hr : p1 < p0) (h : poss_hyst p0 p1 st = true) : (0 ≤ mu_hyst p0 p1 a st ∧ mu_hyst p0 p1 a st ≤ 1000) ∧ (F_hyst p0 p1 a st ≠ st → mu_hyst p0 p1 a (F_hyst p0 p1 a st) < mu_hyst p0 p1 a st) ∧ poss_hyst p0 p1 (F_hyst p0 p1 a st) = true := by
  obtain ⟨x, rfl⟩ := poss_hyst_at h
  have hx := inZ_le (show inZ 0 x 1 = true from h)
  refine ⟨?_, ?_, ?_⟩
  · show 0 ≤ (if hystN p1 p0 a x = x then 0 else 1 : Int) ∧ (if hystN p1 p0 a x = x then 0 else 1 : Int) ≤ 1000
    (try unfold hystN at *); (repeat' split at *) <;> (repeat' split) <;> omega
  · intro hne
    have hmv : ¬ hystN p1 p0 a x = x := fun e => hne (by show [hystN p1 p0 a x] = [x]; rw [e])
    clear hne h
    show (if hystN p1 p0 a (hystN p1 p0 a x) = (hystN p1 p0 a x) then 0 else 1 : Int) < if hystN p1 p0 a x = x then 0 else 1
    (try unfold hystN at *); (repeat' split at *) <;> (repeat' split) <;> omega
  · exact possN_hyst p0 p1 x a 1 (by omega) hx
def F_latch (a c : Int) (st : List Int) : List Int := [latchN a c (st.getD 0 0)]
def O_latch (a c : Int) (st : List Int) : Int := latchN a c (st.getD 0 0)
def mu_latch (a c : Int) (st : List Int) : Int := if latchN a c (st.getD 0 0) = (st.getD 0 0) then 0 else 1
set_option maxHeartbeats 4000000 in
theorem mu_latch_at (a c : Int) (st : List Int) (ha : a = 0 ∨ a = 1) (hc : c = 0 ∨ c = 1) (h : poss_latch st = true) : (0 ≤ mu_latch a c st ∧ mu_latch a c st ≤ 1000) ∧ (F_latch a c st ≠ st → mu_latch a c (F_latch a c st) < mu_latch a c st) ∧ poss_latch (F_latch a c st) = true := by
  obtain ⟨x, rfl⟩ := poss_latch_at h
  have hx := inZ_le (show inZ 0 x 1 = true from h)
  refine ⟨?_, ?_, ?_⟩
  · show 0 ≤ (if latchN a c x = x then 0 else 1 : Int) ∧ (if latchN a c x = x then 0 else 1 : Int) ≤ 1000
    (try unfold latchN at *); (repeat' split at *) <;> (repeat' split) <;> omega
  · intro hne
    have hmv : ¬ latchN a c x = x := fun e => hne (by show [latchN a c x] = [x]; rw [e])
    clear hne h
    show (if latchN a c (latchN a c x) = (latchN a c x) then 0 else 1 : Int) < if latchN a c x = x then 0 else 1
    (try unfold latchN at *); (repeat' split at *) <;> (repeat' split) <;> omega
  · exact possN_latch x a c 1 (by omega) hx ha hc
def F_minrun (p0 p1 a : Int) (st : List Int) : List Int := [mrS0 p0 p1 a (st.getD 0 0) (st.getD 1 0) 1, mrS1 p0 p1 a (st.getD 0 0) (st.getD 1 0) 1]
def O_minrun (p0 p1 a : Int) (st : List Int) : Int := mrS0 p0 p1 a (st.getD 0 0) (st.getD 1 0) 1
def mu_minrun (p0 p1 a : Int) (st : List Int) : Int := (if (st.getD 0 0) = a then 0 else p0 + p1 + 5) + (if (st.getD 1 0) = 0 then 0 else leastN p0 p1 (st.getD 0 0) + 1 - (st.getD 1 0))
set_option maxHeartbeats 4000000 in
theorem mu_minrun_at (p0 p1 a : Int) (st : List Int) (hr : (0 ≤ p0 ∧ p0 ≤ 200) ∧ (0 ≤ p1 ∧ p1 ≤ 200)) (ha : a = 0 ∨ a = 1) (h : poss_minrun p0 p1 st = true) : (0 ≤ mu_minrun p0 p1 a st ∧ mu_minrun p0 p1 a st ≤ 1000) ∧ (F_minrun p0 p1 a st ≠ st → mu_minrun p0 p1 a (F_minrun p0 p1 a st) < mu_minrun p0 p1 a st) ∧ poss_minrun p0 p1 (F_minrun p0 p1 a st) = true := by
  obtain ⟨x, y, rfl⟩ := poss_minrun_at h
  have hxy : (inZ 0 x 1 && inZ 0 y (leastN p0 p1 x)) = true := h
  rw [Bool.and_eq_true] at hxy
  have hx := inZ_le hxy.1
  have hy := inZ_le hxy.2
  refine ⟨?_, ?_, ?_⟩
  · show 0 ≤ ((if x = a then 0 else p0 + p1 + 5) + (if y = 0 then 0 else leastN p0 p1 x + 1 - y) : Int) ∧ ((if x = a then 0 else p0 + p1 + 5) + (if y = 0 then 0 else leastN p0 p1 x + 1 - y) : Int) ≤ 1000
    (try unfold mrS0 at *); (try unfold mrS1 at *); (try unfold lastsN at *); (try unfold leastN at *); (repeat' split at *) <;> (repeat' split) <;> omega
  · intro hne
    have hmv : ¬ (mrS0 p0 p1 a x y 1 = x ∧ mrS1 p0 p1 a x y 1 = y) := fun e => hne (by show [mrS0 p0 p1 a x y 1, mrS1 p0 p1 a x y 1] = [x, y]; rw [List.cons.injEq, List.cons.injEq]; exact ⟨e.1, e.2, rfl⟩)
    clear hne h
    show ((if (mrS0 p0 p1 a x y 1) = a then 0 else p0 + p1 + 5) + (if (mrS1 p0 p1 a x y 1) = 0 then 0 else leastN p0 p1 (mrS0 p0 p1 a x y 1) + 1 - (mrS1 p0 p1 a x y 1)) : Int) < (if x = a then 0 else p0 + p1 + 5) + (if y = 0 then 0 else leastN p0 p1 x + 1 - y)
    (try unfold mrS0 at *); (try unfold mrS1 at *); (try unfold lastsN at *); (try unfold leastN at *); (repeat' split at *) <;> (repeat' split) <;> omega
  · exact possN_minrun p0 p1 x y a 1 (by omega) (by omega) hx hy ha
def F_offdelay (p0 a : Int) (st : List Int) : List Int := [offS a (st.getD 0 0) p0 1]
def O_offdelay (p0 a : Int) (st : List Int) : Int := offV a (st.getD 0 0) p0 1
def mu_offdelay (p0 a : Int) (st : List Int) : Int := if a = 1 then (if (st.getD 0 0) = -1 then 0 else 1) else if (st.getD 0 0) = 0 then 0 else if (st.getD 0 0) = -1 then p0 + 2 else p0 + 1 - (st.getD 0 0)
set_option maxHeartbeats 4000000 in
theorem mu_offdelay_at (p0 a : Int) (st : List Int) (hr : 0 ≤ p0 ∧ p0 ≤ 200) (ha : a = 0 ∨ a = 1) (h : poss_offdelay p0 st = true) : (0 ≤ mu_offdelay p0 a st ∧ mu_offdelay p0 a st ≤ 1000) ∧ (F_offdelay p0 a st ≠ st → mu_offdelay p0 a (F_offdelay p0 a st) < mu_offdelay p0 a st) ∧ poss_offdelay p0 (F_offdelay p0 a st) = true := by
  obtain ⟨x, rfl⟩ := poss_offdelay_at h
  have hx := inZ_le (show inZ (-1) x p0 = true from h)
  refine ⟨?_, ?_, ?_⟩
  · show 0 ≤ (if a = 1 then (if x = -1 then 0 else 1) else if x = 0 then 0 else if x = -1 then p0 + 2 else p0 + 1 - x : Int) ∧ (if a = 1 then (if x = -1 then 0 else 1) else if x = 0 then 0 else if x = -1 then p0 + 2 else p0 + 1 - x : Int) ≤ 1000
    (try unfold offS at *); (try unfold lastsN at *); (repeat' split at *) <;> (repeat' split) <;> omega
  · intro hne
    have hmv : ¬ offS a x p0 1 = x := fun e => hne (by show [offS a x p0 1] = [x]; rw [e])
    clear hne h
    show (if a = 1 then (if (offS a x p0 1) = -1 then 0 else 1) else if (offS a x p0 1) = 0 then 0 else if (offS a x p0 1) = -1 then p0 + 2 else p0 + 1 - (offS a x p0 1) : Int) < if a = 1 then (if x = -1 then 0 else 1) else if x = 0 then 0 else if x = -1 then p0 + 2 else p0 + 1 - x
    (try unfold offS at *); (try unfold lastsN at *); (repeat' split at *) <;> (repeat' split) <;> omega
  · exact possN_offdelay p0 x a 1 (by omega) (by omega) hx ha
def F_ondelay (p0 a : Int) (st : List Int) : List Int := [onS a (st.getD 0 0) p0 1]
def O_ondelay (p0 a : Int) (st : List Int) : Int := onV a (st.getD 0 0) p0 1
def mu_ondelay (p0 a : Int) (st : List Int) : Int := if a = 1 then p0 + 2 - (st.getD 0 0) else if (st.getD 0 0) = 0 then 0 else 1
set_option maxHeartbeats 4000000 in
theorem mu_ondelay_at (p0 a : Int) (st : List Int) (hr : 0 ≤ p0 ∧ p0 ≤ 200) (ha : a = 0 ∨ a = 1) (h : poss_ondelay p0 st = true) : (0 ≤ mu_ondelay p0 a st ∧ mu_ondelay p0 a st ≤ 1000) ∧ (F_ondelay p0 a st ≠ st → mu_ondelay p0 a (F_ondelay p0 a st) < mu_ondelay p0 a st) ∧ poss_ondelay p0 (F_ondelay p0 a st) = true := by
  obtain ⟨x, rfl⟩ := poss_ondelay_at h
  have hx := inZ_le (show inZ 0 x (p0 + 1) = true from h)
  refine ⟨?_, ?_, ?_⟩
  · show 0 ≤ (if a = 1 then p0 + 2 - x else if x = 0 then 0 else 1 : Int) ∧ (if a = 1 then p0 + 2 - x else if x = 0 then 0 else 1 : Int) ≤ 1000
    (try unfold onS at *); (repeat' split at *) <;> (repeat' split) <;> omega
  · intro hne
    have hmv : ¬ onS a x p0 1 = x := fun e => hne (by show [onS a x p0 1] = [x]; rw [e])
    clear hne h
    show (if a = 1 then p0 + 2 - (onS a x p0 1) else if (onS a x p0 1) = 0 then 0 else 1 : Int) < if a = 1 then p0 + 2 - x else if x = 0 then 0 else 1
    (try unfold onS at *); (repeat' split at *) <;> (repeat' split) <;> omega
  · exact possN_ondelay p0 x a 1 (by omega) (by omega) hx ha
def F_pulse (p0 a : Int) (st : List Int) : List Int := [a, pulS a (st.getD 0 0) (st.getD 1 0) p0 1]
def O_pulse (p0 a : Int) (st : List Int) : Int := pulV a (st.getD 0 0) (st.getD 1 0) p0 1
def mu_pulse (p0 a : Int) (st : List Int) : Int := (if (st.getD 0 0) = a then 0 else p0 + 5) + (if (st.getD 1 0) = 0 then 0 else p0 + 1 - (st.getD 1 0))
set_option maxHeartbeats 4000000 in
theorem mu_pulse_at (p0 a : Int) (st : List Int) (hr : 0 ≤ p0 ∧ p0 ≤ 200) (ha : a = 0 ∨ a = 1) (h : poss_pulse p0 st = true) : (0 ≤ mu_pulse p0 a st ∧ mu_pulse p0 a st ≤ 1000) ∧ (F_pulse p0 a st ≠ st → mu_pulse p0 a (F_pulse p0 a st) < mu_pulse p0 a st) ∧ poss_pulse p0 (F_pulse p0 a st) = true := by
  obtain ⟨x, y, rfl⟩ := poss_pulse_at h
  have hxy : (inZ 0 x 1 && inZ 0 y p0) = true := h
  rw [Bool.and_eq_true] at hxy
  have hx := inZ_le hxy.1
  have hy := inZ_le hxy.2
  refine ⟨?_, ?_, ?_⟩
  · show 0 ≤ ((if x = a then 0 else p0 + 5) + (if y = 0 then 0 else p0 + 1 - y) : Int) ∧ ((if x = a then 0 else p0 + 5) + (if y = 0 then 0 else p0 + 1 - y) : Int) ≤ 1000
    (try unfold pulS at *); (try unfold lastsN at *); (repeat' split at *) <;> (repeat' split) <;> omega
  · intro hne
    have hmv : ¬ (a = x ∧ pulS a x y p0 1 = y) := fun e => hne (by show [a, pulS a x y p0 1] = [x, y]; rw [List.cons.injEq, List.cons.injEq]; exact ⟨e.1, e.2, rfl⟩)
    clear hne h
    show ((if (a) = a then 0 else p0 + 5) + (if (pulS a x y p0 1) = 0 then 0 else p0 + 1 - (pulS a x y p0 1)) : Int) < (if x = a then 0 else p0 + 5) + (if y = 0 then 0 else p0 + 1 - y)
    (try unfold pulS at *); (try unfold lastsN at *); (repeat' split at *) <;> (repeat' split) <;> omega
  · exact possN_pulse p0 x y a 1 (by omega) (by omega) hx hy ha
end Go.Proofs.YtmhfkdnblemfdaaDoor
