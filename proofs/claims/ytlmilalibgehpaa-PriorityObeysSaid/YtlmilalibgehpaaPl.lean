/- Plain facts of the slots: what a slot holds depends on the possible writes that there are, not on their order or number. -/
import Derived.Test.YtlmilalibgehpaaL
namespace Go.Proofs.Ytlmilalibgehpaa
open Go.RowKit

theorem less_self (a : WrD) : lessB a a = false := by unfold lessB; simp
theorem less_iff (a b : WrD) : lessB a b = true ↔ a.q < b.q ∨ (a.q = b.q ∧ (a.k < b.k ∨ (a.k = b.k ∧ a.n < b.n))) := by
  unfold lessB
  by_cases h1 : a.q = b.q
  · rw [if_neg (fun g => g h1)]
    by_cases h2 : a.k = b.k
    · rw [if_neg (fun g => g h2)]; simp only [decide_eq_true_eq]; omega
    · rw [if_pos h2]; simp only [decide_eq_true_eq]; omega
  · rw [if_pos h1]; simp only [decide_eq_true_eq]; omega
theorem less_trans {a b c : WrD} (h : lessB a b = true) (g : lessB b c = true) : lessB a c = true := by
  rw [less_iff] at h g ⊢; omega
theorem less_total {a b : WrD} (h : lessB a b = false) (g : lessB b a = false) (hl : a.l = b.l) : a = b := by
  have h1 : ¬ lessB a b = true := by rw [h]; simp
  have g1 : ¬ lessB b a = true := by rw [g]; simp
  rw [less_iff] at h1 g1
  obtain ⟨l, q, k, n⟩ := a
  obtain ⟨l2, q2, k2, n2⟩ := b
  simp only at h1 g1 hl
  have e1 : q = q2 := by omega
  have e2 : k = k2 := by omega
  have e3 : n = n2 := by omega
  subst hl e1 e2 e3; rfl

/-- the write that holds at a place among some writes -/
def Top (xs : List WrD) (p : Nat) (y : WrD) : Prop :=
  (∀ x ∈ xs, checkW x = 0 → x.l = (p : Int) + 1 → lessB y x = false) ∧ (y = zW ∨ (y ∈ xs ∧ checkW y = 0 ∧ y.l = (p : Int) + 1))
theorem top_one {xs : List WrD} {p : Nat} {y y' : WrD} (h : Top xs p y) (h' : Top xs p y') : y = y' := by
  rcases h.2 with rfl | ⟨m, c, l⟩
  · rcases h'.2 with rfl | ⟨m, c, l⟩
    · rfl
    · have := h.1 _ m c l; rw [less_zero c] at this; cases this
  · rcases h'.2 with rfl | ⟨m', c', l'⟩
    · have := h'.1 _ m c l; rw [less_zero c] at this; cases this
    · exact less_total (h.1 _ m' c' l') (h'.1 _ m c l) (l.trans l'.symm)
theorem top_step {ys : List WrD} {p : Nat} (x : WrD) (h : Top ys p (bestS ys p)) : Top (ys ++ [x]) p (bestS (ys ++ [x]) p) := by
  rw [← best_append]
  have e : slotsF (bestS ys) [x] = addS (bestS ys) x := rfl
  rw [e]
  have keep : addS (bestS ys) x p = bestS ys p → (checkW x = 0 → x.l = (p : Int) + 1 → lessB (bestS ys p) x = false) → Top (ys ++ [x]) p (addS (bestS ys) x p) := by
    intro e hx
    rw [e]
    refine ⟨fun z hz hc hl => ?_, h.2.imp id (fun g => ⟨List.mem_append_left _ g.1, g.2⟩)⟩
    rcases List.mem_append.1 hz with hz | hz
    · exact h.1 z hz hc hl
    · obtain rfl := List.mem_singleton.1 hz; exact hx hc hl
  by_cases hl : x.l = (p : Int) + 1
  · by_cases hc : checkW x = 0
    · by_cases hs : lessB (bestS ys p) x = true
      · rw [add_same hl hc, if_pos hs]
        refine ⟨fun z hz hcz hlz => ?_, .inr ⟨List.mem_append_right _ (List.mem_singleton.2 rfl), hc, hl⟩⟩
        rcases List.mem_append.1 hz with hz | hz
        · cases hxz : lessB x z
          · rfl
          · have := h.1 z hz hcz hlz
            rw [less_trans hs hxz] at this; cases this
        · obtain rfl := List.mem_singleton.1 hz; exact less_self _
      · refine keep (by rw [add_same hl hc, if_neg hs]) (fun _ _ => by simpa using hs)
    · exact keep (by unfold addS; rw [if_neg (fun g => hc g.1)]) (fun g => absurd g hc)
  · exact keep (add_other hl) (fun _ g => absurd g hl)
theorem top_all (p : Nat) (xs : List WrD) : ∀ ys : List WrD, Top ys p (bestS ys p) → Top (ys ++ xs) p (bestS (ys ++ xs) p) := by
  induction xs with
  | nil => intro ys h; rw [List.append_nil]; exact h
  | cons x r ih =>
    intro ys h
    have := ih (ys ++ [x]) (top_step x h)
    rw [List.append_assoc] at this
    exact this
theorem best_top (xs : List WrD) (p : Nat) : Top xs p (bestS xs p) := by
  have := top_all p xs [] ⟨fun x h => absurd h List.not_mem_nil, .inl rfl⟩
  rwa [List.nil_append] at this
theorem best_is {xs : List WrD} {p : Nat} {y : WrD} (h : Top xs p y) : bestS xs p = y := top_one (best_top xs p) h
/-- the slots depend on which possible writes there are -/
theorem best_congr {xs ys : List WrD} (h : ∀ x, checkW x = 0 → (x ∈ xs ↔ x ∈ ys)) : bestS xs = bestS ys := by
  funext p
  refine (best_is ⟨fun x hx hc hl => ?_, ?_⟩)
  · exact (best_top ys p).1 x ((h x hc).1 hx) hc hl
  · exact (best_top ys p).2.imp id (fun g => ⟨(h _ g.2.1).2 g.1, g.2⟩)
theorem best_comm (xs ys : List WrD) : bestS (xs ++ ys) = bestS (ys ++ xs) := best_congr (fun x _ => by rw [List.mem_append, List.mem_append, or_comm])
theorem best_self (xs : List WrD) : bestS (xs ++ xs) = bestS xs := best_congr (fun x _ => by rw [List.mem_append, or_self])
theorem best_far (xs : List WrD) (p : Nat) (hp : 16 ≤ p) : bestS xs p = zW := by
  rcases (best_top xs p).2 with h | ⟨_, c, l⟩
  · exact h
  · have := check_level c; omega
theorem mem_writes (S : Nat → WrD) (x : WrD) : x ∈ writesL S ↔ ∃ p, p < 16 ∧ S p = x ∧ x.q ≠ 0 := by
  unfold writesL slotL
  rw [List.mem_filter, List.mem_map]
  constructor
  · rintro ⟨⟨p, hp, rfl⟩, hq⟩
    exact ⟨p, List.mem_range.1 hp, rfl, by simpa using hq⟩
  · rintro ⟨p, hp, rfl, hq⟩
    exact ⟨⟨p, List.mem_range.2 hp, rfl⟩, by simpa using hq⟩
/-- the array of an array is the array -/
theorem best_writes (xs : List WrD) : bestS (writesL (bestS xs)) = bestS xs := by
  funext p
  refine best_is ⟨fun x hx hc hl => ?_, ?_⟩
  · obtain ⟨j, hj, rfl, hq⟩ := (mem_writes _ _).1 hx
    rcases (best_top xs j).2 with h | ⟨m, c, l⟩
    · rw [h] at hq; exact absurd rfl hq
    · have : j = p := by omega
      subst this; exact less_self _
  · rcases (best_top xs p).2 with h | ⟨m, c, l⟩
    · exact .inl h
    · have hp := check_level c
      have := good_seq c
      exact .inr ⟨(mem_writes _ _).2 ⟨p, by omega, rfl, by omega⟩, c, l⟩
theorem best_join_left (xs ys : List WrD) : bestS (writesL (bestS xs) ++ ys) = bestS (xs ++ ys) := by
  rw [← best_append, best_writes, best_append]
theorem best_join_right (xs ys : List WrD) : bestS (xs ++ writesL (bestS ys)) = bestS (xs ++ ys) := by
  rw [best_comm, best_join_left, best_comm]
theorem best_join (xs ys : List WrD) : bestS (writesL (bestS xs) ++ writesL (bestS ys)) = bestS (xs ++ ys) := by
  rw [best_join_left, best_join_right]
end Go.Proofs.Ytlmilalibgehpaa
