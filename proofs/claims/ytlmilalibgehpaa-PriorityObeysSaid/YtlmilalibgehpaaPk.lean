/- Plain facts of Keep: the program's loop over the levels and the specification's filter keep the same writes. -/
import Derived.Test.YtlmilalibgehpaaPl
namespace Go.Proofs.Ytlmilalibgehpaa
open Go.RowKit

def keepStep (S K : Nat → WrD) (l : Int) : Nat → WrD := if lvB l = true then setS K (l - 1).toNat (S (l - 1).toNat) else K
def keepF (S : Nat → WrD) (ls : List Int) : Nat → WrD := ls.foldl (keepStep S) (fun _ => zW)
theorem keepStep_at (S K : Nat → WrD) (l : Int) (p : Nat) : keepStep S K l p = if p < 16 ∧ (p : Int) + 1 = l then S p else K p := by
  unfold keepStep
  by_cases h1 : lvB l = true
  · have h2 : 1 ≤ l ∧ l ≤ 16 := by unfold lvB at h1; simpa using h1
    rw [if_pos h1]
    unfold setS
    by_cases h3 : p = (l - 1).toNat
    · rw [if_pos h3, if_pos ⟨by omega, by omega⟩, h3]
    · rw [if_neg h3, if_neg (by omega)]
  · rw [if_neg h1, if_neg (fun g => h1 (by unfold lvB; simp; omega))]
theorem keep_fold (S : Nat → WrD) (ls : List Int) : ∀ K : Nat → WrD, ls.foldl (keepStep S) K = fun p : Nat => if p < 16 ∧ (p : Int) + 1 ∈ ls then S p else K p := by
  induction ls with
  | nil => intro K; funext p; rw [if_neg (fun g => absurd g.2 List.not_mem_nil)]; rfl
  | cons l r ih =>
    intro K
    show r.foldl (keepStep S) (keepStep S K l) = _
    rw [ih]
    funext p
    by_cases hr : p < 16 ∧ (p : Int) + 1 ∈ r
    · rw [if_pos hr, if_pos ⟨hr.1, List.mem_cons_of_mem _ hr.2⟩]
    · rw [if_neg hr]
      rw [keepStep_at]
      by_cases hl : p < 16 ∧ (p : Int) + 1 = l
      · have : p < 16 ∧ (p : Int) + 1 ∈ l :: r := ⟨hl.1, by rw [hl.2]; exact List.mem_cons_self⟩
        rw [if_pos hl, if_pos this]
      · have : ¬ (p < 16 ∧ (p : Int) + 1 ∈ l :: r) := by
          rintro ⟨g1, g2⟩
          rcases List.mem_cons.1 g2 with e | e
          · exact hl ⟨g1, e⟩
          · exact hr ⟨g1, e⟩
        rw [if_neg hl, if_neg this]
theorem keepF_at (S : Nat → WrD) (ls : List Int) (p : Nat) : keepF S ls p = if p < 16 ∧ (p : Int) + 1 ∈ ls then S p else zW := by
  unfold keepF; rw [keep_fold]
theorem keepF_take (S : Nat → WrD) (ls : List Int) (j : Nat) (l : Int) (h : ls[j]? = some l) : keepF S (ls.take (j + 1)) = keepStep S (keepF S (ls.take j)) l := by
  unfold keepF; rw [List.take_add_one, h, List.foldl_append]; rfl
theorem keep_list (S : Nat → WrD) (ls : List Int) (hS : ∀ p, (S p).q ≠ 0 → (S p).l = (p : Int) + 1) : ∀ L : List Nat, (∀ p ∈ L, p < 16) →
    (L.map (keepF S ls)).filter (fun x => decide (x.q ≠ 0)) = ((L.map S).filter (fun x => decide (x.q ≠ 0))).filter (fun x => decide (x.l ∈ ls)) := by
  intro L
  induction L with
  | nil => intro _; rfl
  | cons p r ih =>
    intro h
    have hp := h p List.mem_cons_self
    have ih' := ih (fun q hq => h q (List.mem_cons_of_mem _ hq))
    have pass : decide ((S p).q ≠ 0) = true → ((S p :: r.map S).filter (fun x => decide (x.q ≠ 0))) = S p :: (r.map S).filter (fun x => decide (x.q ≠ 0)) := fun g => List.filter_cons_of_pos g
    have pass' : ¬ (S p).q = 0 → ((S p :: r.map (keepF S ls)).filter (fun x => decide (x.q ≠ 0))) = S p :: (r.map (keepF S ls)).filter (fun x => decide (x.q ≠ 0)) := fun g => List.filter_cons_of_pos (by simpa using g)
    rw [List.map_cons, List.map_cons, keepF_at]
    by_cases hq : (S p).q = 0
    · have e : (if p < 16 ∧ (p : Int) + 1 ∈ ls then S p else zW).q = 0 := by split; exact hq; rfl
      rw [List.filter_cons_of_neg (by rw [e]; simp), List.filter_cons_of_neg (by rw [hq]; simp), ih']
    · rw [pass (by simpa using hq)]
      by_cases hm : (p : Int) + 1 ∈ ls
      · rw [if_pos ⟨hp, hm⟩, pass' hq, ih', List.filter_cons_of_pos (by rw [hS p hq]; simpa using hm)]
      · rw [if_neg (fun g => hm g.2), List.filter_cons_of_neg (by simp [zW]), ih', List.filter_cons_of_neg (by rw [hS p hq]; simpa using hm)]
theorem best_level (xs : List WrD) (p : Nat) (h : (bestS xs p).q ≠ 0) : (bestS xs p).l = (p : Int) + 1 := by
  rcases (best_top xs p).2 with e | ⟨_, _, l⟩
  · rw [e] at h; exact absurd rfl h
  · exact l
/-- the two ways to keep the writes of some levels -/
theorem keep_writes (xs : List WrD) (ls : List Int) : writesL (keepF (bestS xs) ls) = (writesL (bestS xs)).filter (fun x => decide (x.l ∈ ls)) :=
  keep_list (bestS xs) ls (best_level xs) (List.range 16) (fun _ hp => List.mem_range.1 hp)
end Go.Proofs.Ytlmilalibgehpaa
