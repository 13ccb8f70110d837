/- Plain facts of the law Late: a late or an impossible write changes nothing. -/
import Derived.Test.YtlmilalibgehpaaKl
namespace Go.Proofs.Ytlmilalibgehpaa
open Go.RowKit

theorem snoc_best (xs : List WrD) (x : WrD) : bestS (xs ++ [x]) = addS (bestS xs) x := by rw [← best_append]; rfl
theorem bad_no (xs : List WrD) (x : WrD) (h : checkW x ≠ 0) : bestS (xs ++ [x]) = bestS xs := by rw [snoc_best, addS_bad h]
theorem late_no (xs : List WrD) (x y : WrD) (ha : y ∈ writesL (bestS xs)) (hl : y.l = x.l) (hq : x.q < y.q) : bestS (xs ++ [x]) = bestS xs := by
  by_cases h0 : checkW x = 0
  · obtain ⟨p, hp, rfl, hne⟩ := (mem_writes _ _).1 ha
    have hlev := best_level xs p hne
    rw [snoc_best]
    refine addS_low (p := p) (by omega) (fun h => ?_)
    have hs := (cmp_less _ _).1 h
    unfold lessB at hs
    rw [if_pos (by omega)] at hs
    have := of_decide_eq_true hs
    omega
  · exact bad_no xs x h0
theorem late_left (xs : List WrD) (x : WrD) (h : bestS (xs ++ [x]) = bestS xs) : writesL (bestS (writesL (bestS xs) ++ [x])) = writesL (bestS xs) := by rw [best_join_left, h]
theorem late_right (xs : List WrD) (x : WrD) (h : bestS (xs ++ [x]) = bestS xs) : writesL (bestS ([x] ++ xs)) = writesL (bestS xs) := by rw [best_comm, h]
end Go.Proofs.Ytlmilalibgehpaa
