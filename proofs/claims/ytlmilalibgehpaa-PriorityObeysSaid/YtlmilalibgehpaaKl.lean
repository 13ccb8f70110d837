/- Slices of numbers as flat lists; a filter and a taken list; the number of writes of an array. -/
import Derived.Test.YtlmilalibgehpaaPk
namespace Go.Proofs.Ytlmilalibgehpaa
open Go.RowKit

theorem filter_takeP {α : Type} (p : α → Bool) (L : List α) (k : Nat) (x : α) (h : L[k]? = some x) : (L.take (k + 1)).filter p = (L.take k).filter p ++ (if p x = true then [x] else []) := by
  rw [List.take_add_one, h, List.filter_append]
  by_cases hq : p x = true <;> simp [hq]
def iL (l : Int) : List Value := [.int .i64 l]
theorem iL_len (l : Int) : (iL l).length = 1 := rfl
def lsB (ls : List Int) (x : WrD) : Bool := decide (x.l ∈ ls)
theorem writes_len (S : Nat → WrD) : (writesL S).length ≤ 16 := by
  unfold writesL
  exact Nat.le_trans (List.length_filter_le _ _) (by rw [slotL_len]; exact Nat.le_refl _)
theorem keepF_nil (S : Nat → WrD) : keepF S [] = fun _ => zW := rfl
end Go.Proofs.Ytlmilalibgehpaa
