/- Small facts on new blocks. -/
import Derived.Test.YtlahoohgbfjciaaGreatDoorG
import Derived.Shelf.SlSorted.Search
import Derived.RegionTactic
import Derived.Deep.RegionHeld3
import Derived.IntWalk
namespace Go.Proofs.YtlahoohgbfjciaaGreatDoor
open Go.RowKit Go.Shelf

theorem cell_two0 (W : World) (u v : Value) (t : TypeId) : (W.alloc (.cells #[u, v] t)).cell? ⟨W.heap.size, 0, none⟩ = some u := by
  rw [World.cell?_alloc_at _ _ _ _ (by simp)]; rfl
theorem cell_two1 (W : World) (u v : Value) (t : TypeId) : (W.alloc (.cells #[u, v] t)).cell? ⟨W.heap.size, 1, none⟩ = some v := by
  rw [World.cell?_alloc_at _ _ _ _ (by simp)]; rfl

/-- two new blocks of two cells -/
theorem two_blocks (w w1 : World) (B : Below w.heap.size w w1) (u v u' v' : Value) (t t' : TypeId) :
    Below w.heap.size w ((w1.alloc (.cells #[u, v] t)).alloc (.cells #[u', v'] t')).drew ∧ ((w1.alloc (.cells #[u, v] t)).alloc (.cells #[u', v'] t')).drew.heap.size = w1.heap.size + 2 ∧
    (∀ (p : Addr) (z : Value), w1.cell? p = some z → ((w1.alloc (.cells #[u, v] t)).alloc (.cells #[u', v'] t')).drew.cell? p = some z) ∧
    ((w1.alloc (.cells #[u, v] t)).alloc (.cells #[u', v'] t')).drew.cell? ⟨w1.heap.size, 0, none⟩ = some u ∧ ((w1.alloc (.cells #[u, v] t)).alloc (.cells #[u', v'] t')).drew.cell? ⟨w1.heap.size, 1, none⟩ = some v ∧
    ((w1.alloc (.cells #[u, v] t)).alloc (.cells #[u', v'] t')).drew.cell? ⟨w1.heap.size + 1, 0, none⟩ = some u' ∧ ((w1.alloc (.cells #[u, v] t)).alloc (.cells #[u', v'] t')).drew.cell? ⟨w1.heap.size + 1, 1, none⟩ = some v' := by
  have e := World.size_alloc w1 (.cells #[u, v] t)
  refine ⟨((B.alloc B.size _).alloc (by rw [World.size_alloc]; exact Nat.le_succ_of_le B.size) _).drew, by rw [World.size_drew, World.size_alloc, World.size_alloc], fun p z h => cell_alloc_sl _ (cell_alloc_sl _ h), cell_alloc_sl _ (cell_two0 _ _ _ _), cell_alloc_sl _ (cell_two1 _ _ _ _), ?_, ?_⟩
  · have h := cell_two0 (w1.alloc (.cells #[u, v] t)) u' v' t'
    rw [e] at h; exact h
  · have h := cell_two1 (w1.alloc (.cells #[u, v] t)) u' v' t'
    rw [e] at h; exact h

end Go.Proofs.YtlahoohgbfjciaaGreatDoor
