/- A struct in memory of the call's own, as a row of cells: kept, stored whole, clear of others; boxes. -/
import Derived.WalkKit
import Derived.RowKit
import Derived.Below
import Derived.Lib.Hide
import Derived.Lib.SmallJoins
import Derived.Laws.StructEq
import Derived.Laws.Cover2
import Derived.RegionTactic
import Derived.Deep.RegionHeld3
import Derived.IntWalk
import Derived.Lib.EndianMore
import Derived.Lib.ReflectliteSwap
import Derived.Test.YtaaaddmdcldclaaGreatDoorChecked
namespace Go.Proofs.YtaaaddmdcldclaaGreatDoor
open Go.RowKit

/-- the cells of a struct, from cell 0 of a block on; the block may be written -/
structure RowAt (w : World) (b : Nat) (L : List Value) : Prop where
  c : ∀ i v, L[i]? = some v → w.cell? ⟨b, i, none⟩ = some v
  fz : ∀ o, w.frozen? ⟨b, o, none⟩ = false
  lt : b < w.heap.size
theorem RowAt.keep {w w' : World} {b : Nat} {L : List Value} (t : RowAt w b L) (hb : Below w.heap.size w w') : RowAt w' b L :=
  ⟨fun i v h => (hb.cell (p := ⟨b, i, none⟩) t.lt).trans (t.c i v h), fun o => (hb.frozen (p := ⟨b, o, none⟩) t.lt).trans (t.fz o), Nat.lt_of_lt_of_le t.lt hb.size⟩
theorem RowAt.drew {w : World} {b : Nat} {L : List Value} (t : RowAt w b L) : RowAt w.drew b L := t.keep (Below.refl _ _).drew
theorem row_fresh (w : World) (A : Array Value) (T : TypeId) : RowAt (w.alloc (Obj.cells A T)) w.heap.size A.toList :=
  ⟨fun i v h => by rw [World.cell?_alloc_new]; simpa using h, fun o => by simp, by rw [World.size_alloc]; omega⟩
theorem sz_setCells (b : Nat) : ∀ (M : List Value) (o : Nat) (w : World), (w.setCells b o M).heap.size = w.heap.size
  | [], _, _ => rfl
  | v :: r, o, w => (sz_setCells b r (o + 1) (w.setCell ⟨b, o, none⟩ v)).trans (World.size_setCell _ _ _)
theorem RowAt.set {w : World} {b : Nat} {L : List Value} (t : RowAt w b L) (M : List Value) (hM : M.length ≤ L.length) : ∀ i v, M[i]? = some v → (w.setCells b 0 M).cell? ⟨b, i, none⟩ = some v := by
  intro i v h
  have hin := World.cell?_setCells_in b M 0 w (fun j hj => by
    rw [Nat.zero_add]
    have : j < L.length := by omega
    rw [t.c j _ (List.getElem?_eq_getElem this)]; rfl)
  have hl : i < M.length := (List.getElem?_eq_some_iff.1 h).1
  have := hin i hl
  rw [Nat.zero_add] at this
  rw [this]
  obtain ⟨_, e⟩ := List.getElem?_eq_some_iff.1 h
  rw [← e]
theorem RowAt.setRow {w : World} {b : Nat} {L : List Value} (t : RowAt w b L) (M : List Value) (hM : M.length = L.length) : RowAt (w.setCells b 0 M) b M :=
  ⟨t.set M (by omega), fun o => by rw [World.frozen?_setCells]; exact t.fz o, by rw [sz_setCells]; exact t.lt⟩
theorem cell_setCells_other {g b : Nat} (hne : g ≠ b) : ∀ (M : List Value) (o : Nat) (w : World) (k : Nat), (w.setCells g o M).cell? ⟨b, k, none⟩ = w.cell? ⟨b, k, none⟩
  | [], _, _, _ => rfl
  | _ :: r, o, _, k => (cell_setCells_other hne r (o + 1) _ k).trans (World.cell?_setCell_other _ _ _ _ (fun e => hne (congrArg Addr.block e)))
theorem RowAt.other {w : World} {b g : Nat} {L : List Value} (t : RowAt w b L) (hne : g ≠ b) (M : List Value) : RowAt (w.setCells g 0 M) b L :=
  ⟨fun i v h => (cell_setCells_other hne M 0 w i).trans (t.c i v h), fun o => by rw [World.frozen?_setCells]; exact t.fz o, by rw [sz_setCells]; exact t.lt⟩
theorem set_below {B : Nat} {w0 w : World} {b : Nat} (h : Below B w0 w) (hb : B ≤ b) (M : List Value) : Below B w0 (w.setCells b 0 M) := h.trans (Lib.below_setCells_w hb _ _ _)
theorem box1 (w : World) (A : Array Value) (T : TypeId) : ∃ W b, W = w.alloc (Obj.cells A T) ∧ b = w.heap.size ∧ RowAt W b A.toList ∧ Below w.heap.size w W ∧ W.heap.size = w.heap.size + 1 :=
  ⟨_, _, rfl, rfl, row_fresh w A T, (Below.refl _ _).alloc (Nat.le_refl _) _, World.size_alloc _ _⟩
theorem box2 (w : World) (A : Array Value) (T : TypeId) (A1 : Array Value) (T1 : TypeId) : ∃ W b b1, W = (w.alloc (Obj.cells A T)).alloc (Obj.cells A1 T1) ∧ b = w.heap.size ∧ b1 = w.heap.size + 1 ∧ RowAt W b A.toList ∧ RowAt W b1 A1.toList ∧ Below w.heap.size w W ∧ W.heap.size = w.heap.size + 2 := by
  obtain ⟨W, b, rfl, rfl, r, k, z⟩ := box1 w A T
  obtain ⟨W1, b1, rfl, rfl, r1, k1, z1⟩ := box1 (w.alloc (Obj.cells A T)) A1 T1
  exact ⟨_, _, _, rfl, rfl, z, r.keep k1, r1, k.trans (k1.mono k.size), by omega⟩
theorem box3 (w : World) (A : Array Value) (T : TypeId) (A1 : Array Value) (T1 : TypeId) (A2 : Array Value) (T2 : TypeId) : ∃ W b b1 b2, W = ((w.alloc (Obj.cells A T)).alloc (Obj.cells A1 T1)).alloc (Obj.cells A2 T2) ∧ b = w.heap.size ∧ b1 = w.heap.size + 1 ∧ b2 = w.heap.size + 2 ∧ RowAt W b A.toList ∧ RowAt W b1 A1.toList ∧ RowAt W b2 A2.toList ∧ Below w.heap.size w W ∧ W.heap.size = w.heap.size + 3 := by
  obtain ⟨W, b, b1, rfl, rfl, rfl, r, r1, k, z⟩ := box2 w A T A1 T1
  obtain ⟨W2, b2, rfl, rfl, r2, k2, z2⟩ := box1 ((w.alloc (Obj.cells A T)).alloc (Obj.cells A1 T1)) A2 T2
  exact ⟨_, _, _, _, rfl, rfl, rfl, z, r.keep k2, r1.keep k2, r2, k.trans (k2.mono k.size), by omega⟩
theorem box4 (w : World) (A : Array Value) (T : TypeId) (A1 : Array Value) (T1 : TypeId) (A2 : Array Value) (T2 : TypeId) (A3 : Array Value) (T3 : TypeId) : ∃ W b b1 b2 b3, W = (((w.alloc (Obj.cells A T)).alloc (Obj.cells A1 T1)).alloc (Obj.cells A2 T2)).alloc (Obj.cells A3 T3) ∧ b = w.heap.size ∧ b1 = w.heap.size + 1 ∧ b2 = w.heap.size + 2 ∧ b3 = w.heap.size + 3 ∧ RowAt W b A.toList ∧ RowAt W b1 A1.toList ∧ RowAt W b2 A2.toList ∧ RowAt W b3 A3.toList ∧ Below w.heap.size w W ∧ W.heap.size = w.heap.size + 4 := by
  obtain ⟨W, b, b1, b2, rfl, rfl, rfl, rfl, r, r1, r2, k, z⟩ := box3 w A T A1 T1 A2 T2
  obtain ⟨W3, b3, rfl, rfl, r3, k3, z3⟩ := box1 (((w.alloc (Obj.cells A T)).alloc (Obj.cells A1 T1)).alloc (Obj.cells A2 T2)) A3 T3
  exact ⟨_, _, _, _, _, rfl, rfl, rfl, rfl, z, r.keep k3, r1.keep k3, r2.keep k3, r3, k.trans (k3.mono k.size), by omega⟩
end Go.Proofs.YtaaaddmdcldclaaGreatDoor
