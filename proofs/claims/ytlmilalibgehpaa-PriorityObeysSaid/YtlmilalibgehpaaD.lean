/- The sixteen slots in plain terms and in memory; worlds that differ in one block. -/
import Derived.Test.YtlmilalibgehpaaC
import Derived.Deep.MidRow
namespace Go.Proofs.Ytlmilalibgehpaa
open Go.RowKit

def zW : WrD := ⟨0, 0, 0, 0⟩
def setS (S : Nat → WrD) (p : Nat) (x : WrD) : Nat → WrD := fun i => if i = p then x else S i
def addS (S : Nat → WrD) (x : WrD) : Nat → WrD := if checkW x = 0 ∧ 0 < cmpW x (S (x.l - 1).toNat) then setS S (x.l - 1).toNat x else S
def slotsF (S : Nat → WrD) (xs : List WrD) : Nat → WrD := xs.foldl addS S
def slotL (S : Nat → WrD) : List WrD := (List.range 16).map S
def slotC (S : Nat → WrD) : List Value := flat wrL (slotL S)
theorem slotL_len (S : Nat → WrD) : (slotL S).length = 16 := by simp [slotL]
theorem slotC_len (S : Nat → WrD) : (slotC S).length = 64 := by rw [slotC, flat_len wrL_len, slotL_len]
theorem slotL_at (S : Nat → WrD) (p : Nat) (hp : p < 16) : (slotL S)[p]? = some (S p) := by
  unfold slotL
  rw [List.getElem?_map, List.getElem?_range hp]; rfl
theorem slotC_at (S : Nat → WrD) (p j : Nat) (hp : p < 16) (hj : j < 4) : (slotC S)[p * 4 + j]? = (wrL (S p))[j]? := flat_at wrL_len _ p _ (slotL_at S p hp) j hj
theorem check_level {x : WrD} (h : checkW x = 0) : 1 ≤ x.l ∧ x.l ≤ 16 := by
  unfold checkW at h
  by_cases hl : lvB x.l = false
  · rw [if_pos hl] at h; cases h
  · have hl : lvB x.l = true := by simpa using hl
    unfold lvB at hl
    simpa using hl
theorem addS_bad {S : Nat → WrD} {x : WrD} (h : checkW x ≠ 0) : addS S x = S := if_neg (fun g => h g.1)
theorem addS_low {S : Nat → WrD} {x : WrD} {p : Nat} (hp : (x.l - 1).toNat = p) (h : ¬ 0 < cmpW x (S p)) : addS S x = S := if_neg (fun g => h (by rw [← hp]; exact g.2))
theorem addS_new {S : Nat → WrD} {x : WrD} {p : Nat} (hp : (x.l - 1).toNat = p) (h0 : checkW x = 0) (h : 0 < cmpW x (S p)) : addS S x = setS S p x := by
  subst hp; exact if_pos ⟨h0, h⟩

/-- all blocks as before but one -/
structure KB (b : Nat) (w w' : World) : Prop where
  os : w'.os = w.os
  tape : w'.tape = w.tape
  output : w'.output = w.output
  size : w.heap.size ≤ w'.heap.size
  block : ∀ k, k < w.heap.size → k ≠ b → w'.heap[k]? = w.heap[k]?
theorem KB.refl (b : Nat) (w : World) : KB b w w := ⟨rfl, rfl, rfl, Nat.le_refl _, fun _ _ _ => rfl⟩
theorem KB.below {b : Nat} {w w1 w2 : World} (h : KB b w w1) (k : Below w1.heap.size w1 w2) : KB b w w2 :=
  ⟨k.os.trans h.os, k.tape.trans h.tape, k.output.trans h.output, Nat.le_trans h.size k.size, fun i hi hb => (k.block i (Nat.lt_of_lt_of_le hi h.size)).trans (h.block i hi hb)⟩
theorem KB.cells {b : Nat} {w w1 : World} (h : KB b w w1) (o : Nat) (M : List Value) : KB b w (w1.setCells b o M) := by
  have hb := Lib.below_setCells_w (B := b) (Nat.le_refl b) M o w1
  refine ⟨hb.os.trans h.os, hb.tape.trans h.tape, hb.output.trans h.output, by rw [sz_setCells]; exact h.size, fun k hk hne => ?_⟩
  have : ∀ (M : List Value) (o : Nat) (w1 : World), (w1.setCells b o M).heap[k]? = w1.heap[k]? := by
    intro M
    induction M with
    | nil => intro o w1; rfl
    | cons v r ih => intro o w1; exact (ih (o + 1) _).trans (heap_setCell_other w1 ⟨b, o, none⟩ k v hne)
  exact (this M o w1).trans (h.block k hk hne)
theorem KB.row {b : Nat} {w w' : World} (h : KB b w w') {k : Nat} {L : List Value} (t : RowAt w k L) (hne : k ≠ b) : RowAt w' k L :=
  ⟨fun i v hv => (World.cell?_of_block (a := ⟨k, i, none⟩) (h.block k t.lt hne)).trans (t.c i v hv), fun o => (World.frozen?_of_block (a := ⟨k, o, none⟩) (h.block k t.lt hne)).trans (t.fz o), Nat.lt_of_lt_of_le t.lt h.size⟩
theorem KB.to_below {b B : Nat} {w w' : World} (h : KB b w w') (hb : B ≤ b) (hw : B ≤ w.heap.size) : Below B w w' :=
  ⟨h.os, h.tape, h.output, h.size, fun k hk => h.block k (by omega) (by omega)⟩
theorem row_range {w : World} {b : Nat} {L : List Value} (t : RowAt w b L) : w.rangeAt b 0 L := fun j v hv => by rw [Nat.zero_add]; exact t.c j v hv
theorem row_there {w : World} {b : Nat} {L : List Value} (t : RowAt w b L) : w.there b 0 L.length := fun j hj => by
  rw [Nat.zero_add, t.c j _ (List.getElem?_eq_getElem hj)]
  exact ⟨rfl, t.fz _⟩
/-- one slot stored -/
theorem slot_set {w : World} {b : Nat} {S : Nat → WrD} (t : RowAt w b (slotC S)) (p : Nat) (hp : p < 16) (x : WrD) : RowAt (w.setCells b (p * 4) (wrL x)) b (slotC (setS S p x)) := by
  refine ⟨fun i v hv => ?_, fun o => by rw [World.frozen?_setCells]; exact t.fz o, by rw [sz_setCells]; exact t.lt⟩
  have hi : i < 64 := by rw [← slotC_len (setS S p x)]; exact (List.getElem?_eq_some_iff.1 hv).1
  obtain ⟨r, j, rfl, hj⟩ : ∃ r j, i = r * 4 + j ∧ j < 4 := ⟨i / 4, i % 4, by omega, Nat.mod_lt _ (by decide)⟩
  rw [slotC_at _ r j (by omega) hj] at hv
  by_cases hr : r = p
  · subst hr
    have hthere : w.there b (r * 4) (wrL x).length := fun j hj => by
      have hj' : j < 4 := hj
      have h2 : (slotC S)[r * 4 + j]? = some ((wrL (S r))[j]'(by show j < 4; exact hj')) := (slotC_at S r j hp hj').trans (List.getElem?_eq_getElem _)
      rw [t.c _ _ h2]
      exact ⟨rfl, t.fz _⟩
    have := World.rangeAt_setCells_same w b (r * 4) (wrL x) hthere j v (by rw [← hv]; unfold setS; rw [if_pos rfl])
    exact this
  · have h1 : (wrL (setS S p x r))[j]? = (wrL (S r))[j]? := by unfold setS; rw [if_neg hr]
    rw [h1] at hv
    have hc : w.rangeAt b (r * 4) (wrL (S r)) := fun j' v' hv' => by
      have hj' : j' < 4 := (List.getElem?_eq_some_iff.1 hv').1
      exact t.c _ _ ((slotC_at S r j' (by omega) hj').trans hv')
    exact World.rangeAt_setCells_apart hc b (p * 4) (wrL x) (by
      right
      have e1 : (wrL (S r)).length = 4 := rfl
      have e2 : (wrL x).length = 4 := rfl
      rw [e1, e2]
      omega) j v hv
theorem wrL_one (x : WrD) : ∀ v ∈ wrL x, v.oneCell' = true := by
  intro v hv
  simp [wrL] at hv
  rcases hv with rfl | rfl | rfl | rfl <;> rfl
theorem slotC_one (S : Nat → WrD) : ∀ v ∈ slotC S, v.oneCell' = true := by
  intro v hv
  unfold slotC flat at hv
  rw [List.mem_flatMap] at hv
  obtain ⟨x, _, hx⟩ := hv
  exact wrL_one x v hx
end Go.Proofs.Ytlmilalibgehpaa
