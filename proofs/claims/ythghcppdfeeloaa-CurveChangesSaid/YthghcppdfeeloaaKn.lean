/- A list of knots that came in: its cells; what the specification says of it, in plain terms. -/
import Derived.Test.YthghcppdfeeloaaZ
namespace Go.Proofs.Ythghcppdfeeloaa
open Go.RowKit

def kx (ks : List (Int × Int)) (i : Nat) : Int := (ks.getD i (0, 0)).1
def ky (ks : List (Int × Int)) (i : Nat) : Int := (ks.getD i (0, 0)).2
/-- the cells of a list of knots -/
def Knots (w : World) (b off : Nat) (ks : List (Int × Int)) : Prop :=
  ∀ i, i < ks.length → w.cell? ⟨b, off + i * 2, none⟩ = some (.int .i64 (kx ks i)) ∧ w.cell? ⟨b, off + i * 2 + 1, none⟩ = some (.int .i64 (ky ks i))
/-- a list of knots that came in -/
def IsKnots (w : World) (a : Option Addr) (len : Nat) (ks : List (Int × Int)) : Prop :=
  (len = 0 ∧ ks = []) ∨ ∃ b off, a = some ⟨b, off, none⟩ ∧ b < w.heap.size ∧ len = ks.length ∧ len ≤ 9223372036854775807 ∧ Knots w b off ks
def inR (n : Int) : Bool := decide (-1000000000000 ≤ n) && decide (n ≤ 1000000000000)
/-- the first k knots are within the limits -/
def fitL (ks : List (Int × Int)) (k : Nat) : Bool := (List.range k).all fun i => inR (kx ks i) && inR (ky ks i)
/-- the first k steps rise -/
def riseL (ks : List (Int × Int)) (k : Nat) : Bool := (List.range k).all fun i => decide (kx ks i < kx ks (i + 1))
def checkL (ks : List (Int × Int)) : Int :=
  if ks.length = 0 ∨ 32 < ks.length then 1 else if fitL ks ks.length = false then 6 else if riseL ks (ks.length - 1) = false then 5 else 0
theorem all_succ (p : Nat → Bool) (k : Nat) : (List.range (k + 1)).all p = ((List.range k).all p && p k) := by
  rw [List.range_succ, List.all_append, List.all_cons, List.all_nil, Bool.and_true]
theorem all_stop (p : Nat → Bool) (k n : Nat) (h : k < n) (hp : p k = false) : (List.range n).all p = false := by
  rw [← Bool.not_eq_true, List.all_eq_true]
  intro h2
  have := h2 k (List.mem_range.2 h)
  rw [hp] at this; cases this
theorem all_at (p : Nat → Bool) (k n : Nat) (h : (List.range n).all p = true) (hk : k < n) : p k = true := by
  rw [List.all_eq_true] at h; exact h k (List.mem_range.2 hk)
theorem inR_iff (n : Int) : inR n = true ↔ -1000000000000 ≤ n ∧ n ≤ 1000000000000 := by unfold inR; rw [Bool.and_eq_true, decide_eq_true_eq, decide_eq_true_eq]
theorem inR_clamp (n : Int) : inR n = (clampI n == n) := by
  unfold inR clampI
  by_cases h1 : -1000000000000 ≤ n
  · by_cases h2 : n ≤ 1000000000000
    · rw [decide_eq_true h1, decide_eq_true h2]; symm; rw [Bool.and_true, beq_iff_eq]; omega
    · rw [decide_eq_true h1, decide_eq_false h2]; symm; rw [Bool.and_false, beq_eq_false_iff_ne]; omega
  · rw [decide_eq_false h1, Bool.false_and]; symm; rw [beq_eq_false_iff_ne]; omega
theorem Knots.at {w : World} {b off : Nat} {ks : List (Int × Int)} (h : Knots w b off ks) {w' : World} (hb : b < w.heap.size) (hw : Below w.heap.size w w') : Knots w' b off ks :=
  fun i hi => ⟨(hw.cell (p := ⟨b, off + i * 2, none⟩) hb).trans (h i hi).1, (hw.cell (p := ⟨b, off + i * 2 + 1, none⟩) hb).trans (h i hi).2⟩
end Go.Proofs.Ythghcppdfeeloaa
