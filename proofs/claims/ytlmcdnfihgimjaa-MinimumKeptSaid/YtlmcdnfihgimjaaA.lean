/- Points, states and requests in plain terms. Contracts of the leaves: isBinaryOutput, binary, isOf, Is, instant, on. -/
import Derived.Test.YtlmcdnfihgimjaaRo
namespace Go.Proofs.Ytlmcdnfihgimjaa
open Go.RowKit

/-- a point: the cells that are read as numbers, the others as they are -/
structure Pt where
  nm : Value
  kd : Int
  rl : Int
  un : Value
  lo : Value
  hi : Value
  st : Value
  ss : Value
  dk : Value
  dn : Value
  on : Int
  off : Int
abbrev ptV (p : Pt) : Value := .agg #[p.nm, .int .i64 p.kd, .int .i64 p.rl, p.un, p.lo, p.hi, p.st, p.ss, p.dk, p.dn, .int .i64 p.on, .int .i64 p.off]
def binP (p : Pt) : Bool := decide (p.rl = 2) && decide (p.kd = 2)
def isP (p : Pt) (k n : Int) : Bool := decide (k = p.kd) && (decide (k ≠ 2) || decide (n = 0) || decide (n = 1))
def instB (n : Int) : Bool := decide (-6311433599 ≤ n) && decide (n ≤ 6311433599)
def ptL (p : Pt) : List Value := [p.nm, .int .i64 p.kd, .int .i64 p.rl, p.un, p.lo, p.hi, p.st, p.ss, p.dk, p.dn, .int .i64 p.on, .int .i64 p.off]
def timeP (p : Pt) (k n : Int) : Int := if binP p = true then (if k = 2 ∧ n = 1 then p.on else if k = 2 ∧ n = 0 then p.off else 0) else 0

set_option maxRecDepth 100000 in
theorem bin_any (p : Pt) (w : World) : Calls Try.prog 28 #[ptV p] w fun e w' => e = .returned (.bool (binP p)) ∧ Below w.heap.size w w' := by
  obtain ⟨nm, kd, rl, un, lo, hi, st, ss, dk, dn, on, off⟩ := p
  go_enter Try.func28, Try.ntmps28
  by_cases h1 : rl = 2 <;> by_cases h2 : kd = 2
  all_goals
    go_wp2_with fail
    go_ret
    exact ⟨by simp [binP, h1, h2], (Below.refl _ _).alloc (Nat.le_refl _) _⟩
set_option maxRecDepth 100000 in
theorem rbin_any (p : Pt) (w : World) : Calls Try.prog 29 #[ptV p] w fun e w' => e = .returned (.bool (binP p)) ∧ Below w.heap.size w w' := by
  obtain ⟨nm, kd, rl, un, lo, hi, st, ss, dk, dn, on, off⟩ := p
  go_enter Try.func29, Try.ntmps29
  by_cases h1 : rl = 2 <;> by_cases h2 : kd = 2
  all_goals
    go_wp2_with fail
    go_ret
    exact ⟨by simp [binP, h1, h2], (Below.refl _ _).alloc (Nat.le_refl _) _⟩
set_option maxRecDepth 100000 in
theorem isOf_any (p : Pt) (k n : Int) (w : World) : Calls Try.prog 25 #[ptV p, .agg #[.int .i64 k, .int .i64 n]] w fun e w' => e = .returned (.bool (isP p k n)) ∧ Below w.heap.size w w' := by
  obtain ⟨nm, kd, rl, un, lo, hi, st, ss, dk, dn, on, off⟩ := p
  go_enter Try.func25, Try.ntmps25
  by_cases h1 : k = kd
  · obtain rfl : kd = k := h1.symm
    by_cases h2 : kd = 2
    · by_cases h3 : n = 0
      · go_wp2_with fail
        go_ret
        exact ⟨by simp [isP, *], ((Below.refl w.heap.size w).alloc (Nat.le_refl _) _).alloc (by rw [World.size_alloc]; omega) _⟩
      · by_cases h4 : n = 1
        all_goals
          go_wp2_with fail
          go_ret
          exact ⟨by simp [isP, *], ((Below.refl w.heap.size w).alloc (Nat.le_refl _) _).alloc (by rw [World.size_alloc]; omega) _⟩
    · go_wp2_with fail
      go_ret
      exact ⟨by simp [isP, *], ((Below.refl w.heap.size w).alloc (Nat.le_refl _) _).alloc (by rw [World.size_alloc]; omega) _⟩
  · go_wp2_with fail
    go_ret
    exact ⟨by simp [isP, h1], ((Below.refl w.heap.size w).alloc (Nat.le_refl _) _).alloc (by rw [World.size_alloc]; omega) _⟩
set_option maxRecDepth 100000 in
theorem ris_any (p : Pt) (k n : Int) (w : World) : Calls Try.prog 22 #[ptV p, .agg #[.int .i64 k, .int .i64 n]] w fun e w' => e = .returned (.bool (isP p k n)) ∧ Below w.heap.size w w' := by
  obtain ⟨nm, kd, rl, un, lo, hi, st, ss, dk, dn, on, off⟩ := p
  go_enter Try.func22, Try.ntmps22
  by_cases h1 : k = kd
  · obtain rfl : kd = k := h1.symm
    by_cases h2 : kd = 2
    · by_cases h3 : n = 0
      · go_wp2_with fail
        go_ret
        exact ⟨by simp [isP, *], ((Below.refl w.heap.size w).alloc (Nat.le_refl _) _).alloc (by rw [World.size_alloc]; omega) _⟩
      · by_cases h4 : n = 1
        all_goals
          go_wp2_with fail
          go_ret
          exact ⟨by simp [isP, *], ((Below.refl w.heap.size w).alloc (Nat.le_refl _) _).alloc (by rw [World.size_alloc]; omega) _⟩
    · go_wp2_with fail
      go_ret
      exact ⟨by simp [isP, *], ((Below.refl w.heap.size w).alloc (Nat.le_refl _) _).alloc (by rw [World.size_alloc]; omega) _⟩
  · go_wp2_with fail
    go_ret
    exact ⟨by simp [isP, h1], ((Below.refl w.heap.size w).alloc (Nat.le_refl _) _).alloc (by rw [World.size_alloc]; omega) _⟩
theorem inst_any (n : Int) (w : World) : Calls Try.prog 20 #[.int .i64 n] w fun e w' => e = .returned (.bool (instB n)) ∧ Below w.heap.size w w' := by
  go_enter Try.func20, Try.ntmps20
  by_cases h1 : -6311433599 ≤ n <;> by_cases h2 : n ≤ 6311433599
  all_goals
    go_wp2_with fail
    go_ret
    exact ⟨by simp [instB, h1, h2], Below.refl _ _⟩
set_option maxRecDepth 100000 in
theorem on_any (n : Int) (w : World) : Calls Try.prog 18 #[.int .i64 n] w fun e w' => e = .returned (.agg #[.int .i64 2, .int .i64 n]) ∧ Below w.heap.size w w' := by
  go_enter Try.func18, Try.ntmps18
  go_wp2_with fail
  obtain ⟨W, b, hW, hb, s, B, sz⟩ := box1 w #[.int .i64 2, .int .i64 n] 24
  rw [← hW, ← hb]
  have y0 := s.c 0 _ rfl
  have y1 := s.c 1 _ rfl
  refine bodyPost_ret (by simp [results, Try.results18, go_sem, y0, y1]; try rfl) rfl ?_
  exact ⟨rfl, by rw [hb]; exact B⟩
end Go.Proofs.Ytlmcdnfihgimjaa
