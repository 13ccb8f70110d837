/- Writes in plain terms. Contracts of the leaves: isLevel, isValue, Possible, analog, few. -/
import Derived.Test.YtlmilalibgehpaaSl
import Derived.BigQuiet
namespace Go.Proofs.Ytlmilalibgehpaa
open Go.RowKit

structure WrD where
  l : Int
  q : Int
  k : Int
  n : Int
deriving DecidableEq
def wrL (x : WrD) : List Value := [.int .i64 x.l, .int .i64 x.q, .int .i64 x.k, .int .i64 x.n]
theorem wrL_len (x : WrD) : (wrL x).length = 4 := rfl
abbrev wrV (x : WrD) : Value := .agg #[.int .i64 x.l, .int .i64 x.q, .int .i64 x.k, .int .i64 x.n]
def lvB (l : Int) : Bool := decide (1 ≤ l) && decide (l ≤ 16)
def valB (k n : Int) : Bool := if k = 0 then decide (n = 0) else if k = 1 then (decide (-1000000000000 ≤ n) && decide (n ≤ 1000000000000)) else if k = 2 then (decide (n = 0) || decide (n = 1)) else if k = 3 then (decide (1 ≤ n) && decide (n ≤ 16)) else false
def checkW (x : WrD) : Int := if lvB x.l = false then 1 else if x.q < 1 then 6 else if 1000000000 < x.q then 6 else if valB x.k x.n = false then 11 else 0
theorem level_any (l : Int) (w : World) : Calls Try.prog 30 #[.int .i64 l] w fun e w' => e = .returned (.bool (lvB l)) ∧ Below w.heap.size w w' := by
  go_enter Try.func30, Try.ntmps30
  by_cases h1 : 1 ≤ l <;> by_cases h2 : l ≤ 16
  all_goals
    go_wp2_with fail
    go_ret
    exact ⟨by simp [lvB, h1, h2], Below.refl _ _⟩
set_option maxHeartbeats 1000000 in
theorem value_any (k n : Int) (w : World) : Calls Try.prog 31 #[.agg #[.int .i64 k, .int .i64 n]] w fun e w' => e = .returned (.bool (valB k n)) ∧ Below w.heap.size w w' := by
  go_enter Try.func31, Try.ntmps31
  by_cases k0 : k = 0
  · subst k0
    by_cases h1 : n = 0
    all_goals
      go_wp2_with fail
      go_ret
      exact ⟨by simp [valB, *], (Below.refl _ _).alloc (Nat.le_refl _) _⟩
  · by_cases k1 : k = 1
    · subst k1
      by_cases h1 : -1000000000000 ≤ n
      · by_cases h2 : n ≤ 1000000000000
        all_goals
          go_wp2_with fail
          go_ret
          exact ⟨by simp [valB, *], (Below.refl _ _).alloc (Nat.le_refl _) _⟩
      · go_wp2_with fail
        go_ret
        exact ⟨by simp [valB]; omega, (Below.refl _ _).alloc (Nat.le_refl _) _⟩
    · by_cases k2 : k = 2
      · subst k2
        by_cases h1 : n = 0
        · subst h1
          go_wp2_with fail
          go_ret
          exact ⟨by simp [valB, *], (Below.refl _ _).alloc (Nat.le_refl _) _⟩
        · by_cases h2 : n = 1
          all_goals
            go_wp2_with fail
            go_ret
            exact ⟨by simp [valB, *], (Below.refl _ _).alloc (Nat.le_refl _) _⟩
      · by_cases k3 : k = 3
        · subst k3
          by_cases h1 : 1 ≤ n
          · by_cases h2 : n ≤ 16
            all_goals
              go_wp2_with fail
              go_ret
              exact ⟨by simp [valB, *], (Below.refl _ _).alloc (Nat.le_refl _) _⟩
          · go_wp2_with fail
            go_ret
            exact ⟨by simp [valB]; omega, (Below.refl _ _).alloc (Nat.le_refl _) _⟩
        · go_wp2_with fail
          go_ret
          exact ⟨by simp [valB, *], (Below.refl _ _).alloc (Nat.le_refl _) _⟩
set_option maxHeartbeats 1000000 in
theorem possible_any (k n : Int) (w : World) : Calls Try.prog 32 #[.agg #[.int .i64 k, .int .i64 n]] w fun e w' => e = .returned (.bool (valB k n)) ∧ Below w.heap.size w w' := by
  go_enter Try.func32, Try.ntmps32
  by_cases k0 : k = 0
  · subst k0
    by_cases h1 : n = 0
    all_goals
      go_wp2_with fail
      go_ret
      exact ⟨by simp [valB, *], (Below.refl _ _).alloc (Nat.le_refl _) _⟩
  · by_cases k1 : k = 1
    · subst k1
      by_cases h1 : -1000000000000 ≤ n
      · by_cases h2 : n ≤ 1000000000000
        all_goals
          go_wp2_with fail
          go_ret
          exact ⟨by simp [valB, *], (Below.refl _ _).alloc (Nat.le_refl _) _⟩
      · go_wp2_with fail
        go_ret
        exact ⟨by simp [valB]; omega, (Below.refl _ _).alloc (Nat.le_refl _) _⟩
    · by_cases k2 : k = 2
      · subst k2
        by_cases h1 : n = 0
        · subst h1
          go_wp2_with fail
          go_ret
          exact ⟨by simp [valB, *], (Below.refl _ _).alloc (Nat.le_refl _) _⟩
        · by_cases h2 : n = 1
          all_goals
            go_wp2_with fail
            go_ret
            exact ⟨by simp [valB, *], (Below.refl _ _).alloc (Nat.le_refl _) _⟩
      · by_cases k3 : k = 3
        · subst k3
          by_cases h1 : 1 ≤ n
          · by_cases h2 : n ≤ 16
            all_goals
              go_wp2_with fail
              go_ret
              exact ⟨by simp [valB, *], (Below.refl _ _).alloc (Nat.le_refl _) _⟩
          · go_wp2_with fail
            go_ret
            exact ⟨by simp [valB]; omega, (Below.refl _ _).alloc (Nat.le_refl _) _⟩
        · go_wp2_with fail
          go_ret
          exact ⟨by simp [valB, *], (Below.refl _ _).alloc (Nat.le_refl _) _⟩
set_option maxRecDepth 100000 in
theorem analog_any (n : Int) (w : World) : Calls Try.prog 29 #[.int .i64 n] w fun e w' => e = .returned (.agg #[.int .i64 1, .int .i64 n]) ∧ Below w.heap.size w w' := by
  go_enter Try.func29, Try.ntmps29
  go_wp2_with fail
  obtain ⟨W, b, hW, hb, s, B, sz⟩ := box1 w #[.int .i64 1, .int .i64 n] 23
  rw [← hW, ← hb]
  have y0 := s.c 0 _ rfl
  have y1 := s.c 1 _ rfl
  refine bodyPost_ret (by simp [results, Try.results29, go_sem, y0, y1]; try rfl) rfl ?_
  exact ⟨rfl, by rw [hb]; exact B⟩
theorem few_any (a : Option Addr) (n cap : Nat) (w : World) : Calls Try.prog 11 #[.slice a n cap] w fun e w' => e = .returned (.bool (decide (n ≤ 60))) ∧ Below w.heap.size w w' := by
  go_enter Try.func11, Try.ntmps11
  by_cases h : n ≤ 60
  · have h1 : decide ((n : Int) ≤ 60) = true := by simp; omega
    go_wp2_with fail
    go_ret
    exact ⟨by simp [h], Below.refl _ _⟩
  · have h1 : decide ((n : Int) ≤ 60) = false := by simp; omega
    go_wp2_with fail
    go_ret
    exact ⟨by simp [h], Below.refl _ _⟩
end Go.Proofs.Ytlmilalibgehpaa
