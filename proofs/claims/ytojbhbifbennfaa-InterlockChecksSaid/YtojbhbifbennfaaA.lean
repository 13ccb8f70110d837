/- Requests in plain terms. Contracts of the leaves: isOn, isMember, isDead, level, the closures of check and winner. -/
import Derived.Test.YtojbhbifbennfaaSl
import Derived.BigQuiet
namespace Go.Proofs.Ytojbhbifbennfaa
open Go.RowKit

structure RqD where
  l : Int
  k : Int
  n : Int
deriving DecidableEq
def rqL (x : RqD) : List Value := [.int .i64 x.l, .int .i64 x.k, .int .i64 x.n]
theorem rqL_len (x : RqD) : (rqL x).length = 3 := rfl
def onB (k n : Int) : Bool := decide (k = 2) && decide (n = 1)
def askB (lo hi : Int) (x : RqD) : Bool := onB x.k x.n && (decide (lo ≤ x.l) && decide (x.l ≤ hi))
def noB (x : RqD) : Bool := decide (x.l < 1) || decide (18 < x.l)
def lvR (qs : List RqD) (i : Int) : Int := if i < 0 then 99 else match qs[i.toNat]? with | some x => if onB x.k x.n = true then x.l else 99 | none => 99
theorem on_yes {k n : Int} (h1 : k = 2) (h2 : n = 1) : onB k n = true := by unfold onB; rw [decide_eq_true h1, decide_eq_true h2]; rfl
theorem on_kind {k n : Int} (h1 : ¬ k = 2) : onB k n = false := by unfold onB; rw [decide_eq_false h1]; rfl
theorem on_num {k n : Int} (h2 : ¬ n = 1) : onB k n = false := by unfold onB; rw [decide_eq_false h2, Bool.and_false]
theorem isOn_any (k n : Int) (w : World) : Calls Try.prog 84 #[.agg #[.int .i64 k, .int .i64 n]] w fun e w' => e = .returned (.bool (onB k n)) ∧ Below w.heap.size w w' := by
  by_cases h1 : k = 2
  · by_cases h2 : n = 1
    · have HY := Lib.hid (on_yes h1 h2)
      subst h1 h2
      go_enter Try.func84, Try.ntmps84
      go_wp2_with fail
      go_ret
      exact ⟨by rw [HY.out]; rfl, (Below.refl _ _).alloc (Nat.le_refl _) _⟩
    · have HY := Lib.hid (on_num (k := k) h2)
      subst h1
      have t2 : (n == 1) = false := by rw [beq_eq_false_iff_ne]; exact h2
      clear h2
      go_enter Try.func84, Try.ntmps84
      go_wp2_with fail
      go_ret
      exact ⟨by rw [HY.out]; rfl, (Below.refl _ _).alloc (Nat.le_refl _) _⟩
  · have HY := Lib.hid (on_kind (n := n) h1)
    have t1 : (k == 2) = false := by rw [beq_eq_false_iff_ne]; exact h1
    clear h1
    go_enter Try.func84, Try.ntmps84
    go_wp2_with fail
    go_ret
    exact ⟨by rw [HY.out]; rfl, (Below.refl _ _).alloc (Nat.le_refl _) _⟩

theorem level_neg (a : Option Addr) (n cap : Nat) (i : Int) (hi : i < 0) (w : World) : Calls Try.prog 86 #[.slice a n cap, .int .i64 i] w fun e w' => e = .returned (.int .i64 99) ∧ Below w.heap.size w w' := by
  go_enter Try.func86, Try.ntmps86
  go_wp2_with fail
  go_ret
  exact ⟨rfl, Below.refl _ _⟩

set_option maxRecDepth 100000 in
theorem level_at (a : Option Addr) (cap : Nat) (qs : List RqD) (p : Nat) (hp : p < qs.length) (w : World) (hin : InS w a qs.length 3 (flat rqL qs)) : Calls Try.prog 86 #[.slice a qs.length cap, .int .i64 p] w fun e w' => e = .returned (.int .i64 (lvR qs p)) ∧ Below w.heap.size w w' := by
  obtain ⟨N, hN⟩ : ∃ N, N = qs.length := ⟨_, rfl⟩
  have hp' : p < N := by omega
  obtain ⟨b, o, rfl, hbl, hcell⟩ := hin.at rqL_len (by omega)
  obtain ⟨⟨l, k, n⟩, hx⟩ : ∃ x, qs[p]? = some x := ⟨_, List.getElem?_eq_getElem hp⟩
  have hlv : lvR qs (p : Int) = if onB k n = true then l else 99 := by
    unfold lvR
    rw [if_neg (by omega), show ((p : Int)).toNat = p by omega, hx]
  have c0 := hcell p _ hx 0 _ rfl
  have c1 := hcell p _ hx 1 _ rfl
  have c2 := hcell p _ hx 2 _ rfl
  rw [Nat.add_zero] at c0
  have k0 : ¬ (p : Int) < 0 := by omega
  have k1 : (0 : Int) ≤ (p : Int) := by omega
  have k2 : (p : Int) < (N : Int) := by omega
  have k3 : N ≤ 9223372036854775807 := by have := hin.2.1; omega
  rw [hlv, ← hN]
  clear hcell hx hin hbl hlv hN hp hp'
  by_cases h1 : k = 2
  · by_cases h2 : n = 1
    · have HY := Lib.hid (on_yes h1 h2)
      rw [if_pos HY.out]
      subst h1 h2
      go_enter Try.func86, Try.ntmps86
      go_wp2_with fail
      go_ret
      exact ⟨rfl, Below.refl _ _⟩
    · have HY := Lib.hid (on_num (k := k) h2)
      rw [if_neg (by rw [HY.out]; simp)]
      subst h1
      have t2 : (n != 1) = true := by simpa using h2
      clear h2
      go_enter Try.func86, Try.ntmps86
      go_wp2_with fail
      go_ret
      exact ⟨rfl, Below.refl _ _⟩
  · have HY := Lib.hid (on_kind (n := n) h1)
    rw [if_neg (by rw [HY.out]; simp)]
    have t1 : (k != 2) = true := by simpa using h1
    clear h1
    go_enter Try.func86, Try.ntmps86
    go_wp2_with fail
    go_ret
    exact ⟨rfl, Below.refl _ _⟩
theorem level_any (a : Option Addr) (cap : Nat) (qs : List RqD) (i : Int) (hi : i < qs.length) (w : World) (hin : InS w a qs.length 3 (flat rqL qs)) : Calls Try.prog 86 #[.slice a qs.length cap, .int .i64 i] w fun e w' => e = .returned (.int .i64 (lvR qs i)) ∧ Below w.heap.size w w' := by
  by_cases h : i < 0
  · rw [show lvR qs i = 99 from if_pos h]
    exact level_neg a qs.length cap i h w
  · obtain ⟨p, rfl⟩ : ∃ p : Nat, i = (p : Int) := ⟨i.toNat, by omega⟩
    exact level_at a cap qs p (by omega) w hin

set_option maxRecDepth 100000 in
theorem noLevel_any (l k n : Int) (w : World) : Calls Try.prog 80 #[.agg #[.int .i64 l, .int .i64 k, .int .i64 n]] w fun e w' => e = .returned (.bool (noB ⟨l, k, n⟩)) ∧ Below w.heap.size w w' := by
  by_cases h1 : l < 1
  · have HY := Lib.hid (show noB ⟨l, k, n⟩ = true by unfold noB; rw [decide_eq_true h1]; rfl)
    go_enter Try.func80, Try.ntmps80
    go_wp2_with fail
    go_ret
    exact ⟨by rw [HY.out]; rfl, (Below.refl _ _).alloc (Nat.le_refl _) _⟩
  · by_cases h2 : 18 < l
    · have HY := Lib.hid (show noB ⟨l, k, n⟩ = true by unfold noB; rw [decide_eq_true h2, Bool.or_true])
      go_enter Try.func80, Try.ntmps80
      go_wp2_with fail
      go_ret
      exact ⟨by rw [HY.out]; rfl, (Below.refl _ _).alloc (Nat.le_refl _) _⟩
    · have HY := Lib.hid (show noB ⟨l, k, n⟩ = false by unfold noB; rw [decide_eq_false h1, decide_eq_false h2]; rfl)
      go_enter Try.func80, Try.ntmps80
      go_wp2_with fail
      go_ret
      exact ⟨by rw [HY.out]; rfl, (Below.refl _ _).alloc (Nat.le_refl _) _⟩
end Go.Proofs.Ytojbhbifbennfaa
