/- The contract of the specification's Same. -/
import Derived.Test.YthghcppdfeeloaaCr
namespace Go.Proofs.Ythghcppdfeeloaa
open Go.RowKit

def eqL (ks ls : List (Int × Int)) (k : Nat) : Bool := (List.range k).all fun i => (kx ks i == kx ls i) && (ky ks i == ky ls i)
/-- the same lists of knots -/
def sameL (ks ls : List (Int × Int)) : Bool := if ks.length = ls.length then eqL ks ls ks.length else false
theorem sameL_iff (ks ls : List (Int × Int)) : sameL ks ls = true ↔ ks = ls := by
  unfold sameL
  constructor
  · intro h
    split at h
    · rename_i hl
      apply List.ext_getElem hl
      intro i h1 h2
      have h3 := all_at _ i _ h h1
      unfold kx ky at h3
      rw [List.getD_eq_getElem?_getD, List.getD_eq_getElem?_getD, List.getElem?_eq_getElem h1, List.getElem?_eq_getElem h2, Bool.and_eq_true, beq_iff_eq, beq_iff_eq] at h3
      exact Prod.ext h3.1 h3.2
    · cases h
  · intro h
    subst h
    rw [if_pos rfl]
    unfold eqL
    rw [List.all_eq_true]
    intro i _
    simp

set_option maxHeartbeats 1000000 in
theorem same_diff (a b : Option Addr) (n m c1 c2 : Nat) (w : World) (h : n ≠ m) :
    Calls Try.prog 26 #[.slice a n c1, .slice b m c2] w fun e w' => e = .returned (.bool false) ∧ Below w.heap.size w w' := by
  have t0 : ((n : Int) != m) = true := by rw [bne_iff_ne]; omega
  go_enter Try.func26, Try.ntmps26
  go_wp2_with fail
  go_ret
  exact ⟨rfl, Below.refl _ _⟩

set_option maxHeartbeats 2000000 in
theorem same_some (b1 o1 b2 o2 c1 c2 : Nat) (ks ls : List (Int × Int)) (w : World) (hl : ks.length = ls.length) (hn : ks.length ≤ 9223372036854775807) (h1 : b1 < w.heap.size) (h2 : b2 < w.heap.size) (hk : Knots w b1 o1 ks) (hm : Knots w b2 o2 ls) :
    Calls Try.prog 26 #[.slice (some ⟨b1, o1, none⟩) ks.length c1, .slice (some ⟨b2, o2, none⟩) ks.length c2] w fun e w' => e = .returned (.bool (sameL ks ls)) ∧ Below w.heap.size w w' := by
  have hz0 : sameL ks ls = eqL ks ls ks.length := if_pos hl
  obtain ⟨z, hz⟩ : ∃ z, z = sameL ks ls := ⟨_, rfl⟩
  rw [← hz] at hz0 ⊢
  obtain ⟨n, hne⟩ : ∃ n, n = ks.length := ⟨_, rfl⟩
  rw [← hne] at hz0 hn hl ⊢
  have HZ := Lib.hid hz0
  have HN := Lib.hid hne
  have HL := Lib.hid hl
  have HK := Lib.hid hk
  have HM := Lib.hid hm
  clear hz hz0 hne hl hk hm
  go_enter Try.func26, Try.ntmps26
  go_wp2_with fail
  go_loopw [5] (fun i wr => ∃ k : Nat, k ≤ n ∧ i = .int .i64 k ∧ eqL ks ls k = true ∧ Below w.heap.size w wr) (fun i _ => n - (intOf i).toNat)
  case atStart => exact ⟨0, by omega, rfl, rfl, Below.refl _ _⟩
  case round =>
    obtain ⟨k, hk, rfl, heq, hbel⟩ := hrel
    have HB := Lib.hid hbel
    by_cases hlt : k < n
    · have hs := all_succ (fun i => (kx ks i == kx ls i) && (ky ks i == ky ls i)) k
      have hst := all_stop (fun i => (kx ks i == kx ls i) && (ky ks i == ky ls i)) k n hlt
      obtain ⟨p1, p2⟩ := HK.out.at h1 hbel k (by rw [← HN.out]; exact hlt)
      obtain ⟨q1, q2⟩ := HM.out.at h2 hbel k (by rw [← HL.out]; exact hlt)
      have HS := Lib.hid hs
      have HT := Lib.hid hst
      have HE := Lib.hid heq
      clear hs hst heq hbel
      obtain ⟨X, hX⟩ : ∃ t, t = kx ks k := ⟨_, rfl⟩
      obtain ⟨Y, hY⟩ : ∃ t, t = ky ks k := ⟨_, rfl⟩
      obtain ⟨U, hU⟩ : ∃ t, t = kx ls k := ⟨_, rfl⟩
      obtain ⟨V, hV⟩ : ∃ t, t = ky ls k := ⟨_, rfl⟩
      rw [← hX] at p1
      rw [← hY] at p2
      rw [← hU] at q1
      rw [← hV] at q2
      rw [← hX, ← hY, ← hU, ← hV] at HS HT
      clear hX hY hU hV
      by_cases hx : X = U
      · subst hx
        by_cases hy : Y = V
        · subst hy
          have he : eqL ks ls (k + 1) = true := by unfold eqL; rw [HS.out, beq_self_eq_true, beq_self_eq_true, Bool.and_true, Bool.and_true]; exact HE.out
          have HE2 := Lib.hid he
          clear he
          go_wp2_with fail
          go_quiet (fail)
          go_wp2_with fail
          go_roundw
          case rel => exact ⟨k + 1, by omega, by go_num, HE2.out, HB.out.trans (below_drewN _ _ _)⟩
          case measure => simp [intOf]; omega
        · have ty : (Y == V) = false := by rw [beq_eq_false_iff_ne]; exact hy
          have hz : z = false := by rw [HZ.out]; exact HT.out (by rw [ty, Bool.and_false])
          subst hz
          go_wp2_with fail
          go_quiet (fail)
          go_wp2_with fail
          go_ret
          exact ⟨rfl, HB.out.trans (below_drewN _ _ _)⟩
      · have tx : (X == U) = false := by rw [beq_eq_false_iff_ne]; exact hx
        have hz : z = false := by rw [HZ.out]; exact HT.out (by rw [tx, Bool.false_and])
        subst hz
        go_wp2_with fail
        go_quiet (fail)
        go_wp2_with fail
        go_ret
        exact ⟨rfl, HB.out.trans (below_drewN _ _ _)⟩
    · obtain rfl : k = n := by omega
      have hz : z = true := by rw [HZ.out]; exact heq
      subst hz
      clear HZ hbel heq
      go_wp2_with fail
      go_ret
      exact ⟨rfl, HB.out⟩

set_option maxHeartbeats 1000000 in
theorem same_nil (a b : Option Addr) (c1 c2 : Nat) (w : World) :
    Calls Try.prog 26 #[.slice a 0 c1, .slice b 0 c2] w fun e w' => e = .returned (.bool true) ∧ Below w.heap.size w w' := by
  go_enter Try.func26, Try.ntmps26
  go_wp2_with fail
  refine wp_loop_rounds 1 ?_
  rw [rounds_succ]
  go_wp2_with fail
  go_ret
  exact ⟨rfl, Below.refl _ _⟩

theorem same_any (a b : Option Addr) (n m c1 c2 : Nat) (ks ls : List (Int × Int)) (w : World) (hk : IsKnots w a n ks) (hm : IsKnots w b m ls) :
    Calls Try.prog 26 #[.slice a n c1, .slice b m c2] w fun e w' => e = .returned (.bool (sameL ks ls)) ∧ Below w.heap.size w w' := by
  have ln : n = ks.length := by
    rcases hk with ⟨rfl, rfl⟩ | ⟨_, _, _, _, h, _, _⟩
    · rfl
    · exact h
  have lm : m = ls.length := by
    rcases hm with ⟨rfl, rfl⟩ | ⟨_, _, _, _, h, _, _⟩
    · rfl
    · exact h
  by_cases hnm : n = m
  · subst hnm
    by_cases h0 : n = 0
    · have e : sameL ks ls = true := by
        rw [sameL_iff, List.length_eq_zero_iff.1 (show ks.length = 0 by omega), List.length_eq_zero_iff.1 (show ls.length = 0 by omega)]
      rw [e]; subst h0; exact same_nil a b c1 c2 w
    · rcases hk with ⟨h, _⟩ | ⟨b1, o1, rfl, h1, _, hn, hk⟩
      · exact absurd h h0
      · rcases hm with ⟨h, _⟩ | ⟨b2, o2, rfl, h2, _, _, hm⟩
        · exact absurd h h0
        · have h := same_some b1 o1 b2 o2 c1 c2 ks ls w (by omega) (by omega) h1 h2 hk hm
          rw [← ln] at h; exact h
  · have e : sameL ks ls = false := by unfold sameL; rw [if_neg (by omega)]
    rw [e]; exact same_diff a b n m c1 c2 w hnm
end Go.Proofs.Ythghcppdfeeloaa
