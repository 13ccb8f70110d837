/- Contracts of lexer.isLower, isDigit, runEnd over any closure, and of the closure of lexer.Name. -/
import Derived.Test.YtaaaddmdcldclaaGreatDoorRo
import Derived.BigQuiet
import Derived.LoopTactic
import Derived.Deep.CutBlock
import Derived.Shelf.SlSorted.Search
namespace Go.Proofs.YtaaaddmdcldclaaGreatDoor
open Go.RowKit Go.Shelf

def lowB (c : Int) : Bool := decide (97 ≤ c) && decide (c ≤ 122)
def digB (c : Int) : Bool := decide (48 ≤ c) && decide (c ≤ 57)
theorem low_any (c : Int) (w : World) : Calls Tryz.prog 44 #[.int .u8 c] w fun e w' => e = .returned (.bool (lowB c)) ∧ Below w.heap.size w w' := by
  by_cases h1 : 97 ≤ c
  · have HY := Lib.hid (show lowB c = decide (c ≤ 122) by unfold lowB; rw [decide_eq_true h1, Bool.true_and])
    go_enter Tryz.func44, Tryz.ntmps44
    go_wp2_with fail
    go_ret
    exact ⟨by rw [HY.out]; (first | done | rfl), Below.refl _ _⟩
  · have HY := Lib.hid (show lowB c = false by unfold lowB; rw [decide_eq_false h1]; rfl)
    go_enter Tryz.func44, Tryz.ntmps44
    go_wp2_with fail
    go_ret
    exact ⟨by rw [HY.out]; (first | done | rfl), Below.refl _ _⟩
theorem dig_any (c : Int) (w : World) : Calls Tryz.prog 47 #[.int .u8 c] w fun e w' => e = .returned (.bool (digB c)) ∧ Below w.heap.size w w' := by
  by_cases h1 : 48 ≤ c
  · have HY := Lib.hid (show digB c = decide (c ≤ 57) by unfold digB; rw [decide_eq_true h1, Bool.true_and])
    go_enter Tryz.func47, Tryz.ntmps47
    go_wp2_with fail
    go_ret
    exact ⟨by rw [HY.out]; (first | done | rfl), Below.refl _ _⟩
  · have HY := Lib.hid (show digB c = false by unfold digB; rw [decide_eq_false h1]; rfl)
    go_enter Tryz.func47, Tryz.ntmps47
    go_wp2_with fail
    go_ret
    exact ⟨by rw [HY.out]; (first | done | rfl), Below.refl _ _⟩
def runF (p : Nat → Bool) : Nat → Nat → Nat
  | 0, k => k
  | n + 1, k => if p k = true then runF p n (k + 1) else k
theorem runF_go {p : Nat → Bool} {N k : Nat} (hk : k < N) (h : p k = true) : runF p (N - k) k = runF p (N - (k + 1)) (k + 1) := by
  rw [show N - k = (N - (k + 1)) + 1 by omega]
  exact if_pos h
theorem runF_stop {p : Nat → Bool} {N k : Nat} (hk : k < N) (h : p k = false) : runF p (N - k) k = k := by
  rw [show N - k = (N - (k + 1)) + 1 by omega]
  exact if_neg (by rw [h]; simp)
theorem runF_end (p : Nat → Bool) (N : Nat) : runF p (N - N) N = N := by rw [Nat.sub_self]; rfl

set_option maxHeartbeats 4000000 in
set_option maxRecDepth 100000 in
theorem runEnd_from (g : Nat) (lb : Array Value) (p : Nat → Bool) (s : ByteArray) (st : Nat) (w : World) (hst : st ≤ s.size) (hsz : s.size ≤ 4611686018427387904) (eg : ∀ args w, (callFunc g args).run Tryz.prog w = .ok (.enter g args) w)
    (hp : ∀ (W : World) (k : Nat), st ≤ k → k < s.size → Below w.heap.size w W → Calls Tryz.prog g (#[.int .i64 k] ++ lb) W fun e w' => e = .returned (.bool (p k)) ∧ Below W.heap.size W w') : Calls Tryz.prog 45 #[.string s, .int .i64 st, .func (.func g) #[] lb] w fun e w' => e = .returned (.int .i64 (runF p (s.size - st) st)) ∧ Below w.heap.size w w' := by
  have HP := Lib.hid hp
  obtain ⟨N, hN⟩ : ∃ N, N = s.size := ⟨_, rfl⟩
  have HN := Lib.hid hN
  have hN2 : s.size = N := hN.symm
  rw [← hN] at hst hsz
  rw [← hN]
  have HSZ := Lib.hid hsz
  clear hp hsz hN
  go_enter Tryz.func45, Tryz.ntmps45
  go_wp2_with fail
  go_loopw [7] (fun i wr => ∃ k : Nat, st ≤ k ∧ k ≤ N ∧ i = .int .i64 k ∧ Hid (runF p (N - st) st = runF p (N - k) k ∧ Below w.heap.size w wr)) (fun i _ => N - (intOf i).toNat)
  case atStart => exact ⟨st, Nat.le_refl _, hst, rfl, Lib.hid ⟨rfl, Below.refl _ _⟩⟩
  case round =>
    obtain ⟨k, hsk, hk, rfl, hH⟩ := hrel
    have hnb : N ≤ 4611686018427387904 := HSZ.out
    by_cases hlt : k < N
    · have hc := HP.out wr k hsk (by rw [← HN.out]; exact hlt) hH.out.2
      obtain ⟨F, hF⟩ : ∃ F, F = p k := ⟨_, rfl⟩
      rw [← hF] at hc
      have HC := Lib.hid hc
      have HFI := Lib.hid hH.out.1
      have HBW := Lib.hid hH.out.2
      have HF := Lib.hid hF
      have k1 : (k : Int) < (N : Int) := by omega
      have w1' : IntKind.i64.wrap ((k : Int) + 1) = (k : Int) + 1 := IntWalk.i64_in _ ⟨by omega, by omega⟩
      clear hc hF hH
      cases F
      · have HM := Lib.hid (HFI.out.trans (runF_stop hlt HF.out.symm))
        go_wp2_with (go_at_fn g; refine HC.out.mono ?_; rintro e w' ⟨rfl, hb⟩)
        have HB2 := Lib.hid (HBW.out.trans (hb.mono HBW.out.size))
        go_ret
        exact ⟨by rw [HM.out]; (first | done | rfl), HB2.out⟩
      · have HM := Lib.hid (HFI.out.trans (runF_go hlt HF.out.symm))
        go_wp2_with (go_at_fn g; refine HC.out.mono ?_; rintro e w' ⟨rfl, hb⟩)
        have HB2 := Lib.hid (HBW.out.trans (hb.mono HBW.out.size))
        go_roundw
        case rel => exact ⟨k + 1, by omega, by omega, by go_num, Lib.hid ⟨HM.out, HB2.out⟩⟩
        case measure => (simp [intOf]) <;> omega
    · obtain rfl : k = N := by omega
      have HM := Lib.hid (show runF p (k - st) st = k from hH.out.1.trans (runF_end p k))
      have HB2 := Lib.hid hH.out.2
      clear hH
      go_wp2_with fail
      go_ret
      exact ⟨by rw [HM.out]; (first | done | rfl), HB2.out⟩
theorem runEnd_any (g : Nat) (lb : Array Value) (p : Nat → Bool) (s : ByteArray) (st : Nat) (w : World) (hst : st ≤ s.size) (hsz : s.size ≤ 4611686018427387904) (eg : ∀ args w, (callFunc g args).run Tryz.prog w = .ok (.enter g args) w)
    (hp : ∀ (W : World) (k : Nat), k < s.size → Below w.heap.size w W → Calls Tryz.prog g (#[.int .i64 k] ++ lb) W fun e w' => e = .returned (.bool (p k)) ∧ Below W.heap.size W w') : Calls Tryz.prog 45 #[.string s, .int .i64 st, .func (.func g) #[] lb] w fun e w' => e = .returned (.int .i64 (runF p (s.size - st) st)) ∧ Below w.heap.size w w' :=
  runEnd_from g lb p s st w hst hsz eg (fun W k _ hk hb => hp W k hk hb)
end Go.Proofs.YtaaaddmdcldclaaGreatDoor
