/- The contract of the specification's Check of a curve. -/
import Derived.Test.YthghcppdfeeloaaCk
namespace Go.Proofs.Ythghcppdfeeloaa
open Go.RowKit

set_option maxHeartbeats 400000 in
theorem inside_any (n : Int) (w : World) : Calls Try.prog 29 #[.int .i64 n] w fun e w' => e = .returned (.bool (inR n)) ∧ w = w' := by
  by_cases h1 : -1000000000000 ≤ n
  · have t1 : decide (-1000000000000 ≤ n) = true := decide_eq_true h1
    by_cases h2 : n ≤ 1000000000000
    · have t2 : decide (n ≤ 1000000000000) = true := decide_eq_true h2
      have e : inR n = true := (inR_iff n).2 ⟨h1, h2⟩
      rw [e]
      clear e
      go_enter Try.func29, Try.ntmps29
      go_wp2_with fail
      go_ret
      exact ⟨rfl, rfl⟩
    · have t2 : decide (n ≤ 1000000000000) = false := decide_eq_false h2
      have e : inR n = false := by unfold inR; rw [t1, t2]; rfl
      rw [e]
      clear e
      go_enter Try.func29, Try.ntmps29
      go_wp2_with fail
      go_ret
      exact ⟨rfl, rfl⟩
  · have t1 : decide (-1000000000000 ≤ n) = false := decide_eq_false h1
    have e : inR n = false := by unfold inR; rw [t1]; rfl
    rw [e]
    clear e
    go_enter Try.func29, Try.ntmps29
    go_wp2_with fail
    go_ret
    exact ⟨rfl, rfl⟩

set_option maxHeartbeats 2000000 in
theorem rcheck_some (b off cap : Nat) (ks : List (Int × Int)) (w : World) (h0 : 0 < ks.length) (h32 : ks.length ≤ 32) (hb : b < w.heap.size) (hc : Knots w b off ks) :
    Calls Try.prog 12 #[.slice (some ⟨b, off, none⟩) ks.length cap] w fun e w' => e = .returned (.int .i64 (checkL ks)) ∧ Below w.heap.size w w' := by
  have HZ : checkL ks = if fitL ks ks.length = false then 6 else if riseL ks (ks.length - 1) = false then 5 else 0 := by
    unfold checkL; rw [if_neg (by omega)]
  obtain ⟨z, hz⟩ : ∃ z, z = checkL ks := ⟨_, rfl⟩
  rw [← hz] at HZ ⊢
  clear hz
  have HC := Lib.hid hc
  clear hc
  obtain ⟨n, hn⟩ : ∃ n, n = ks.length := ⟨_, rfl⟩
  rw [← hn] at HZ h0 h32 ⊢
  have HN := Lib.hid hn
  clear hn
  have HZ := Lib.hid HZ
  have t0 : decide ((n : Int) < 1) = false := by rw [decide_eq_false_iff_not]; omega
  have t1 : decide ((32 : Int) < n) = false := by rw [decide_eq_false_iff_not]; omega
  go_enter Try.func12, Try.ntmps12
  go_wp2_with fail
  go_loopw [3] (fun i wr => ∃ k : Nat, k ≤ n ∧ i = .int .i64 k ∧ fitL ks k = true ∧ Below w.heap.size w wr) (fun i _ => n - (intOf i).toNat)
  case atStart => exact ⟨0, by omega, rfl, rfl, Below.refl _ _⟩
  case round =>
    obtain ⟨k, hk, rfl, hfit, hbel⟩ := hrel
    have HB := Lib.hid hbel
    by_cases hlt : k < n
    · have hs := all_succ (fun i => inR (kx ks i) && inR (ky ks i)) k
      have hst := all_stop (fun i => inR (kx ks i) && inR (ky ks i)) k n hlt
      obtain ⟨c0, c1⟩ := HC.out.at hb hbel k (by rw [← HN.out]; exact hlt)
      have HS := Lib.hid hs
      have HT := Lib.hid hst
      have HF := Lib.hid hfit
      clear hs hst hfit hbel
      obtain ⟨X, hX⟩ : ∃ X, X = kx ks k := ⟨_, rfl⟩
      obtain ⟨Y, hY⟩ : ∃ Y, Y = ky ks k := ⟨_, rfl⟩
      rw [← hX] at c0
      rw [← hY] at c1
      have HX := Lib.hid hX
      have HY := Lib.hid hY
      clear hX hY
      by_cases iX : inR X = true
      · have HX1 := Lib.hid fun w => (by have h := inside_any X w; rw [iX] at h; exact h : Calls Try.prog 29 #[.int .i64 X] w fun e w' => e = .returned (.bool true) ∧ w = w')
        by_cases iY : inR Y = true
        · have HY1 := Lib.hid fun w => (by have h := inside_any Y w; rw [iY] at h; exact h : Calls Try.prog 29 #[.int .i64 Y] w fun e w' => e = .returned (.bool true) ∧ w = w')
          have hfit' : fitL ks (k + 1) = true := by
            unfold fitL; rw [HS.out, ← HX.out, ← HY.out, iX, iY, Bool.and_true, Bool.and_true]; exact HF.out
          have HF' := Lib.hid hfit'
          clear hfit' iX iY
          go_wp2_with (first | (go_at_call_of 29 (Value.int IntKind.i64 X); refine (HX1.out _).mono ?_; rintro e w' ⟨rfl, rfl⟩) | (go_at_call 29; refine (HY1.out _).mono ?_; rintro e w' ⟨rfl, rfl⟩))
          go_roundw
          case rel => exact ⟨k + 1, by omega, by go_num, HF'.out, HB.out⟩
          case measure => simp [intOf]; omega
        · have hz : 6 = z := by
            have h := HZ.out
            rw [if_pos (show fitL ks n = false from HT.out (by rw [← HX.out, ← HY.out, iX, Bool.not_eq_true _ |>.mp iY]; rfl))] at h
            exact h.symm
          have HY1 := Lib.hid fun w => (by have h := inside_any Y w; rw [Bool.not_eq_true _ |>.mp iY] at h; exact h : Calls Try.prog 29 #[.int .i64 Y] w fun e w' => e = .returned (.bool false) ∧ w = w')
          have HN6 := Lib.hid hz
          clear hz iX iY
          go_wp2_with (first | (go_at_call_of 29 (Value.int IntKind.i64 X); refine (HX1.out _).mono ?_; rintro e w' ⟨rfl, rfl⟩) | (go_at_call 29; refine (HY1.out _).mono ?_; rintro e w' ⟨rfl, rfl⟩))
          go_ret
          exact ⟨ret_int HN6.out, HB.out⟩
      · have hz : 6 = z := by
          have h := HZ.out
          rw [if_pos (show fitL ks n = false from HT.out (by rw [← HX.out, ← HY.out, Bool.not_eq_true _ |>.mp iX]; rfl))] at h
          exact h.symm
        have HX1 := Lib.hid fun w => (by have h := inside_any X w; rw [Bool.not_eq_true _ |>.mp iX] at h; exact h : Calls Try.prog 29 #[.int .i64 X] w fun e w' => e = .returned (.bool false) ∧ w = w')
        have HY1 := Lib.hid fun w => inside_any Y w
        have HN6 := Lib.hid hz
        clear hz iX
        go_wp2_with (first | (go_at_call_of 29 (Value.int IntKind.i64 X); refine (HX1.out _).mono ?_; rintro e w' ⟨rfl, rfl⟩) | (go_at_call 29; refine (HY1.out _).mono ?_; rintro e w' ⟨rfl, rfl⟩))
        go_ret
        exact ⟨ret_int HN6.out, HB.out⟩
    · obtain rfl : k = n := by omega
      have hz : z = if riseL ks (k - 1) = false then 5 else 0 := by
        have h := HZ.out
        rw [hfit, if_neg (by decide)] at h
        exact h
      have HZ2 := Lib.hid hz
      clear hz hfit hbel
      obtain ⟨wo, rfl⟩ : ∃ wo : World, wo = wr := ⟨_, rfl⟩
      go_wp2_with fail
      go_loopw [4] (fun i wr => ∃ j : Nat, j ≤ k - 1 ∧ i = .int .i64 ((j : Int) + 1) ∧ riseL ks j = true ∧ Below w.heap.size w wr) (fun i _ => k - (intOf i).toNat)
      case atStart => exact ⟨0, by omega, rfl, rfl, HB.out⟩
      case round =>
        obtain ⟨j, hj, rfl, hrise, hbel2⟩ := hrel
        have HB2 := Lib.hid hbel2
        by_cases hlt2 : j < k - 1
        · have hs := all_succ (fun i => decide (kx ks i < kx ks (i + 1))) j
          have hst := all_stop (fun i => decide (kx ks i < kx ks (i + 1))) j (k - 1) hlt2
          have c0 := (HC.out.at hb hbel2 j (by rw [← HN.out]; omega)).1
          have c1 := (HC.out.at hb hbel2 (j + 1) (by rw [← HN.out]; omega)).1
          have HS := Lib.hid hs
          have HT := Lib.hid hst
          have HF := Lib.hid hrise
          clear hs hst hrise hbel2
          obtain ⟨X, hX⟩ : ∃ X, X = kx ks j := ⟨_, rfl⟩
          obtain ⟨Y, hY⟩ : ∃ Y, Y = kx ks (j + 1) := ⟨_, rfl⟩
          rw [← hX] at c0
          rw [← hY] at c1
          have HX := Lib.hid hX
          have HY := Lib.hid hY
          clear hX hY
          have hj1 : j + 1 < k := by omega
          by_cases hr : X < Y
          · have t2 : decide (Y ≤ X) = false := by rw [decide_eq_false_iff_not]; omega
            have hrise' : riseL ks (j + 1) = true := by
              unfold riseL; rw [HS.out, ← HX.out, ← HY.out, decide_eq_true hr, Bool.and_true]; exact HF.out
            have HF' := Lib.hid hrise'
            clear hrise' hr
            go_wp2_with fail
            go_quiet (fail)
            go_wp2_with fail
            go_roundw
            case rel => exact ⟨j + 1, by omega, by go_num, HF'.out, HB2.out.trans (below_drewN _ _ _)⟩
            case measure => simp [intOf]; omega
          · have t2 : decide (Y ≤ X) = true := by rw [decide_eq_true_eq]; omega
            have hz : 5 = z := by
              have h := HZ2.out
              rw [if_pos (show riseL ks (k - 1) = false from HT.out (by rw [← HX.out, ← HY.out, decide_eq_false hr]))] at h
              exact h.symm
            have HN5 := Lib.hid hz
            clear hz hr
            go_wp2_with fail
            go_quiet (fail)
            go_wp2_with fail
            go_ret
            exact ⟨ret_int HN5.out, HB2.out.trans (below_drewN _ _ _)⟩
        · obtain rfl : j = k - 1 := by omega
          have hz : 0 = z := by
            have h := HZ2.out
            rw [hrise, if_neg (by decide)] at h
            exact h.symm
          have HN0 := Lib.hid hz
          clear hz hrise hbel2
          go_wp2_with fail
          go_ret
          exact ⟨ret_int HN0.out, HB2.out⟩

set_option maxHeartbeats 400000 in
theorem rcheck_out (a : Option Addr) (n cap : Nat) (w : World) (h : n = 0 ∨ 32 < n) :
    Calls Try.prog 12 #[.slice a n cap] w fun e w' => e = .returned (.int .i64 1) ∧ Below w.heap.size w w' := by
  by_cases h0 : n = 0
  · subst h0
    clear h
    go_enter Try.func12, Try.ntmps12
    go_wp2_with fail
    go_ret
    exact ⟨rfl, Below.refl _ _⟩
  · have t0 : decide ((n : Int) < 1) = false := by rw [decide_eq_false_iff_not]; omega
    have t1 : decide ((32 : Int) < n) = true := by rw [decide_eq_true_eq]; omega
    clear h h0
    go_enter Try.func12, Try.ntmps12
    go_wp2_with fail
    go_ret
    exact ⟨rfl, Below.refl _ _⟩

theorem rcheck_any (a : Option Addr) (n cap : Nat) (ks : List (Int × Int)) (w : World) (h : IsKnots w a n ks) :
    Calls Try.prog 12 #[.slice a n cap] w fun e w' => e = .returned (.int .i64 (checkL ks)) ∧ Below w.heap.size w w' := by
  rcases h with ⟨rfl, rfl⟩ | ⟨b, off, rfl, hb, rfl, hl, hc⟩
  · exact rcheck_out a 0 cap w (.inl rfl)
  · by_cases hout : ks.length = 0 ∨ 32 < ks.length
    · have e : checkL ks = 1 := by unfold checkL; rw [if_pos hout]
      rw [e]
      exact rcheck_out _ _ cap w hout
    · exact rcheck_some b off cap ks w (by omega) (by omega) hb hc
end Go.Proofs.Ythghcppdfeeloaa
