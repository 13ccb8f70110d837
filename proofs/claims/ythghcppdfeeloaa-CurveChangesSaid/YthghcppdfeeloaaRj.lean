/- The specification's Inverse, every way. -/
import Derived.Test.YthghcppdfeeloaaRi
namespace Go.Proofs.Ythghcppdfeeloaa
open Go.RowKit

set_option maxHeartbeats 1000000 in
set_option maxRecDepth 100000 in
theorem rinverse_any (a : Option Addr) (n cap : Nat) (ks : List (Int × Int)) (y : Int) (w : World) (h : IsKnots w a n ks) :
    Calls Try.prog 19 #[.slice a n cap, .int .i64 y] w fun e w' => e = .returned (.tuple #[.int .i64 (invI ks y).1, .int .i64 (invI ks y).2]) ∧ Below w.heap.size w w' := by
  have H1 := Lib.hid (rcheck_any a n cap ks w h)
  by_cases hc : checkL ks = 0
  · obtain ⟨h0, h32, hf, hr⟩ := check_zero ks hc
    obtain ⟨b, off, rfl, hb, rfl, hkn⟩ := h.some h0
    have HDr := Lib.hid fun w' (hw : Below w.heap.size w w') => rdirection_some b off cap ks w' (Nat.lt_of_lt_of_le hb hw.size) (hkn.at hb hw) hc
    by_cases hd : dirI ks = 0 ∨ dirI ks = 1
    · by_cases hy : y ≤ ky ks (ks.length - 1)
      · have e : invI ks y = (kx ks 0 + invR ks y, 0) := by unfold invI; rw [if_neg (by omega), if_neg (by omega), if_neg (by omega)]
        rw [e]
        exact rinverse_some b off cap ks y w hb hkn hc hd hy
      · have e : invI ks y = (0, 9) := by unfold invI; rw [if_neg (by omega), if_neg (by omega), if_pos (by omega)]
        rw [e]
        rw [hc] at H1
        obtain ⟨n, hn⟩ : ∃ n, n = ks.length := ⟨_, rfl⟩
        obtain ⟨Y1, hY1⟩ : ∃ Y1, Y1 = ky ks (ks.length - 1) := ⟨_, rfl⟩
        have HE := Lib.hid fun w' (hw : Below w.heap.size w w') => (show w'.cell? ⟨b, off + (n - 1) * 2 + 1, none⟩ = some (.int .i64 Y1) by have := ((hkn.at hb hw) (ks.length - 1) (by omega)).2; rw [← hY1] at this; rw [hn]; exact this)
        have t0 : decide (Y1 < y) = true := decide_eq_true (by omega)
        have m2 : IntKind.i64.wrap ((n : Int) - 1) = (n : Int) - 1 := IntWalk.i64_in _ ⟨by omega, by omega⟩
        have m4 : (0 : Int) ≤ (n : Int) - 1 := by omega
        have m5 : (n : Int) - 1 < n := by omega
        have m6 : ((n : Int) - 1).toNat = n - 1 := by omega
        rw [← hn] at H1 HDr ⊢
        obtain ⟨d, hdd⟩ : ∃ d, d = dirI ks := ⟨_, rfl⟩
        have td0 : d = 0 ∨ d = 1 := by rw [hdd]; exact hd
        rw [← hdd] at HDr
        clear h hc hd hy e h0 h32 hf hr hn hY1 hkn hb hdd
        go_enter Try.func19, Try.ntmps19
        go_wp2_with fail
        refine H1.out.mono ?_
        rintro e w1 ⟨rfl, hb1⟩
        have B1 := Lib.hid hb1
        clear hb1
        go_wp2_with fail
        refine (HDr.out _ B1.out).mono ?_
        rintro e w2 ⟨rfl, hb2⟩
        have B2 := Lib.hid (B1.out.trans (hb2.mono B1.out.size))
        clear hb2
        have c2 := HE.out _ B2.out
        rcases td0 with rfl | rfl
        all_goals
          go_wp2_with fail
          go_ret2
          exact ⟨rfl, B2.out⟩
    · have e : invI ks y = (0, 8) := by unfold invI; rw [if_neg (by omega), if_pos (by omega)]
      rw [e]
      rw [hc] at H1
      obtain ⟨n, hn⟩ : ∃ n, n = ks.length := ⟨_, rfl⟩
      rw [← hn] at H1 HDr ⊢
      obtain ⟨d, hdd⟩ : ∃ d, d = dirI ks := ⟨_, rfl⟩
      have t1 : (d != 0) = true := by rw [bne_iff_ne]; omega
      have t2 : (d != 1) = true := by rw [bne_iff_ne]; omega
      rw [← hdd] at HDr
      clear h hc hd e h0 h32 hf hr hn hkn hb hdd
      go_enter Try.func19, Try.ntmps19
      go_wp2_with fail
      refine H1.out.mono ?_
      rintro e w1 ⟨rfl, hb1⟩
      have B1 := Lib.hid hb1
      clear hb1
      go_wp2_with fail
      refine (HDr.out _ B1.out).mono ?_
      rintro e w2 ⟨rfl, hb2⟩
      have B2 := Lib.hid (B1.out.trans (hb2.mono B1.out.size))
      clear hb2
      go_wp2_with fail
      go_ret2
      exact ⟨rfl, B2.out⟩
  · have e : invI ks y = (0, checkL ks) := by unfold invI; rw [if_pos hc]
    rw [e]
    obtain ⟨E, hE⟩ : ∃ E, E = checkL ks := ⟨_, rfl⟩
    have t0 : (E != 0) = true := by rw [bne_iff_ne]; omega
    rw [← hE] at H1 ⊢
    clear h hc e hE
    go_enter Try.func19, Try.ntmps19
    go_wp2_with fail
    refine H1.out.mono ?_
    rintro e w1 ⟨rfl, hb1⟩
    have B1 := Lib.hid hb1
    clear hb1
    go_wp2_with fail
    go_ret2
    exact ⟨rfl, B1.out⟩
end Go.Proofs.Ythghcppdfeeloaa
