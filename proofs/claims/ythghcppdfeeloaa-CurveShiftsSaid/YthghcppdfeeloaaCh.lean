/- The law CurveShifts. -/
import Derived.Test.YthghcppdfeeloaaCi
import Derived.Test.YthghcppdfeeloaaSf
namespace Go.Proofs.Ythghcppdfeeloaa
open Go.RowKit

set_option maxHeartbeats 4000000 in
set_option maxRecDepth 100000 in
theorem shifts_law (a : Option Addr) (n cap : Nat) (dx dy x : Int) (ks : List (Int × Int)) (w : World) (h : IsKnots w a n ks) (hdx : -9223372036854775808 ≤ dx ∧ dx ≤ 9223372036854775807) (hdy : -9223372036854775808 ≤ dy ∧ dy ≤ 9223372036854775807) (_ : -9223372036854775808 ≤ x ∧ x ≤ 9223372036854775807) :
    Calls Try.prog 10 #[.slice a n cap, .int .i64 dx, .int .i64 dy, .int .i64 x] w fun e w' => e = .returned (.bool true) ∧ Below w.heap.size w w' := by
  have HAw := Lib.hid (awake_yes w)
  have H1 := Lib.hid fun w' (hb : Below w.heap.size w w') => shift_any a n cap dx dy ks w' (h.at hb) hdx.1 hdx.2 hdy.1 hdy.2
  by_cases hyes : shiftE ks dx dy = 0 ∧ -1000000000000 ≤ x ∧ x ≤ 1000000000000
  · obtain ⟨hE, hx1, hx2⟩ := hyes
    have hc : checkL ks = 0 := by
      unfold shiftE at hE
      by_cases hc : checkL ks = 0
      · exact hc
      · rw [if_pos hc] at hE; exact absurd hE hc
    have hfit : fitL (shiftK ks dx dy) ks.length = true := by
      unfold shiftE at hE
      rw [if_neg (by omega)] at hE
      split at hE
      · assumption
      · omega
    obtain ⟨h0, h32, hf, hr⟩ := check_zero ks hc
    have hR : shiftR ks dx dy = shiftK ks dx dy := if_pos hE
    obtain ⟨hnx, hny⟩ := shift_near hc dx dy hfit
    have hck := check_shiftK hc dx dy hfit
    have hEb := shiftE_back hc dx dy hfit
    have hRb : shiftR (shiftK ks dx dy) (-dx) (-dy) = ks := (if_pos hEb).trans (shift_back ks dx dy)
    have hff := shiftE_flat hc dx dy hfit
    have hEf : shiftE ks dx 0 = 0 := by unfold shiftE; rw [if_neg (by omega), if_pos hff]
    have hRf : shiftR ks dx 0 = shiftK ks dx 0 := if_pos hEf
    have hcf := check_shiftK hc dx 0 hff
    have hvf := val_shift hc dx x hcf
    have haf := area_shift ks dx (ks.length - 1) (by omega)
    have hdf := dir_shift ks dx dy
    have lk := shiftK_len ks dx dy
    have lf := shiftK_len ks dx 0
    rw [hE, hR] at H1
    have H2 := Lib.hid fun (a' : Option Addr) (c' : Nat) w' (hS : IsKnots w' a' (shiftK ks dx dy).length (shiftK ks dx dy)) => (by
      have := shift_any a' _ c' (-dx) (-dy) _ w' hS (by omega) (by omega) (by omega) (by omega); rw [hEb, hRb] at this; exact this)
    have H3 := Lib.hid fun w' (hb : Below w.heap.size w w') => (by
      have := shift_any a n cap dx 0 ks w' (h.at hb) hdx.1 hdx.2 (by omega) (by omega); rw [hEf, hRf] at this; exact this)
    have H4 := Lib.hid fun w' (hb : Below w.heap.size w w') => (by
      have := eval_any a n cap ks x w' (h.at hb); rw [if_pos hc, hc] at this; exact this)
    have H5 := Lib.hid fun (a' : Option Addr) (c' : Nat) w' (hS : IsKnots w' a' (shiftK ks dx 0).length (shiftK ks dx 0)) => (by
      have := eval_any a' _ c' _ (x + dx) w' hS; rw [if_pos hcf, hcf, hvf] at this; exact this)
    have H6 := Lib.hid fun w' (hb : Below w.heap.size w w') => (by
      have := area_any a n cap ks w' (h.at hb); rw [if_pos hc, hc] at this; exact this)
    have H7 := Lib.hid fun (a' : Option Addr) (c' : Nat) w' (hS : IsKnots w' a' (shiftK ks dx 0).length (shiftK ks dx 0)) => (by
      have := area_any a' _ c' _ w' hS; rw [if_pos hcf, hcf, lf, haf] at this; exact this)
    have H8 := Lib.hid fun w' (hb : Below w.heap.size w w') => (by
      have := direction_any a n cap ks w' (h.at hb); rw [if_pos hc, hc] at this; exact this)
    have H9 := Lib.hid fun (a' : Option Addr) (c' : Nat) w' (hS : IsKnots w' a' (shiftK ks dx dy).length (shiftK ks dx dy)) => (by
      have := direction_any a' _ c' _ w' hS; rw [if_pos hck, hck, hdf] at this; exact this)
    have HSm := Lib.hid fun (a1 : Option Addr) (c1 : Nat) w' (hb : Below w.heap.size w w') (hT : IsKnots w' a1 ks.length ks) => (by
      have := same_any a1 a ks.length n c1 cap ks ks w' hT (h.at hb); rw [(sameL_iff ks ks).2 rfl] at this; exact this)
    have e1 : IntKind.i64.wrap (x + dx) = x + dx := IntWalk.i64_in _ ⟨by omega, by omega⟩
    have e2 : wrap64 (-dx) = -dx := by unfold wrap64; omega
    have e3 : wrap64 (-dy) = -dy := by unfold wrap64; omega
    have t1 : decide (x < -1000000000000) = false := decide_eq_false (by omega)
    have t2 : decide (1000000000000 < x) = false := decide_eq_false (by omega)
    rw [lk] at H1
    obtain ⟨V, hV⟩ : ∃ V, V = valI ks x := ⟨_, rfl⟩
    obtain ⟨D, hD⟩ : ∃ D, D = dirI ks := ⟨_, rfl⟩
    rw [← hV] at H4 H5
    rw [← hD] at H8 H9
    obtain ⟨A1, hA1⟩ : ∃ t, t = areaI ks (ks.length - 1) / 1000000000000 := ⟨_, rfl⟩
    obtain ⟨A2, hA2⟩ : ∃ t, t = areaI ks (ks.length - 1) % 1000000000000 := ⟨_, rfl⟩
    rw [← hA1, ← hA2] at H6 H7
    have lk2 := lk
    obtain ⟨m, hm⟩ : ∃ m, m = ks.length := ⟨_, rfl⟩
    rw [lk] at H2 H9
    rw [lf] at H3 H5 H7
    rw [← hm] at H1 H2 H3 H5 H7 H9 HSm
    clear h hE hx1 hx2 hc hfit h0 h32 hf hr hR hnx hny hck hEb hRb hff hEf hRf hcf hvf haf hdf lk lf lk2 hV hD hA1 hA2 hm hdx hdy
    go_enter Try.func10, Try.ntmps10
    go_wp2_with fail
    refine HAw.out.mono ?_
    rintro e w1 ⟨rfl, hb1⟩
    have B1 := Lib.hid hb1
    clear hb1
    go_wp2_with fail
    refine (H1.out _ B1.out).mono ?_
    rintro e w2 ⟨⟨a2, c2, rfl, hS⟩, hb⟩
    have S2 := Lib.hid hS
    have B2 := Lib.hid (B1.out.trans (hb.mono B1.out.size))
    clear hb hS
    go_wp2_with fail
    refine (H2.out a2 c2 _ S2.out).mono ?_
    rintro e w3 ⟨⟨a3, c3, rfl, hT⟩, hb⟩
    have T3 := Lib.hid hT
    have S3 := Lib.hid (S2.out.at hb)
    have B3 := Lib.hid (B2.out.trans (hb.mono B2.out.size))
    clear hb hT
    go_wp2_with fail
    refine (HSm.out a3 c3 _ B3.out T3.out).mono ?_
    rintro e w4 ⟨rfl, hb⟩
    have S4 := Lib.hid (S3.out.at hb)
    have B4 := Lib.hid (B3.out.trans (hb.mono B3.out.size))
    clear hb
    go_wp2_with fail
    refine (H3.out _ B4.out).mono ?_
    rintro e w5 ⟨⟨a5, c5, rfl, hT⟩, hb⟩
    have T5 := Lib.hid hT
    have S5 := Lib.hid (S4.out.at hb)
    have B5 := Lib.hid (B4.out.trans (hb.mono B4.out.size))
    clear hb hT
    go_wp2_with fail
    refine (H4.out _ B5.out).mono ?_
    rintro e w6 ⟨rfl, hb⟩
    have T6 := Lib.hid (T5.out.at hb)
    have S6 := Lib.hid (S5.out.at hb)
    have B6 := Lib.hid (B5.out.trans (hb.mono B5.out.size))
    clear hb
    go_wp2_with fail
    refine (H5.out a5 c5 _ T6.out).mono ?_
    rintro e w7 ⟨rfl, hb⟩
    have T7 := Lib.hid (T6.out.at hb)
    have S7 := Lib.hid (S6.out.at hb)
    have B7 := Lib.hid (B6.out.trans (hb.mono B6.out.size))
    clear hb
    go_wp2_with fail
    refine (H6.out _ B7.out).mono ?_
    rintro e w8 ⟨rfl, hb⟩
    have T8 := Lib.hid (T7.out.at hb)
    have S8 := Lib.hid (S7.out.at hb)
    have B8 := Lib.hid (B7.out.trans (hb.mono B7.out.size))
    clear hb
    go_wp2_with fail
    refine (H7.out a5 c5 _ T8.out).mono ?_
    rintro e w9 ⟨rfl, hb⟩
    have S9 := Lib.hid (S8.out.at hb)
    have B9 := Lib.hid (B8.out.trans (hb.mono B8.out.size))
    clear hb
    go_wp2_with fail
    refine (H8.out _ B9.out).mono ?_
    rintro e w10 ⟨rfl, hb⟩
    have S10 := Lib.hid (S9.out.at hb)
    have B10 := Lib.hid (B9.out.trans (hb.mono B9.out.size))
    clear hb
    go_wp2_with fail
    refine (H9.out a2 c2 _ S10.out).mono ?_
    rintro e w11 ⟨rfl, hb⟩
    have B11 := Lib.hid (B10.out.trans (hb.mono B10.out.size))
    clear hb
    go_wp2_with fail
    go_ret
    exact ⟨by simp, B11.out⟩
  · by_cases hE : shiftE ks dx dy = 0
    · rw [hE] at H1
      obtain ⟨R, hR⟩ : ∃ R, R = shiftR ks dx dy := ⟨_, rfl⟩
      rw [← hR] at H1
      have hx : x < -1000000000000 ∨ ¬ x < -1000000000000 ∧ 1000000000000 < x := by omega
      clear h hyes hE hR hdx hdy
      rcases hx with hx | ⟨hx, hx2⟩
      · have t1 : decide (x < -1000000000000) = true := decide_eq_true hx
        go_enter Try.func10, Try.ntmps10
        go_wp2_with fail
        refine HAw.out.mono ?_
        rintro e w1 ⟨rfl, hb1⟩
        have B1 := Lib.hid hb1
        clear hb1
        go_wp2_with fail
        refine (H1.out _ B1.out).mono ?_
        rintro e w2 ⟨⟨a2, c2, rfl, hS⟩, hb⟩
        have B2 := Lib.hid (B1.out.trans (hb.mono B1.out.size))
        clear hb hS
        go_wp2_with fail
        go_ret
        exact ⟨rfl, B2.out⟩
      · have t1 : decide (x < -1000000000000) = false := decide_eq_false hx
        have t2 : decide (1000000000000 < x) = true := decide_eq_true hx2
        go_enter Try.func10, Try.ntmps10
        go_wp2_with fail
        refine HAw.out.mono ?_
        rintro e w1 ⟨rfl, hb1⟩
        have B1 := Lib.hid hb1
        clear hb1
        go_wp2_with fail
        refine (H1.out _ B1.out).mono ?_
        rintro e w2 ⟨⟨a2, c2, rfl, hS⟩, hb⟩
        have B2 := Lib.hid (B1.out.trans (hb.mono B1.out.size))
        clear hb hS
        go_wp2_with fail
        go_ret
        exact ⟨rfl, B2.out⟩
    · obtain ⟨R, hR⟩ : ∃ R, R = shiftR ks dx dy := ⟨_, rfl⟩
      obtain ⟨E, hE2⟩ : ∃ E, E = shiftE ks dx dy := ⟨_, rfl⟩
      rw [← hR, ← hE2] at H1
      rw [← hE2] at hE
      have t0 : (E != 0) = true := by rw [bne_iff_ne]; exact hE
      clear h hyes hE hR hE2 hdx hdy
      go_enter Try.func10, Try.ntmps10
      go_wp2_with fail
      refine HAw.out.mono ?_
      rintro e w1 ⟨rfl, hb1⟩
      have B1 := Lib.hid hb1
      clear hb1
      go_wp2_with fail
      refine (H1.out _ B1.out).mono ?_
      rintro e w2 ⟨⟨a2, c2, rfl, hS⟩, hb⟩
      have B2 := Lib.hid (B1.out.trans (hb.mono B1.out.size))
      clear hb hS
      go_wp2_with fail
      go_ret
      exact ⟨rfl, B2.out⟩
end Go.Proofs.Ythghcppdfeeloaa
