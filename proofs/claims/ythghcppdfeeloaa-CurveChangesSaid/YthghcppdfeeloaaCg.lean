/- The law CurveChanges. -/
import Derived.Test.YthghcppdfeeloaaOp
import Derived.Test.YthghcppdfeeloaaCe
import Derived.Test.YthghcppdfeeloaaRt
namespace Go.Proofs.Ythghcppdfeeloaa
open Go.RowKit

set_option maxHeartbeats 4000000 in
set_option maxRecDepth 100000 in
theorem changes_law (a : Option Addr) (n cap : Nat) (dx dy : Int) (ks : List (Int × Int)) (w : World) (h : IsKnots w a n ks) (hcap : n ≤ cap) (hdx : -9223372036854775808 ≤ dx ∧ dx ≤ 9223372036854775807) (hdy : -9223372036854775808 ≤ dy ∧ dy ≤ 9223372036854775807) :
    Calls Try.prog 5 #[.slice a n cap, .int .i64 dx, .int .i64 dy] w fun e w' => e = .returned (.bool true) ∧ Below w.heap.size w w' := by
  have HAw := Lib.hid (awake_yes w)
  by_cases h40 : 40 < n
  · have t0 : decide ((40 : Int) < (n : Int)) = true := decide_eq_true (by omega)
    clear h h40
    go_enter Try.func5, Try.ntmps5
    go_wp2_with fail
    refine HAw.out.mono ?_
    rintro e w1 ⟨rfl, hb1⟩
    have B1 := Lib.hid hb1
    clear hb1
    go_wp2_with fail
    go_ret
    exact ⟨rfl, B1.out⟩
  · have t0 : decide ((40 : Int) < (n : Int)) = false := decide_eq_false (by omega)
    have H1 := Lib.hid fun w' (hb : Below w.heap.size w w') => shift_any a n cap dx dy ks w' (h.at hb) hdx.1 hdx.2 hdy.1 hdy.2
    have H2 := Lib.hid fun w' (hb : Below w.heap.size w w') => rshift_any a n cap dx dy ks w' (h.at hb) hdx.1 hdx.2 hdy.1 hdy.2
    have H3 := Lib.hid fun w' (hb : Below w.heap.size w w') => simplify_any a n cap ks w' (h.at hb)
    have H4 := Lib.hid fun w' (hb : Below w.heap.size w w') => area_any a n cap ks w' (h.at hb)
    have H6 := Lib.hid fun w' (hb : Below w.heap.size w w') => rcheck_any a n cap ks w' (h.at hb)
    have H5 := Lib.hid fun (a1 a2 : Option Addr) (c1 c2 : Nat) w' (hS : IsKnots w' a1 (shiftR ks dx dy).length (shiftR ks dx dy)) (hT : IsKnots w' a2 (shiftR ks dx dy).length (shiftR ks dx dy)) => (by
      have := same_any a1 a2 _ _ c1 c2 _ _ w' hS hT; rw [(sameL_iff _ _).2 rfl] at this; exact this)
    obtain ⟨SR, hSR⟩ : ∃ t, t = shiftR ks dx dy := ⟨_, rfl⟩
    obtain ⟨SE, hSE⟩ : ∃ t, t = shiftE ks dx dy := ⟨_, rfl⟩
    rw [← hSR, ← hSE] at H1 H2
    rw [← hSR] at H5
    by_cases hc : checkL ks = 0
    · obtain ⟨b, off, rfl, hb, hn, hkn⟩ := h.some (check_zero ks hc).1
      have e1 : simpR ks = simpL ks := if_pos hc
      have H7 := Lib.hid fun w' (hw : Below w.heap.size w w') => rsimplify_any _ ks b off cap w' rfl hc (Nat.lt_of_lt_of_le hb hw.size) (hkn.at hb hw) (by omega)
      have H8 := Lib.hid fun (a1 a2 : Option Addr) (c1 c2 : Nat) w' (hS : IsKnots w' a1 (simpL ks).length (simpL ks)) (hT : IsKnots w' a2 (simpL ks).length (simpL ks)) => (by
        have := same_any a1 a2 _ _ c1 c2 _ _ w' hS hT; rw [(sameL_iff _ _).2 rfl] at this; exact this)
      have H9 := Lib.hid fun w' (hw : Below w.heap.size w w') => (by
        have := rarea_any b off cap ks w' hc (Nat.lt_of_lt_of_le hb hw.size) (hkn.at hb hw)
        simp only [twoW] at this; exact this)
      rw [e1, hc] at H3
      rw [if_pos hc, if_pos hc, hc] at H4
      rw [hc] at H6
      rw [← hn] at H7 H9
      rw [← hn] at H4
      obtain ⟨SL, hSL⟩ : ∃ t, t = simpL ks := ⟨_, rfl⟩
      rw [← hSL] at H3 H7 H8
      obtain ⟨A1, hA1⟩ : ∃ t, t = areaI ks (n - 1) / 1000000000000 := ⟨_, rfl⟩
      obtain ⟨A2, hA2⟩ : ∃ t, t = areaI ks (n - 1) % 1000000000000 := ⟨_, rfl⟩
      rw [← hA1, ← hA2] at H4 H9
      obtain ⟨m, hm⟩ : ∃ t, t = SR.length := ⟨_, rfl⟩
      rw [← hm] at H1 H2 H5
      obtain ⟨l, hl⟩ : ∃ t, t = SL.length := ⟨_, rfl⟩
      rw [← hl] at H3 H7 H8
      clear h h40 hSR hSE hc hb hn hkn e1 hSL hA1 hA2 hm hl hdx hdy hcap
      go_enter Try.func5, Try.ntmps5
      go_wp2_with fail
      refine HAw.out.mono ?_
      rintro e w1 ⟨rfl, hb1⟩
      have B1 := Lib.hid hb1
      clear hb1
      go_wp2_with fail
      refine (H1.out _ B1.out).mono ?_
      rintro e w2 ⟨⟨a2, c2, rfl, hS⟩, hb⟩
      have S2 := Lib.hid hS
      have B2 := Lib.hid (B1.out.trans (hb.mono B1.out.size))
      clear hb hS
      go_wp2_with fail
      refine (H2.out _ B2.out).mono ?_
      rintro e w3 ⟨⟨a3, c3, rfl, hT⟩, hb⟩
      have T3 := Lib.hid hT
      have S3 := Lib.hid (S2.out.at hb)
      have B3 := Lib.hid (B2.out.trans (hb.mono B2.out.size))
      clear hb hT
      go_wp2_with fail
      refine (H3.out _ B3.out).mono ?_
      rintro e w4 ⟨⟨a4, c4, rfl, hU⟩, hb⟩
      have U4 := Lib.hid hU
      have T4 := Lib.hid (T3.out.at hb)
      have S4 := Lib.hid (S3.out.at hb)
      have B4 := Lib.hid (B3.out.trans (hb.mono B3.out.size))
      clear hb hU
      go_wp2_with fail
      refine (H4.out _ B4.out).mono ?_
      rintro e w5 ⟨rfl, hb⟩
      have U5 := Lib.hid (U4.out.at hb)
      have T5 := Lib.hid (T4.out.at hb)
      have S5 := Lib.hid (S4.out.at hb)
      have B5 := Lib.hid (B4.out.trans (hb.mono B4.out.size))
      clear hb
      go_wp2_with fail
      refine (H5.out a2 a3 c2 c3 _ S5.out T5.out).mono ?_
      rintro e w6 ⟨rfl, hb⟩
      have U6 := Lib.hid (U5.out.at hb)
      have B6 := Lib.hid (B5.out.trans (hb.mono B5.out.size))
      clear hb
      go_wp2_with fail
      refine (H6.out _ B6.out).mono ?_
      rintro e w7 ⟨rfl, hb⟩
      have U7 := Lib.hid (U6.out.at hb)
      have B7 := Lib.hid (B6.out.trans (hb.mono B6.out.size))
      clear hb
      go_wp2_with fail
      refine (H7.out _ B7.out).mono ?_
      rintro e w8 ⟨⟨a8, c8, rfl, hV⟩, hb⟩
      have U8 := Lib.hid (U7.out.at hb)
      have V8 := Lib.hid hV
      have B8 := Lib.hid (B7.out.trans (hb.mono B7.out.size))
      clear hb hV
      go_wp2_with fail
      refine (H8.out a4 a8 c4 c8 _ U8.out V8.out).mono ?_
      rintro e w9 ⟨rfl, hb⟩
      have B9 := Lib.hid (B8.out.trans (hb.mono B8.out.size))
      clear hb
      go_wp2_with fail
      refine (H9.out _ B9.out).mono ?_
      rintro e w10 ⟨rfl, hb⟩
      have B10 := Lib.hid (B9.out.trans (hb.mono B9.out.size))
      clear hb
      go_wp2_with fail
      go_ret
      exact ⟨by simp, B10.out⟩
    · have e1 : simpR ks = [] := if_neg hc
      rw [e1] at H3
      rw [if_neg hc, if_neg hc] at H4
      obtain ⟨E, hE⟩ : ∃ E, E = checkL ks := ⟨_, rfl⟩
      rw [← hE] at H3 H4 H6 hc
      have t2 : (E != 0) = true := by rw [bne_iff_ne]; exact hc
      obtain ⟨m, hm⟩ : ∃ t, t = SR.length := ⟨_, rfl⟩
      rw [← hm] at H1 H2 H5
      clear h h40 hSR hSE hc hE e1 hm hdx hdy hcap
      go_enter Try.func5, Try.ntmps5
      go_wp2_with fail
      refine HAw.out.mono ?_
      rintro e w1 ⟨rfl, hb1⟩
      have B1 := Lib.hid hb1
      clear hb1
      go_wp2_with fail
      refine (H1.out _ B1.out).mono ?_
      rintro e w2 ⟨⟨a2, c2, rfl, hS⟩, hb⟩
      have S2 := Lib.hid hS
      have B2 := Lib.hid (B1.out.trans (hb.mono B1.out.size))
      clear hb hS
      go_wp2_with fail
      refine (H2.out _ B2.out).mono ?_
      rintro e w3 ⟨⟨a3, c3, rfl, hT⟩, hb⟩
      have T3 := Lib.hid hT
      have S3 := Lib.hid (S2.out.at hb)
      have B3 := Lib.hid (B2.out.trans (hb.mono B2.out.size))
      clear hb hT
      go_wp2_with fail
      refine (H3.out _ B3.out).mono ?_
      rintro e w4 ⟨⟨a4, c4, rfl, hU⟩, hb⟩
      have T4 := Lib.hid (T3.out.at hb)
      have S4 := Lib.hid (S3.out.at hb)
      have B4 := Lib.hid (B3.out.trans (hb.mono B3.out.size))
      clear hb hU
      go_wp2_with fail
      refine (H4.out _ B4.out).mono ?_
      rintro e w5 ⟨rfl, hb⟩
      have T5 := Lib.hid (T4.out.at hb)
      have S5 := Lib.hid (S4.out.at hb)
      have B5 := Lib.hid (B4.out.trans (hb.mono B4.out.size))
      clear hb
      go_wp2_with fail
      refine (H5.out a2 a3 c2 c3 _ S5.out T5.out).mono ?_
      rintro e w6 ⟨rfl, hb⟩
      have B6 := Lib.hid (B5.out.trans (hb.mono B5.out.size))
      clear hb
      go_wp2_with fail
      refine (H6.out _ B6.out).mono ?_
      rintro e w7 ⟨rfl, hb⟩
      have B7 := Lib.hid (B6.out.trans (hb.mono B6.out.size))
      clear hb
      go_wp2_with fail
      go_ret
      exact ⟨by simp, B7.out⟩
end Go.Proofs.Ythghcppdfeeloaa
