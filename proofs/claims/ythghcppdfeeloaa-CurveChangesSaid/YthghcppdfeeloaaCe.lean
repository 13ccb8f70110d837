/- The law CurveEvals. -/
import Derived.Test.YthghcppdfeeloaaAw
import Derived.Test.YthghcppdfeeloaaCr
import Derived.Test.YthghcppdfeeloaaRe
import Derived.Test.YthghcppdfeeloaaRd
namespace Go.Proofs.Ythghcppdfeeloaa
open Go.RowKit

theorem IsKnots.len {w : World} {a : Option Addr} {n : Nat} {ks : List (Int × Int)} (h : IsKnots w a n ks) : n = ks.length := by
  rcases h with ⟨rfl, rfl⟩ | ⟨_, _, _, _, h, _, _⟩
  · rfl
  · exact h

set_option maxHeartbeats 1000000 in
set_option maxRecDepth 100000 in
theorem evals_law (a : Option Addr) (n cap : Nat) (x : Int) (ks : List (Int × Int)) (w : World) (h : IsKnots w a n ks) (_ : -9223372036854775808 ≤ x ∧ x ≤ 9223372036854775807) :
    Calls Try.prog 3 #[.slice a n cap, .int .i64 x] w fun e w' => e = .returned (.bool true) ∧ Below w.heap.size w w' := by
  have HAw := Lib.hid (awake_yes w)
  have HK := Lib.hid h
  by_cases h40 : 40 < n
  · have t0 : decide ((40 : Int) < (n : Int)) = true := decide_eq_true (by omega)
    clear h h40
    go_enter Try.func3, Try.ntmps3
    go_wp2_with fail
    refine HAw.out.mono ?_
    rintro e w1 ⟨rfl, hb1⟩
    have B1 := Lib.hid hb1
    clear hb1
    go_wp2_with fail
    go_ret
    exact ⟨rfl, B1.out⟩
  · have t0 : decide ((40 : Int) < (n : Int)) = false := decide_eq_false (by omega)
    obtain ⟨E, hE⟩ : ∃ E, E = checkL ks := ⟨_, rfl⟩
    have H1 := Lib.hid fun w' (hb : Below w.heap.size w w') => rcheck_any a n cap ks w' (h.at hb)
    have H2 := Lib.hid fun w' (hb : Below w.heap.size w w') => eval_any a n cap ks x w' (h.at hb)
    have H3 := Lib.hid fun w' (hb : Below w.heap.size w w') => direction_any a n cap ks w' (h.at hb)
    have H4 := Lib.hid fun w' (hb : Below w.heap.size w w') => check_any a n cap ks w' (h.at hb)
    rw [← hE] at H1 H2 H3 H4
    by_cases he : E = 0
    · have hc : checkL ks = 0 := hE.symm.trans he
      subst he
      obtain ⟨b, off, rfl, hb, hn, hkn⟩ := h.some (check_zero ks hc).1
      have H5 := Lib.hid fun w' (hw : Below w.heap.size w w') => reval_any b off cap ks x w' (Nat.lt_of_lt_of_le hb hw.size) (hkn.at hb hw) hc
      have H6 := Lib.hid fun w' (hw : Below w.heap.size w w') => rdirection_some b off cap ks w' (Nat.lt_of_lt_of_le hb hw.size) (hkn.at hb hw) hc
      rw [← hn] at H5 H6
      rw [if_pos rfl] at H2 H3
      obtain ⟨v, hv⟩ : ∃ v, v = valI ks x := ⟨_, rfl⟩
      obtain ⟨d, hd⟩ : ∃ d, d = dirI ks := ⟨_, rfl⟩
      rw [← hv] at H2 H5
      rw [← hd] at H3 H6
      clear h h40 hE hc hb hn hkn hv hd
      go_enter Try.func3, Try.ntmps3
      go_wp2_with fail
      refine HAw.out.mono ?_
      rintro e w1 ⟨rfl, hb1⟩
      have B1 := Lib.hid hb1
      clear hb1
      go_wp2_with fail
      refine (H1.out _ B1.out).mono ?_
      rintro e w2 ⟨rfl, hb2⟩
      have B2 := Lib.hid (B1.out.trans (hb2.mono B1.out.size))
      clear hb2
      go_wp2_with fail
      refine (H2.out _ B2.out).mono ?_
      rintro e w3 ⟨rfl, hb3⟩
      have B3 := Lib.hid (B2.out.trans (hb3.mono B2.out.size))
      clear hb3
      go_wp2_with fail
      refine (H3.out _ B3.out).mono ?_
      rintro e w4 ⟨rfl, hb4⟩
      have B4 := Lib.hid (B3.out.trans (hb4.mono B3.out.size))
      clear hb4
      go_wp2_with fail
      refine (H4.out _ B4.out).mono ?_
      rintro e w5 ⟨rfl, hb5⟩
      have B5 := Lib.hid (B4.out.trans (hb5.mono B4.out.size))
      clear hb5
      go_wp2_with fail
      refine (H5.out _ B5.out).mono ?_
      rintro e w6 ⟨rfl, hb6⟩
      have B6 := Lib.hid (B5.out.trans (hb6.mono B5.out.size))
      clear hb6
      go_wp2_with fail
      refine (H6.out _ B6.out).mono ?_
      rintro e w7 ⟨rfl, hb7⟩
      have B7 := Lib.hid (B6.out.trans (hb7.mono B6.out.size))
      clear hb7
      go_wp2_with fail
      go_ret
      exact ⟨by simp, B7.out⟩
    · rw [if_neg he] at H2 H3
      have t1 : (E == 0) = false := by rw [beq_eq_false_iff_ne]; exact he
      have t2 : (E != 0) = true := by rw [bne_iff_ne]; exact he
      clear h h40 hE he
      go_enter Try.func3, Try.ntmps3
      go_wp2_with fail
      refine HAw.out.mono ?_
      rintro e w1 ⟨rfl, hb1⟩
      have B1 := Lib.hid hb1
      clear hb1
      go_wp2_with fail
      refine (H1.out _ B1.out).mono ?_
      rintro e w2 ⟨rfl, hb2⟩
      have B2 := Lib.hid (B1.out.trans (hb2.mono B1.out.size))
      clear hb2
      go_wp2_with fail
      refine (H2.out _ B2.out).mono ?_
      rintro e w3 ⟨rfl, hb3⟩
      have B3 := Lib.hid (B2.out.trans (hb3.mono B2.out.size))
      clear hb3
      go_wp2_with fail
      refine (H3.out _ B3.out).mono ?_
      rintro e w4 ⟨rfl, hb4⟩
      have B4 := Lib.hid (B3.out.trans (hb4.mono B3.out.size))
      clear hb4
      go_wp2_with fail
      refine (H4.out _ B4.out).mono ?_
      rintro e w5 ⟨rfl, hb5⟩
      have B5 := Lib.hid (B4.out.trans (hb5.mono B4.out.size))
      clear hb5
      go_wp2_with fail
      go_ret
      exact ⟨by simp, B5.out⟩
end Go.Proofs.Ythghcppdfeeloaa
