/- The law CurveLeast. -/
import Derived.Test.YtbpdghcbjdmgfaaCe
namespace Go.Proofs.Ytbpdghcbjdmgfaa
open Go.RowKit

set_option maxHeartbeats 2000000 in
set_option maxRecDepth 100000 in
theorem least_law (a : Option Addr) (n cap : Nat) (y : Int) (ks : List (Int × Int)) (w : World) (h : IsKnots w a n ks) (_ : -9223372036854775808 ≤ y ∧ y ≤ 9223372036854775807) :
    Calls Try.prog 8 #[.slice a n cap, .int .i64 y] w fun e w' => e = .returned (.bool true) ∧ Below w.heap.size w w' := by
  have HAw := Lib.hid (awake_yes w)
  have H1 := Lib.hid fun w' (hb : Below w.heap.size w w') => inverse_any a n cap ks y w' (h.at hb)
  by_cases hyes : checkL ks = 0 ∧ (dirI ks = 0 ∨ dirI ks = 1) ∧ y ≤ ky ks (ks.length - 1)
  · obtain ⟨hc, hd, hy⟩ := hyes
    have hI : invI ks y = (kx ks 0 + invR ks y, 0) := by
      unfold invI; rw [if_neg (by omega), if_neg (by omega), if_neg (by omega)]
    obtain ⟨h0, h32, hf, hr⟩ := check_zero ks hc
    obtain ⟨b1, b2, b3⟩ := invR_facts ks y hc (dir_up ks hd)
    obtain ⟨b, off, rfl, hb, hn, hkn⟩ := h.some h0
    have f0 := (fitb_at ks hf 0 h0).1
    have fl := (fitb_at ks hf (ks.length - 1) (by omega)).1
    have hle : kx ks 0 ≤ kx ks (ks.length - 1) := by
      rcases (by omega : ks.length - 1 = 0 ∨ 0 < ks.length - 1) with e | e
      · rw [e]; exact Int.le_refl _
      · exact Int.le_of_lt (rise_lt ks hr 0 (ks.length - 1) e (by omega))
    obtain ⟨X0, hX0⟩ : ∃ X0, X0 = kx ks 0 := ⟨_, rfl⟩
    obtain ⟨X1, hX1⟩ : ∃ X1, X1 = kx ks (ks.length - 1) := ⟨_, rfl⟩
    obtain ⟨X, hX⟩ : ∃ X, X = kx ks 0 + invR ks y := ⟨_, rfl⟩
    obtain ⟨V, hV⟩ : ∃ V, V = valI ks X := ⟨_, rfl⟩
    obtain ⟨U, hU⟩ : ∃ U, U = valI ks (X - 1) := ⟨_, rfl⟩
    have t1 : decide (X0 ≤ X) = true := decide_eq_true (by omega)
    have t2 : decide (X ≤ X1) = true := decide_eq_true (by omega)
    have t3 : decide (y ≤ V) = true := by
      refine decide_eq_true ?_
      rw [hV, hX]
      by_cases hlt : invR ks y < (kx ks (ks.length - 1) - kx ks 0).toNat
      · exact of_decide_eq_true (b3 _ (Nat.le_refl _) hlt)
      · rw [val_last ks _ hc (by omega)]; exact hy
    have t4 : X ≠ X0 → U < y := fun hne => by
      have hp : 0 < invR ks y := by omega
      have := of_decide_eq_false (b2 (invR ks y - 1) (by omega))
      rw [hU, hX]
      rw [show kx ks 0 + (invR ks y : Int) - 1 = kx ks 0 + ((invR ks y - 1 : Nat) : Int) by omega]
      omega
    have m1 : IntKind.i64.wrap (X - 1) = X - 1 := IntWalk.i64_in _ ⟨by omega, by omega⟩
    have m2 : IntKind.i64.wrap ((n : Int) - 1) = (n : Int) - 1 := IntWalk.i64_in _ ⟨by omega, by omega⟩
    have m3 : (1 : Int) ≤ n := by omega
    have m4 : (0 : Int) ≤ (n : Int) - 1 := by omega
    have m5 : (n : Int) - 1 < n := by omega
    have m6 : ((n : Int) - 1).toNat = n - 1 := by omega
    have m7 : (0 : Int) < n := by omega
    rw [hI, ← hX] at H1
    have H2 := Lib.hid fun w' (hw : Below w.heap.size w w') => eval_any (some ⟨b, off, none⟩) n cap ks X w' (h.at hw)
    have H3 := Lib.hid fun w' (hw : Below w.heap.size w w') => eval_any (some ⟨b, off, none⟩) n cap ks (X - 1) w' (h.at hw)
    rw [if_pos hc, hc, ← hV] at H2
    rw [if_pos hc, hc, ← hU] at H3
    have HC := Lib.hid fun w' (hw : Below w.heap.size w w') => (show w'.cell? ⟨b, off, none⟩ = some (.int .i64 X0) by have := ((hkn.at hb hw) 0 h0).1; rw [← hX0] at this; simpa using this)
    have HD := Lib.hid fun w' (hw : Below w.heap.size w w') => (show w'.cell? ⟨b, off + (n - 1) * 2, none⟩ = some (.int .i64 X1) by have := ((hkn.at hb hw) (ks.length - 1) (by omega)).1; rw [← hX1] at this; rw [hn]; exact this)
    have T4 := Lib.hid t4
    clear h hd hy hI h0 h32 hf hr b1 b2 b3 hn hkn f0 fl hle hX0 hX1 hX hV hU hc t4
    go_enter Try.func8, Try.ntmps8
    go_wp2_with fail
    refine HAw.out.mono ?_
    rintro e w1 ⟨rfl, hb1⟩
    have B1 := Lib.hid hb1
    clear hb1
    go_wp2_with fail
    refine (H1.out _ B1.out).mono ?_
    rintro e w2 ⟨rfl, hb2⟩
    have B2 := Lib.hid (B1.out.trans (hb2.mono B1.out.size))
    clear hb2
    go_wp2_with fail
    refine (H2.out _ B2.out).mono ?_
    rintro e w3 ⟨rfl, hb3⟩
    have B3 := Lib.hid (B2.out.trans (hb3.mono B2.out.size))
    clear hb3
    go_wp2_with fail
    refine (H3.out _ B3.out).mono ?_
    rintro e w4 ⟨rfl, hb4⟩
    have B4 := Lib.hid (B3.out.trans (hb4.mono B3.out.size))
    clear hb4
    have c0 := HC.out _ B4.out
    have c1 := HD.out _ B4.out
    by_cases hXe : X = X0
    · have t5 : (X == X0) = true := by rw [beq_iff_eq]; exact hXe
      clear hXe
      go_wp2_with fail
      go_ret
      exact ⟨rfl, B4.out⟩
    · have t5 : (X == X0) = false := by rw [beq_eq_false_iff_ne]; exact hXe
      have t6 : decide (U < y) = true := decide_eq_true (T4.out hXe)
      clear hXe
      go_wp2_with fail
      go_ret
      exact ⟨rfl, B4.out⟩
  · obtain ⟨E, hE, he⟩ : ∃ E, invI ks y = (0, E) ∧ E ≠ 0 := by
      unfold invI
      by_cases h1 : checkL ks ≠ 0
      · exact ⟨_, if_pos h1, h1⟩
      · by_cases h2 : dirI ks ≠ 0 ∧ dirI ks ≠ 1
        · exact ⟨8, by rw [if_neg h1, if_pos h2], by decide⟩
        · exact ⟨9, by rw [if_neg h1, if_neg h2, if_pos (by omega)], by decide⟩
    rw [hE] at H1
    have t2 : (E != 0) = true := by rw [bne_iff_ne]; exact he
    clear h hyes hE he
    go_enter Try.func8, Try.ntmps8
    go_wp2_with fail
    refine HAw.out.mono ?_
    rintro e w1 ⟨rfl, hb1⟩
    have B1 := Lib.hid hb1
    clear hb1
    go_wp2_with fail
    refine (H1.out _ B1.out).mono ?_
    rintro e w2 ⟨rfl, hb2⟩
    have B2 := Lib.hid (B1.out.trans (hb2.mono B1.out.size))
    clear hb2
    go_wp2_with fail
    go_ret
    exact ⟨rfl, B2.out⟩
end Go.Proofs.Ytbpdghcbjdmgfaa
