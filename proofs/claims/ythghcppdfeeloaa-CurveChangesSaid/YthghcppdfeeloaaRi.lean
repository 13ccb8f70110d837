/- The contract of the specification's Inverse. -/
import Derived.Test.YthghcppdfeeloaaNg
namespace Go.Proofs.Ythghcppdfeeloaa
open Go.RowKit

set_option maxHeartbeats 4000000 in
set_option maxRecDepth 100000 in
theorem rinverse_some (b off cap : Nat) (ks : List (Int × Int)) (y : Int) (w : World) (hb : b < w.heap.size) (hkn : Knots w b off ks) (hc : checkL ks = 0) (hd : dirI ks = 0 ∨ dirI ks = 1) (hy : y ≤ ky ks (ks.length - 1)) :
    Calls Try.prog 19 #[.slice (some ⟨b, off, none⟩) ks.length cap, .int .i64 y] w fun e w' => e = .returned (.tuple #[.int .i64 (kx ks 0 + invR ks y), .int .i64 0]) ∧ Below w.heap.size w w' := by
  obtain ⟨h0, h32, hf, hr⟩ := check_zero ks hc
  have H1 := rcheck_any (some ⟨b, off, none⟩) ks.length cap ks w (.inr ⟨b, off, rfl, hb, rfl, by omega, hkn⟩)
  rw [hc] at H1
  have f0 := (fitb_at ks hf 0 h0).1
  have fl := (fitb_at ks hf (ks.length - 1) (by omega)).1
  have hle : kx ks 0 ≤ kx ks (ks.length - 1) := by
    rcases (by omega : ks.length - 1 = 0 ∨ 0 < ks.length - 1) with e | e
    · rw [e]; exact Int.le_refl _
    · exact Int.le_of_lt (rise_lt ks hr 0 (ks.length - 1) e (by omega))
  obtain ⟨N, hN⟩ : ∃ N, N = (kx ks (ks.length - 1) - kx ks 0).toNat := ⟨_, rfl⟩
  have HR := Lib.hid fun (r : Nat) (hrn : r ≤ N) (h1 : 0 < r → valI ks (kx ks 0 + ((r - 1 : Nat) : Int)) < y) (h2 : r < N → y ≤ valI ks (kx ks 0 + (r : Nat))) =>
    (show invR ks y = r from invR_eq ks y hc (dir_up ks hd) r (by omega) h1 (by rw [← hN]; exact h2))
  have HV := Lib.hid fun x w' (hw : Below w.heap.size w w') => reval_any b off cap ks x w' (Nat.lt_of_lt_of_le hb hw.size) (hkn.at hb hw) hc
  have HDr := Lib.hid fun w' (hw : Below w.heap.size w w') => rdirection_some b off cap ks w' (Nat.lt_of_lt_of_le hb hw.size) (hkn.at hb hw) hc
  obtain ⟨n, hn⟩ : ∃ n, n = ks.length := ⟨_, rfl⟩
  obtain ⟨X0, hX0⟩ : ∃ X0, X0 = kx ks 0 := ⟨_, rfl⟩
  obtain ⟨X1, hX1⟩ : ∃ X1, X1 = kx ks (ks.length - 1) := ⟨_, rfl⟩
  obtain ⟨Y1, hY1⟩ : ∃ Y1, Y1 = ky ks (ks.length - 1) := ⟨_, rfl⟩
  have HC := Lib.hid fun w' (hw : Below w.heap.size w w') => (show w'.cell? ⟨b, off, none⟩ = some (.int .i64 X0) by have := ((hkn.at hb hw) 0 h0).1; rw [← hX0] at this; simpa using this)
  have HD := Lib.hid fun w' (hw : Below w.heap.size w w') => (show w'.cell? ⟨b, off + (n - 1) * 2, none⟩ = some (.int .i64 X1) by have := ((hkn.at hb hw) (ks.length - 1) (by omega)).1; rw [← hX1] at this; rw [hn]; exact this)
  have HE := Lib.hid fun w' (hw : Below w.heap.size w w') => (show w'.cell? ⟨b, off + (n - 1) * 2 + 1, none⟩ = some (.int .i64 Y1) by have := ((hkn.at hb hw) (ks.length - 1) (by omega)).2; rw [← hY1] at this; rw [hn]; exact this)
  have t0 : decide (Y1 < y) = false := decide_eq_false (by omega)
  have m2 : IntKind.i64.wrap ((n : Int) - 1) = (n : Int) - 1 := IntWalk.i64_in _ ⟨by omega, by omega⟩
  have m3 : (1 : Int) ≤ n := by omega
  have m4 : (0 : Int) ≤ (n : Int) - 1 := by omega
  have m5 : (n : Int) - 1 < n := by omega
  have m6 : ((n : Int) - 1).toNat = n - 1 := by omega
  have m7 : (0 : Int) < n := by omega
  have HX := Lib.hid (show X1 = X0 + (N : Int) ∧ -1000000000000 ≤ X0 ∧ X1 ≤ 1000000000000 by omega)
  obtain ⟨d, hdd⟩ : ∃ d, d = dirI ks := ⟨_, rfl⟩
  have td : ((d != 0) && (d != 1)) = false := by rcases hd with h | h <;> rw [hdd, h] <;> rfl
  have td0 : d = 0 ∨ d = 1 := by rw [hdd]; exact hd
  rw [← hn] at H1 HV HDr ⊢
  rw [← hdd] at HDr
  rw [← hX0] at HR ⊢
  have HK := Lib.hid H1
  clear H1 hc hd hy h0 h32 hf hr f0 fl hle hN hn hX0 hX1 hY1 hkn hb hdd td
  go_enter Try.func19, Try.ntmps19
  go_wp2_with fail
  refine HK.out.mono ?_
  rintro e w1 ⟨rfl, hb1⟩
  have B1 := Lib.hid hb1
  clear hb1
  go_wp2_with fail
  refine (HDr.out _ B1.out).mono ?_
  rintro e w2 ⟨rfl, hb2⟩
  have B2 := Lib.hid (B1.out.trans (hb2.mono B1.out.size))
  clear hb2
  have c0 := HC.out _ B2.out
  have c1 := HD.out _ B2.out
  have c2 := HE.out _ B2.out
  rcases td0 with rfl | rfl
  all_goals
    go_wp2_with fail
    go_region
    clear c0 c1 c2
    go_wp2_with fail
    have B3 := Lib.hid (Below.drew B2.out)
    have X1e := HX.out.1
    go_loopw [9, 10] (fun l h wr => ∃ p q : Nat, l = .int .i64 (X0 + (p : Int)) ∧ h = .int .i64 (X0 + (q : Int)) ∧ p ≤ q ∧ q ≤ N ∧ (0 < p → valI ks (X0 + ((p - 1 : Nat) : Int)) < y) ∧ (q < N → y ≤ valI ks (X0 + (q : Nat))) ∧ Below w.heap.size w wr) (fun l h _ => (intOf h - intOf l).toNat)
    case atStart => exact ⟨0, N, by simp, by rw [X1e], by omega, Nat.le_refl _, fun h => absurd h (by omega), fun h => absurd h (by omega), B3.out⟩
    case round =>
      obtain ⟨p, q, rfl, rfl, hpq, hqN, hp, hq, hbel⟩ := hrel
      have HB := Lib.hid hbel
      have HP := Lib.hid hp
      have HQ := Lib.hid hq
      have HN := Lib.hid hqN
      have hX2 := HX.out
      obtain ⟨L, hL⟩ : ∃ L, L = X0 + (p : Int) := ⟨_, rfl⟩
      obtain ⟨U, hU⟩ : ∃ U, U = X0 + (q : Int) := ⟨_, rfl⟩
      have HL := Lib.hid hL
      have HU := Lib.hid hU
      by_cases hlt : p < q
      · obtain ⟨m, hm⟩ : ∃ m, m = p + (q - p) / 2 := ⟨_, rfl⟩
        obtain ⟨D, hD⟩ : ∃ D : Int, D = ((q - p : Nat) : Int) := ⟨_, rfl⟩
        obtain ⟨Q, hQ⟩ : ∃ Q : Int, Q = (((q - p) / 2 : Nat) : Int) := ⟨_, rfl⟩
        obtain ⟨M, hM⟩ : ∃ M : Int, M = X0 + (m : Int) := ⟨_, rfl⟩
        have e0 : decide (L < U) = true := decide_eq_true (by omega)
        have e1 : IntKind.i64.wrap (U - L) = D := by rw [show U - L = D by omega]; exact IntWalk.i64_in _ ⟨by omega, by omega⟩
        have e2 : IntKind.i64.wrap (D.tdiv 2) = Q := by rw [show D.tdiv 2 = Q by rw [hD, hQ]; rfl]; exact IntWalk.i64_in _ ⟨by omega, by omega⟩
        have e3 : IntKind.i64.wrap (L + Q) = M := by rw [show L + Q = M by omega]; exact IntWalk.i64_in _ ⟨by omega, by omega⟩
        have HVv := Lib.hid (HV.out M wr hbel)
        have HMm := Lib.hid hm
        have HMM := Lib.hid hM
        obtain ⟨V, hV⟩ : ∃ V, V = valI ks M := ⟨_, rfl⟩
        rw [← hV] at HVv
        have HVV := Lib.hid hV
        rw [← hL, ← hU]
        have Hlt := Lib.hid hlt
        by_cases hge : y ≤ V
        · have e4 : decide (y ≤ V) = true := decide_eq_true hge
          have HGe := Lib.hid hge
          clear hbel hp hq hqN hpq hL hU hlt hm hD hQ hM hV hge hX2 X1e
          go_wp2_with fail
          refine HVv.out.mono ?_
          rintro e w4 ⟨rfl, hb4⟩
          have B4 := Lib.hid (HB.out.trans (hb4.mono HB.out.size))
          clear hb4
          go_wp2_with fail
          go_roundw
          case rel =>
            have h1 := HL.out; have h2 := HMm.out; have h3 := Hlt.out; have h4 := HN.out
            exact ⟨p, m, by rw [← h1], by rw [← HMM.out], by omega, by omega, HP.out, fun _ => by rw [← HMM.out, ← HVV.out]; exact HGe.out, B4.out⟩
          case measure => have h1 := HL.out; have h5 := HU.out; have h2 := HMm.out; have h3 := Hlt.out; have h6 := HMM.out; simp [intOf]; omega
        · have e4 : decide (y ≤ V) = false := decide_eq_false hge
          have HGe := Lib.hid (show V < y by omega)
          have e5 : IntKind.i64.wrap (M + 1) = M + 1 := IntWalk.i64_in _ ⟨by omega, by omega⟩
          clear hbel hp hq hqN hpq hL hU hlt hm hD hQ hM hV hge hX2 X1e
          go_wp2_with fail
          refine HVv.out.mono ?_
          rintro e w4 ⟨rfl, hb4⟩
          have B4 := Lib.hid (HB.out.trans (hb4.mono HB.out.size))
          clear hb4
          go_wp2_with fail
          go_roundw
          case rel =>
            have h1 := HU.out; have h2 := HMm.out; have h3 := Hlt.out; have h4 := HN.out; have h6 := HMM.out
            exact ⟨m + 1, q, by rw [h6]; congr 1; omega, by rw [← h1], by omega, by omega, fun _ => by rw [show m + 1 - 1 = m by omega, ← h6, ← HVV.out]; exact HGe.out, HQ.out, B4.out⟩
          case measure => have h1 := HL.out; have h5 := HU.out; have h2 := HMm.out; have h3 := Hlt.out; have h6 := HMM.out; simp [intOf]; omega
      · obtain rfl : p = q := by omega
        have hi := Lib.hid (HR.out p hqN hp hq)
        have e0 : decide (L < U) = false := decide_eq_false (by omega)
        rw [← hL]
        have hUL : U = L := by rw [hU, hL]
        rw [hUL] at e0
        clear hbel hp hq hqN hpq hL hU hlt hX2 X1e hUL
        go_wp2_with fail
        go_ret2
        exact ⟨by rw [hi.out, ← HL.out]; rfl, HB.out⟩
end Go.Proofs.Ythghcppdfeeloaa
