/- The law CurveBetween. -/
import Derived.Test.YthghcppdfeeloaaCi
import Derived.Test.YthghcppdfeeloaaBt
import Derived.BigRegion
namespace Go.Proofs.Ythghcppdfeeloaa
open Go.RowKit

theorem below_drewN' {B : Nat} {w0 w : World} {n : Nat} (h : Below B w0 w) : Below B w0 (w.drewN n) := h.trans (below_drewN _ _ _)
/-- the numbers of a curve as the law sees them -/
structure BtF (ks : List (Int × Int)) (x V : Int) : Prop where
  at' : ∀ k, k < ks.length → (kx ks k == x) = true → (V != ky ks k) = false
  mid : ∀ p, p + 1 < ks.length → kx ks p ≤ x → x ≤ kx ks (p + 1) → min (ky ks p) (ky ks (p + 1)) ≤ V ∧ V ≤ max (ky ks p) (ky ks (p + 1))
  first : x ≤ kx ks 0 → (V != ky ks 0) = false
  last : kx ks (ks.length - 1) ≤ x → (V != ky ks (ks.length - 1)) = false
theorem bt_facts (ks : List (Int × Int)) (x : Int) (he : checkL ks = 0) : BtF ks x (valI ks x) := by
  have hne : ∀ a b : Int, a = b → (a != b) = false := fun a b h => by subst h; simp
  refine ⟨fun k hk h => hne _ _ ?_, fun p hp h1 h2 => val_between ks x p he hp h1 h2, fun h => hne _ _ (val_first ks x he h), fun h => hne _ _ (val_last ks x he h)⟩
  have : kx ks k = x := by simpa using h
  rw [← this]; exact val_knot ks k he hk

set_option maxHeartbeats 4000000 in
set_option maxRecDepth 100000 in
theorem between_law (a : Option Addr) (n cap : Nat) (x lo hi : Int) (ks : List (Int × Int)) (w : World) (h : IsKnots w a n ks) (_ : -9223372036854775808 ≤ x ∧ x ≤ 9223372036854775807) (_ : -9223372036854775808 ≤ lo ∧ lo ≤ 9223372036854775807) (_ : -9223372036854775808 ≤ hi ∧ hi ≤ 9223372036854775807) :
    Calls Try.prog 6 #[.slice a n cap, .int .i64 x, .int .i64 lo, .int .i64 hi] w fun e w' => e = .returned (.bool true) ∧ Below w.heap.size w w' := by
  have HAw := Lib.hid (awake_yes w)
  have H1 := Lib.hid fun w' (hb : Below w.heap.size w w') => eval_any a n cap ks x w' (h.at hb)
  by_cases hc : checkL ks = 0
  · obtain ⟨h0, h32, hf, hr⟩ := check_zero ks hc
    obtain ⟨b, off, rfl, hb, hn, hkn⟩ := h.some h0
    have HE := Lib.hid fun k (hk : k < ks.length) w' (hb : Below w.heap.size w w') => (by
      have := eval_any (some ⟨b, off, none⟩) n cap ks (kx ks k) w' (h.at hb)
      rw [if_pos hc, hc, val_knot ks k hc hk] at this; exact this)
    have HB := Lib.hid fun w' (hb : Below w.heap.size w w') => bounds_any (some ⟨b, off, none⟩) n cap ks lo hi w' (h.at hb)
    have HF := Lib.hid (bt_facts ks x hc)
    have HV := Lib.hid fun (h1 : lo ≤ x) (h2 : x ≤ hi) => val_bounds ks lo hi x hc h1 h2
    rw [if_pos hc, hc] at H1
    obtain ⟨V, hV⟩ : ∃ V, V = valI ks x := ⟨_, rfl⟩
    rw [← hV] at H1 HF HV
    have HC := Lib.hid hkn
    have hbw : b < w.heap.size := hb
    have HA := Lib.hid (show boundsA ks lo hi = if hi < lo then (0, 0, 1) else ((boundsI ks lo hi).1, (boundsI ks lo hi).2, 0) by
      unfold boundsA boundsE
      by_cases hlh : hi < lo
      · rw [if_pos (.inr hlh), if_pos hlh, if_neg (by omega)]
      · rw [if_neg (by omega), if_neg hlh])
    obtain ⟨J1, hJ1⟩ : ∃ t, t = (boundsA ks lo hi).1 := ⟨_, rfl⟩
    obtain ⟨J2, hJ2⟩ : ∃ t, t = (boundsA ks lo hi).2.1 := ⟨_, rfl⟩
    obtain ⟨J3, hJ3⟩ : ∃ t, t = (boundsA ks lo hi).2.2 := ⟨_, rfl⟩
    rw [← hJ1, ← hJ2, ← hJ3] at HB
    have HJ := Lib.hid (show if hi < lo then (J3 != 0) = true else (J3 != 0) = false ∧ J1 = (boundsI ks lo hi).1 ∧ J2 = (boundsI ks lo hi).2 by
      rw [HA.out] at hJ1 hJ2 hJ3
      by_cases hlh : hi < lo
      · rw [if_pos hlh] at hJ3 ⊢
        rw [hJ3]; rfl
      · rw [if_neg hlh] at hJ1 hJ2 hJ3 ⊢
        rw [hJ3]; exact ⟨rfl, hJ1, hJ2⟩)
    obtain ⟨X0, hX0⟩ : ∃ t, t = kx ks 0 := ⟨_, rfl⟩
    obtain ⟨Y0, hY0⟩ : ∃ t, t = ky ks 0 := ⟨_, rfl⟩
    obtain ⟨XL, hXL⟩ : ∃ t, t = kx ks (ks.length - 1) := ⟨_, rfl⟩
    obtain ⟨YL, hYL⟩ : ∃ t, t = ky ks (ks.length - 1) := ⟨_, rfl⟩
    have F0 := Lib.hid (show x ≤ X0 → (V != Y0) = false by rw [hX0, hY0]; exact HF.out.first)
    have FL := Lib.hid (show XL ≤ x → (V != YL) = false by rw [hXL, hYL]; exact HF.out.last)
    have H4 := Lib.hid fun w' (hw : Below w.heap.size w w') => (show w'.cell? ⟨b, off, none⟩ = some (.int .i64 X0) ∧ w'.cell? ⟨b, off + 1, none⟩ = some (.int .i64 Y0) ∧ w'.cell? ⟨b, off + (n - 1) * 2, none⟩ = some (.int .i64 XL) ∧ w'.cell? ⟨b, off + (n - 1) * 2 + 1, none⟩ = some (.int .i64 YL) by
      obtain ⟨u1, u2⟩ := (hkn.at hb hw) 0 h0
      obtain ⟨u3, u4⟩ := (hkn.at hb hw) (ks.length - 1) (by omega)
      rw [← hX0] at u1
      rw [← hY0] at u2
      rw [← hXL] at u3
      rw [← hYL] at u4
      rw [hn]
      exact ⟨by simpa using u1, by simpa using u2, u3, u4⟩)
    have HN := Lib.hid hn
    rw [← hn] at h0 h32
    clear hX0 hY0 hXL hYL
    clear h hV hJ1 hJ2 hJ3 HA hn hkn hb hf hr hc
    go_enter Try.func6, Try.ntmps6
    go_wp2_with fail
    refine HAw.out.mono ?_
    rintro e w1 ⟨rfl, hb1⟩
    have B1 := Lib.hid hb1
    clear hb1
    go_wp2_with fail
    refine (H1.out _ B1.out).mono ?_
    rintro e w2 ⟨rfl, hb2⟩
    have B2 := Lib.hid (B1.out.trans (hb2.mono B1.out.size))
    clear hb2
    go_wp2_with fail
    go_loopw [11] (fun i wr => ∃ k : Nat, k ≤ n ∧ i = .int .i64 k ∧ Below w.heap.size w wr) (fun i _ => n - (intOf i).toNat)
    case atStart => exact ⟨0, by omega, rfl, B2.out⟩
    case round =>
      obtain ⟨k, hk, rfl, hbel⟩ := hrel
      have BR := Lib.hid hbel
      by_cases hlt : k < n
      · have hcell := fun w' (hw : Below w.heap.size w w') => HC.out.at hbw hw k (by rw [← HN.out]; exact hlt)
        have HE2 := Lib.hid fun w' (hw : Below w.heap.size w w') => HE.out k (by rw [← HN.out]; exact hlt) w' hw
        have hat := HF.out.at' k (by rw [← HN.out]; exact hlt)
        have HM := Lib.hid fun p (hp : k = p + 1) => (by have := HF.out.mid p (by rw [← HN.out]; omega); rw [← hp] at this; exact this)
        obtain ⟨X, hX⟩ : ∃ t, t = kx ks k := ⟨_, rfl⟩
        obtain ⟨Y, hY⟩ : ∃ t, t = ky ks k := ⟨_, rfl⟩
        rw [← hX, ← hY] at hcell HE2
        rw [← hX, ← hY] at hat
        rw [← hX, ← hY] at HM
        have HCell := Lib.hid hcell
        obtain ⟨c0, c1⟩ := HCell.out wr BR.out
        have hlt' : (k : Int) < n := by omega
        have HAt := Lib.hid hat
        clear hcell hX hY hbel hat
        by_cases tx : (X == x) = true
        · have ty := HAt.out tx
          go_wp2_with fail
          refine (HE2.out _ BR.out).mono ?_
          rintro e w3 ⟨rfl, hb3⟩
          have B3 := Lib.hid (BR.out.trans (hb3.mono BR.out.size))
          clear hb3
          obtain ⟨d0, d1⟩ := HCell.out w3 B3.out
          clear c0 c1
          rcases Nat.eq_zero_or_pos k with hk0 | hk0
          · have tk : decide ((0 : Int) < (k : Int)) = false := decide_eq_false (by omega)
            have tk2 : decide (0 < k) = false := decide_eq_false (by omega)
            have HKk := Lib.hid hk0
            clear hk0
            go_wp2_with fail
            go_quiet (fail)
            go_wp2_with fail
            go_roundw
            case rel => exact ⟨k + 1, by omega, by go_num, below_drewN' B3.out⟩
            case measure => simp [intOf]; omega
          · have tk : decide ((0 : Int) < (k : Int)) = true := decide_eq_true (by omega)
            have tk2 : decide (0 < k) = true := decide_eq_true hk0
            obtain ⟨p, hp⟩ : ∃ p, k = p + 1 := ⟨k - 1, by omega⟩
            have hm := HM.out p hp
            obtain ⟨a0, a1⟩ := HC.out.at hbw B3.out p (by rw [← HN.out]; omega)
            obtain ⟨Xp, hXp⟩ : ∃ t, t = kx ks p := ⟨_, rfl⟩
            obtain ⟨Yp, hYp⟩ : ∃ t, t = ky ks p := ⟨_, rfl⟩
            rw [← hXp, ← hYp] at hm
            rw [← hXp] at a0
            rw [← hYp] at a1
            have f1 : IntKind.i64.wrap ((k : Int) - 1) = (p : Int) := by
              have := wrap_small ((k : Int) - 1) (by omega) (by omega)
              omega
            have p1 : (p : Int) < n := by omega
            have p2 : (0 : Int) ≤ (p : Int) := by omega
            have HMm := Lib.hid hm
            clear hm hXp hYp
            have HKk := Lib.hid hk0
            have HPp := Lib.hid hp
            clear hk0 hp
            by_cases u1 : Xp ≤ x
            · have t1 : decide (Xp ≤ x) = true := decide_eq_true u1
              by_cases u2 : x ≤ X
              · have t2 : decide (x ≤ X) = true := decide_eq_true u2
                obtain ⟨m1, m2⟩ := HMm.out u1 u2
                obtain ⟨M1, hM1⟩ : ∃ t, min Yp Y = t := ⟨_, rfl⟩
                obtain ⟨M2, hM2⟩ : ∃ t, max Yp Y = t := ⟨_, rfl⟩
                rw [hM1] at m1
                rw [hM2] at m2
                have t3 : decide (V < M1) = false := decide_eq_false (by omega)
                have t4 : decide (M2 < V) = false := decide_eq_false (by omega)
                clear m1 m2 u1 u2
                go_wp2_with fail
                go_quiet (fail)
                go_wp2_with fail
                go_roundw
                case rel => exact ⟨k + 1, by omega, by go_num, below_drewN' B3.out⟩
                case measure => simp [intOf]; omega
              · have t2 : decide (x ≤ X) = false := decide_eq_false u2
                go_wp2_with fail
                go_quiet (fail)
                go_wp2_with fail
                go_roundw
                case rel => exact ⟨k + 1, by omega, by go_num, below_drewN' B3.out⟩
                case measure => simp [intOf]; omega
            · have t1 : decide (Xp ≤ x) = false := decide_eq_false u1
              go_wp2_with fail
              go_quiet (fail)
              go_wp2_with fail
              go_roundw
              case rel => exact ⟨k + 1, by omega, by go_num, below_drewN' B3.out⟩
              case measure => simp [intOf]; omega
        · have tx : (X == x) = false := by simpa using tx
          go_wp2_with fail
          refine (HE2.out _ BR.out).mono ?_
          rintro e w3 ⟨rfl, hb3⟩
          have B3 := Lib.hid (BR.out.trans (hb3.mono BR.out.size))
          clear hb3
          obtain ⟨d0, d1⟩ := HCell.out w3 B3.out
          clear c0 c1
          rcases Nat.eq_zero_or_pos k with hk0 | hk0
          · have tk : decide ((0 : Int) < (k : Int)) = false := decide_eq_false (by omega)
            have tk2 : decide (0 < k) = false := decide_eq_false (by omega)
            have HKk := Lib.hid hk0
            clear hk0
            go_wp2_with fail
            go_quiet (fail)
            go_wp2_with fail
            go_roundw
            case rel => exact ⟨k + 1, by omega, by go_num, below_drewN' B3.out⟩
            case measure => simp [intOf]; omega
          · have tk : decide ((0 : Int) < (k : Int)) = true := decide_eq_true (by omega)
            have tk2 : decide (0 < k) = true := decide_eq_true hk0
            obtain ⟨p, hp⟩ : ∃ p, k = p + 1 := ⟨k - 1, by omega⟩
            have hm := HM.out p hp
            obtain ⟨a0, a1⟩ := HC.out.at hbw B3.out p (by rw [← HN.out]; omega)
            obtain ⟨Xp, hXp⟩ : ∃ t, t = kx ks p := ⟨_, rfl⟩
            obtain ⟨Yp, hYp⟩ : ∃ t, t = ky ks p := ⟨_, rfl⟩
            rw [← hXp, ← hYp] at hm
            rw [← hXp] at a0
            rw [← hYp] at a1
            have f1 : IntKind.i64.wrap ((k : Int) - 1) = (p : Int) := by
              have := wrap_small ((k : Int) - 1) (by omega) (by omega)
              omega
            have p1 : (p : Int) < n := by omega
            have p2 : (0 : Int) ≤ (p : Int) := by omega
            have HMm := Lib.hid hm
            clear hm hXp hYp
            have HKk := Lib.hid hk0
            have HPp := Lib.hid hp
            clear hk0 hp
            by_cases u1 : Xp ≤ x
            · have t1 : decide (Xp ≤ x) = true := decide_eq_true u1
              by_cases u2 : x ≤ X
              · have t2 : decide (x ≤ X) = true := decide_eq_true u2
                obtain ⟨m1, m2⟩ := HMm.out u1 u2
                obtain ⟨M1, hM1⟩ : ∃ t, min Yp Y = t := ⟨_, rfl⟩
                obtain ⟨M2, hM2⟩ : ∃ t, max Yp Y = t := ⟨_, rfl⟩
                rw [hM1] at m1
                rw [hM2] at m2
                have t3 : decide (V < M1) = false := decide_eq_false (by omega)
                have t4 : decide (M2 < V) = false := decide_eq_false (by omega)
                clear m1 m2 u1 u2
                go_wp2_with fail
                go_quiet (fail)
                go_wp2_with fail
                go_roundw
                case rel => exact ⟨k + 1, by omega, by go_num, below_drewN' B3.out⟩
                case measure => simp [intOf]; omega
              · have t2 : decide (x ≤ X) = false := decide_eq_false u2
                go_wp2_with fail
                go_quiet (fail)
                go_wp2_with fail
                go_roundw
                case rel => exact ⟨k + 1, by omega, by go_num, below_drewN' B3.out⟩
                case measure => simp [intOf]; omega
            · have t1 : decide (Xp ≤ x) = false := decide_eq_false u1
              go_wp2_with fail
              go_quiet (fail)
              go_wp2_with fail
              go_roundw
              case rel => exact ⟨k + 1, by omega, by go_num, below_drewN' B3.out⟩
              case measure => simp [intOf]; omega
      · obtain rfl : k = n := by omega
        have m2 : IntKind.i64.wrap ((k : Int) - 1) = (k : Int) - 1 := IntWalk.i64_in _ ⟨by omega, by omega⟩
        have m3 : (1 : Int) ≤ k := by omega
        have m4 : (0 : Int) ≤ (k : Int) - 1 := by omega
        have m5 : (k : Int) - 1 < k := by omega
        have m6 : ((k : Int) - 1).toNat = k - 1 := by omega
        have m7 : (0 : Int) < k := by omega
        obtain ⟨c0, d0, c1, d1⟩ := H4.out wr BR.out
        clear hbel
        by_cases q1 : x ≤ X0
        · have t1 : decide (x ≤ X0) = true := decide_eq_true q1
          have v1 := F0.out q1
          clear q1
          by_cases q2 : XL ≤ x
          · have t2 : decide (XL ≤ x) = true := decide_eq_true q2
            have v2 := FL.out q2
            clear q2
            go_wp2_with fail
            refine (HB.out _ BR.out).mono ?_
            rintro e w3 ⟨rfl, hb3⟩
            have B3 := Lib.hid (BR.out.trans (hb3.mono BR.out.size))
            have BA := Lib.hid (B3.out.alloc B3.out.size (.cells #[.int .i64 J1, .int .i64 J2] 34))
            clear hb3
            by_cases q3 : hi < lo
            · have t3 : (J3 != 0) = true := by have := HJ.out; rw [if_pos q3] at this; exact this
              clear q3
              go_wp2_with fail
              go_ret
              exact ⟨rfl, BA.out⟩
            · obtain ⟨t3, j1, j2⟩ : (J3 != 0) = false ∧ J1 = (boundsI ks lo hi).1 ∧ J2 = (boundsI ks lo hi).2 := by have := HJ.out; rw [if_neg q3] at this; exact this
              have HV2 := Lib.hid (show lo ≤ x → x ≤ hi → J1 ≤ V ∧ V ≤ J2 by rw [j1, j2]; exact HV.out)
              clear q3 j1 j2
              by_cases q4 : x < lo
              · have t4 : decide (x < lo) = true := decide_eq_true q4
                clear q4
                go_wp2_with fail
                go_ret
                exact ⟨rfl, BA.out⟩
              · have t4 : decide (x < lo) = false := decide_eq_false q4
                by_cases q5 : hi < x
                · have t5 : decide (hi < x) = true := decide_eq_true q5
                  clear q4 q5
                  go_wp2_with fail
                  go_ret
                  exact ⟨rfl, BA.out⟩
                · have t5 : decide (hi < x) = false := decide_eq_false q5
                  obtain ⟨r1, r2⟩ := HV2.out (by omega) (by omega)
                  have t6 : decide (J1 ≤ V) = true := decide_eq_true r1
                  have t7 : decide (V ≤ J2) = true := decide_eq_true r2
                  clear q4 q5 r1 r2
                  go_wp2_with fail
                  go_ret
                  exact ⟨rfl, BA.out⟩
          · have t2 : decide (XL ≤ x) = false := decide_eq_false q2
            clear q2
            go_wp2_with fail
            refine (HB.out _ BR.out).mono ?_
            rintro e w3 ⟨rfl, hb3⟩
            have B3 := Lib.hid (BR.out.trans (hb3.mono BR.out.size))
            have BA := Lib.hid (B3.out.alloc B3.out.size (.cells #[.int .i64 J1, .int .i64 J2] 34))
            clear hb3
            by_cases q3 : hi < lo
            · have t3 : (J3 != 0) = true := by have := HJ.out; rw [if_pos q3] at this; exact this
              clear q3
              go_wp2_with fail
              go_ret
              exact ⟨rfl, BA.out⟩
            · obtain ⟨t3, j1, j2⟩ : (J3 != 0) = false ∧ J1 = (boundsI ks lo hi).1 ∧ J2 = (boundsI ks lo hi).2 := by have := HJ.out; rw [if_neg q3] at this; exact this
              have HV2 := Lib.hid (show lo ≤ x → x ≤ hi → J1 ≤ V ∧ V ≤ J2 by rw [j1, j2]; exact HV.out)
              clear q3 j1 j2
              by_cases q4 : x < lo
              · have t4 : decide (x < lo) = true := decide_eq_true q4
                clear q4
                go_wp2_with fail
                go_ret
                exact ⟨rfl, BA.out⟩
              · have t4 : decide (x < lo) = false := decide_eq_false q4
                by_cases q5 : hi < x
                · have t5 : decide (hi < x) = true := decide_eq_true q5
                  clear q4 q5
                  go_wp2_with fail
                  go_ret
                  exact ⟨rfl, BA.out⟩
                · have t5 : decide (hi < x) = false := decide_eq_false q5
                  obtain ⟨r1, r2⟩ := HV2.out (by omega) (by omega)
                  have t6 : decide (J1 ≤ V) = true := decide_eq_true r1
                  have t7 : decide (V ≤ J2) = true := decide_eq_true r2
                  clear q4 q5 r1 r2
                  go_wp2_with fail
                  go_ret
                  exact ⟨rfl, BA.out⟩
        · have t1 : decide (x ≤ X0) = false := decide_eq_false q1
          clear q1
          by_cases q2 : XL ≤ x
          · have t2 : decide (XL ≤ x) = true := decide_eq_true q2
            have v2 := FL.out q2
            clear q2
            go_wp2_with fail
            refine (HB.out _ BR.out).mono ?_
            rintro e w3 ⟨rfl, hb3⟩
            have B3 := Lib.hid (BR.out.trans (hb3.mono BR.out.size))
            have BA := Lib.hid (B3.out.alloc B3.out.size (.cells #[.int .i64 J1, .int .i64 J2] 34))
            clear hb3
            by_cases q3 : hi < lo
            · have t3 : (J3 != 0) = true := by have := HJ.out; rw [if_pos q3] at this; exact this
              clear q3
              go_wp2_with fail
              go_ret
              exact ⟨rfl, BA.out⟩
            · obtain ⟨t3, j1, j2⟩ : (J3 != 0) = false ∧ J1 = (boundsI ks lo hi).1 ∧ J2 = (boundsI ks lo hi).2 := by have := HJ.out; rw [if_neg q3] at this; exact this
              have HV2 := Lib.hid (show lo ≤ x → x ≤ hi → J1 ≤ V ∧ V ≤ J2 by rw [j1, j2]; exact HV.out)
              clear q3 j1 j2
              by_cases q4 : x < lo
              · have t4 : decide (x < lo) = true := decide_eq_true q4
                clear q4
                go_wp2_with fail
                go_ret
                exact ⟨rfl, BA.out⟩
              · have t4 : decide (x < lo) = false := decide_eq_false q4
                by_cases q5 : hi < x
                · have t5 : decide (hi < x) = true := decide_eq_true q5
                  clear q4 q5
                  go_wp2_with fail
                  go_ret
                  exact ⟨rfl, BA.out⟩
                · have t5 : decide (hi < x) = false := decide_eq_false q5
                  obtain ⟨r1, r2⟩ := HV2.out (by omega) (by omega)
                  have t6 : decide (J1 ≤ V) = true := decide_eq_true r1
                  have t7 : decide (V ≤ J2) = true := decide_eq_true r2
                  clear q4 q5 r1 r2
                  go_wp2_with fail
                  go_ret
                  exact ⟨rfl, BA.out⟩
          · have t2 : decide (XL ≤ x) = false := decide_eq_false q2
            clear q2
            go_wp2_with fail
            refine (HB.out _ BR.out).mono ?_
            rintro e w3 ⟨rfl, hb3⟩
            have B3 := Lib.hid (BR.out.trans (hb3.mono BR.out.size))
            have BA := Lib.hid (B3.out.alloc B3.out.size (.cells #[.int .i64 J1, .int .i64 J2] 34))
            clear hb3
            by_cases q3 : hi < lo
            · have t3 : (J3 != 0) = true := by have := HJ.out; rw [if_pos q3] at this; exact this
              clear q3
              go_wp2_with fail
              go_ret
              exact ⟨rfl, BA.out⟩
            · obtain ⟨t3, j1, j2⟩ : (J3 != 0) = false ∧ J1 = (boundsI ks lo hi).1 ∧ J2 = (boundsI ks lo hi).2 := by have := HJ.out; rw [if_neg q3] at this; exact this
              have HV2 := Lib.hid (show lo ≤ x → x ≤ hi → J1 ≤ V ∧ V ≤ J2 by rw [j1, j2]; exact HV.out)
              clear q3 j1 j2
              by_cases q4 : x < lo
              · have t4 : decide (x < lo) = true := decide_eq_true q4
                clear q4
                go_wp2_with fail
                go_ret
                exact ⟨rfl, BA.out⟩
              · have t4 : decide (x < lo) = false := decide_eq_false q4
                by_cases q5 : hi < x
                · have t5 : decide (hi < x) = true := decide_eq_true q5
                  clear q4 q5
                  go_wp2_with fail
                  go_ret
                  exact ⟨rfl, BA.out⟩
                · have t5 : decide (hi < x) = false := decide_eq_false q5
                  obtain ⟨r1, r2⟩ := HV2.out (by omega) (by omega)
                  have t6 : decide (J1 ≤ V) = true := decide_eq_true r1
                  have t7 : decide (V ≤ J2) = true := decide_eq_true r2
                  clear q4 q5 r1 r2
                  go_wp2_with fail
                  go_ret
                  exact ⟨rfl, BA.out⟩
  · rw [if_neg hc] at H1
    obtain ⟨E, hE⟩ : ∃ E, E = checkL ks := ⟨_, rfl⟩
    rw [← hE] at H1 hc
    have t2 : (E != 0) = true := by rw [bne_iff_ne]; exact hc
    clear h hc hE
    go_enter Try.func6, Try.ntmps6
    go_wp2_with fail
    refine HAw.out.mono ?_
    rintro e w1 ⟨rfl, hb1⟩
    have B1 := Lib.hid hb1
    clear hb1
    go_wp2_with fail
    refine (H1.out _ B1.out).mono ?_
    rintro e w2 ⟨rfl, hb2⟩
    have B2 := Lib.hid (B1.out.trans (hb2.mono B1.out.size))
    clear hb2
    go_wp2_with fail
    go_ret
    exact ⟨rfl, B2.out⟩
end Go.Proofs.Ythghcppdfeeloaa
