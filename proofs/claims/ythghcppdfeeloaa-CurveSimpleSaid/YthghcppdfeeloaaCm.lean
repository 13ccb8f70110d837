/- The law CurveSimple. -/
import Derived.Test.YthghcppdfeeloaaCi
import Derived.Test.YthghcppdfeeloaaSd
namespace Go.Proofs.Ythghcppdfeeloaa
open Go.RowKit

theorem sub_skip (ls ks : List (Int × Int)) (k j : Nat) (hk : k < ls.length) (h : (ls.drop k).Sublist (ks.drop j)) : j < ks.length ∧ (¬ (kx ks j = kx ls k ∧ ky ks j = ky ls k) → (ls.drop k).Sublist (ks.drop (j + 1))) ∧ ((ls.drop (k + 1)).Sublist (ks.drop j)) := by
  have hj : j < ks.length := by
    rcases Nat.lt_or_ge j ks.length with h1 | h1
    · exact h1
    · have := h.length_le
      rw [List.length_drop, List.length_drop] at this
      omega
  refine ⟨hj, fun hne => ?_, ?_⟩
  · rw [List.drop_eq_getElem_cons hk, List.drop_eq_getElem_cons hj] at h
    rw [List.drop_eq_getElem_cons hk]
    have key : ∀ (x y : Int × Int) (l r : List (Int × Int)), (x :: l).Sublist (y :: r) → x ≠ y → (x :: l).Sublist r := by
      intro x y l r h hne
      cases h with
      | cons _ h => exact h
      | cons_cons _ h => exact absurd rfl hne
    refine key _ _ _ _ h fun e => hne ?_
    unfold kx ky
    simp only [List.getD, List.getElem?_eq_getElem hk, List.getElem?_eq_getElem hj, Option.getD_some]
    rw [e]; exact ⟨rfl, rfl⟩
  · rw [List.drop_eq_getElem_cons hk] at h
    exact (List.sublist_cons_self _ _).trans h

set_option maxHeartbeats 4000000 in
set_option maxRecDepth 100000 in
theorem simple_law (a : Option Addr) (n cap : Nat) (x : Int) (ks : List (Int × Int)) (w : World) (h : IsKnots w a n ks) (_ : -9223372036854775808 ≤ x ∧ x ≤ 9223372036854775807) :
    Calls Try.prog 9 #[.slice a n cap, .int .i64 x] w fun e w' => e = .returned (.bool true) ∧ Below w.heap.size w w' := by
  have HAw := Lib.hid (awake_yes w)
  have H1 := Lib.hid fun w' (hb : Below w.heap.size w w') => simplify_any a n cap ks w' (h.at hb)
  have H2 := Lib.hid fun w' (hb : Below w.heap.size w w') => eval_any a n cap ks x w' (h.at hb)
  have H3 := Lib.hid fun w' (hb : Below w.heap.size w w') => direction_any a n cap ks w' (h.at hb)
  by_cases hc : checkL ks = 0
  · obtain ⟨g1, g2, g3, g4, g5⟩ := simp_good _ ks rfl hc
    have g6 : simpR ks = simpL ks := if_pos hc
    obtain ⟨ls, hls⟩ : ∃ ls, ls = simpL ks := ⟨_, rfl⟩
    rw [g6, ← hls, hc] at H1
    rw [← hls] at g1 g2 g3 g4 g5
    have g7 : simpR ls = ls := (if_pos g1).trans (simpL_none g5)
    have H4 := Lib.hid fun (a' : Option Addr) (c' : Nat) w' (hS : IsKnots w' a' ls.length ls) => (by
      have := simplify_any a' ls.length c' ls w' hS; rw [g7, g1] at this; exact this)
    have H5 := Lib.hid fun (a' : Option Addr) (c' : Nat) w' (hS : IsKnots w' a' ls.length ls) => (by
      have := eval_any a' ls.length c' ls x w' hS; rw [if_pos g1, g1, g2] at this; exact this)
    have H6 := Lib.hid fun (a' : Option Addr) (c' : Nat) w' (hS : IsKnots w' a' ls.length ls) => (by
      have := direction_any a' ls.length c' ls w' hS; rw [if_pos g1, g1, g3] at this; exact this)
    have H7 := Lib.hid fun (a1 a2 : Option Addr) (c1 c2 : Nat) w' (hS : IsKnots w' a1 ls.length ls) (hT : IsKnots w' a2 ls.length ls) => (by
      have := same_any a1 a2 ls.length ls.length c1 c2 ls ls w' hS hT; rw [(sameL_iff ls ls).2 rfl] at this; exact this)
    rw [if_pos hc, hc] at H2 H3
    obtain ⟨V, hV⟩ : ∃ V, V = valI ks x := ⟨_, rfl⟩
    obtain ⟨D, hD⟩ : ∃ D, D = dirI ks := ⟨_, rfl⟩
    rw [← hV] at H2 H5
    rw [← hD] at H3 H6
    obtain ⟨h0, h32, hf, hr⟩ := check_zero ks hc
    obtain ⟨b, off, rfl, hb, hn, hkn⟩ := h.some h0
    obtain ⟨l0, l32, _, _⟩ := check_zero ls g1
    have HC := Lib.hid hkn
    have hbw : b < w.heap.size := hb
    have HSub := Lib.hid (show (ls.drop 0).Sublist (ks.drop 0) from g4)
    have HStep := Lib.hid fun k j hk h => sub_skip ls ks k j hk h
    have HSome := Lib.hid fun (w' : World) (a' : Option Addr) (hS : IsKnots w' a' ls.length ls) => hS.some l0
    obtain ⟨m, hm⟩ : ∃ m, m = ls.length := ⟨_, rfl⟩
    rw [← hm] at H1 H4 H5 H6 H7 HSome l0 l32 HStep
    have HN := Lib.hid hn
    have HM := Lib.hid hm
    rw [← hn] at h0 h32 HStep
    clear h g1 g2 g3 g4 g5 g6 g7 hls hV hD hf hr hb hn hkn hc hm
    go_enter Try.func9, Try.ntmps9
    go_wp2_with fail
    refine HAw.out.mono ?_
    rintro e w1 ⟨rfl, hb1⟩
    have B1 := Lib.hid hb1
    clear hb1
    go_wp2_with fail
    refine (H1.out _ B1.out).mono ?_
    rintro e w2 ⟨⟨a', c', rfl, hS⟩, hb⟩
    obtain ⟨b', o', rfl, hb', _, _⟩ := HSome.out _ _ hS
    have S2 := Lib.hid hS
    have B2 := Lib.hid (B1.out.trans (hb.mono B1.out.size))
    clear hb hS hb'
    go_wp2_with fail
    refine (H4.out _ c' _ S2.out).mono ?_
    rintro e w3 ⟨⟨a'', c'', rfl, hT⟩, hb⟩
    have T3 := Lib.hid hT
    have S3 := Lib.hid (S2.out.at hb)
    have B3 := Lib.hid (B2.out.trans (hb.mono B2.out.size))
    clear hb hT S2
    go_wp2_with fail
    refine (H2.out _ B3.out).mono ?_
    rintro e w4 ⟨rfl, hb⟩
    have T4 := Lib.hid (T3.out.at hb)
    have S4 := Lib.hid (S3.out.at hb)
    have B4 := Lib.hid (B3.out.trans (hb.mono B3.out.size))
    clear hb T3 S3
    go_wp2_with fail
    refine (H5.out _ c' _ S4.out).mono ?_
    rintro e w5 ⟨rfl, hb⟩
    have T5 := Lib.hid (T4.out.at hb)
    have S5 := Lib.hid (S4.out.at hb)
    have B5 := Lib.hid (B4.out.trans (hb.mono B4.out.size))
    clear hb T4 S4
    go_wp2_with fail
    refine (H3.out _ B5.out).mono ?_
    rintro e w6 ⟨rfl, hb⟩
    have T6 := Lib.hid (T5.out.at hb)
    have S6 := Lib.hid (S5.out.at hb)
    have B6 := Lib.hid (B5.out.trans (hb.mono B5.out.size))
    clear hb T5 S5
    go_wp2_with fail
    refine (H6.out _ c' _ S6.out).mono ?_
    rintro e w7 ⟨rfl, hb⟩
    have T7 := Lib.hid (T6.out.at hb)
    have S7 := Lib.hid (S6.out.at hb)
    have B7 := Lib.hid (B6.out.trans (hb.mono B6.out.size))
    clear hb T6 S6
    go_wp2_with fail
    go_loopw [17, 18] (fun t i wr => ∃ k j : Nat, k ≤ m ∧ t = .int .i64 j ∧ i = .int .i64 k ∧ j ≤ n ∧ Hid ((ls.drop k).Sublist (ks.drop j)) ∧ IsKnots wr (some ⟨b', o', none⟩) m ls ∧ IsKnots wr a'' m ls ∧ Below w.heap.size w wr) (fun _ i _ => m - (intOf i).toNat)
    case atStart => exact ⟨0, 0, by omega, rfl, rfl, by omega, HSub, S7.out, T7.out, B7.out⟩
    case round =>
      obtain ⟨k, j0, hk, rfl, rfl, hj0, HS0, hS, hT, hbel⟩ := hrel
      have BR := Lib.hid hbel
      have SR := Lib.hid hS
      have TR := Lib.hid hT
      clear hbel hS hT
      by_cases hlt : k < m
      · obtain ⟨wo, rfl⟩ : ∃ wo : World, wo = wr := ⟨_, rfl⟩
        go_wp2_with fail
        go_loopw [17] (fun t wr => ∃ j : Nat, t = .int .i64 j ∧ j ≤ n ∧ Hid ((ls.drop k).Sublist (ks.drop j)) ∧ IsKnots wr (some ⟨b', o', none⟩) m ls ∧ IsKnots wr a'' m ls ∧ Below w.heap.size w wr) (fun t _ => n - (intOf t).toNat)
        case atStart => exact ⟨j0, rfl, hj0, HS0, SR.out, TR.out, BR.out⟩
        case round =>
          obtain ⟨j, rfl, hj, HS1, hS, hT, hbel⟩ := hrel
          obtain ⟨hjn, hskip, htake⟩ := HStep.out k j hlt HS1.out
          obtain ⟨p1, p2⟩ := HC.out.at hbw hbel j (by rw [← HN.out]; exact hjn)
          obtain ⟨b2, o2, he2, hb2, _, hkn2⟩ := HSome.out _ _ hS
          cases he2
          obtain ⟨q1, q2⟩ := hkn2 k (by rw [← HM.out]; exact hlt)
          have HSk := Lib.hid hskip
          have HTk := Lib.hid htake
          have SR2 := Lib.hid hS
          have TR2 := Lib.hid hT
          have BR2 := Lib.hid hbel
          clear hskip htake hS hT hbel hkn2 SR TR BR
          obtain ⟨X, hX⟩ : ∃ t, t = kx ks j := ⟨_, rfl⟩
          obtain ⟨Y, hY⟩ : ∃ t, t = ky ks j := ⟨_, rfl⟩
          obtain ⟨U, hU⟩ : ∃ t, t = kx ls k := ⟨_, rfl⟩
          obtain ⟨W, hW⟩ : ∃ t, t = ky ls k := ⟨_, rfl⟩
          rw [← hX] at p1
          rw [← hY] at p2
          rw [← hU] at q1
          rw [← hW] at q2
          rw [← hX, ← hY, ← hU, ← hW] at HSk
          clear hX hY hU hW
          have tj : decide ((j : Int) < (n : Int)) = true := decide_eq_true (by omega)
          have tj2 : ((j : Int) == (n : Int)) = false := by rw [beq_eq_false_iff_ne]; omega
          have j1 : (0 : Int) ≤ (j : Int) := by omega
          have k1 : (0 : Int) ≤ (k : Int) := by omega
          have j2 : (j : Int) < (n : Int) := by omega
          have k2 : (k : Int) < (m : Int) := by omega
          by_cases hx : X = U
          · subst hx
            by_cases hy : Y = W
            · subst hy
              go_wp2_with fail
              go_quiet (fail)
              go_wp2_with fail
              go_roundw
              case rel => exact ⟨k + 1, j, by omega, rfl, by go_num, by omega, HTk, SR2.out.at (below_drewN _ _ _), TR2.out.at (below_drewN _ _ _), BR2.out.trans (below_drewN _ _ _)⟩
              case measure => simp [intOf]; omega
            · have ty : (Y == W) = false := by rw [beq_eq_false_iff_ne]; exact hy
              have HNx := Lib.hid (HSk.out (fun h => hy h.2))
              clear hy
              go_wp2_with fail
              go_quiet (fail)
              go_wp2_with fail
              go_roundw
              case rel => exact ⟨j + 1, by go_num, by omega, HNx, SR2.out.at (below_drewN _ _ _), TR2.out.at (below_drewN _ _ _), BR2.out.trans (below_drewN _ _ _)⟩
              case measure => simp [intOf]; omega
          · have tx : (X == U) = false := by rw [beq_eq_false_iff_ne]; exact hx
            have HNx := Lib.hid (HSk.out (fun h => hx h.1))
            clear hx
            go_wp2_with fail
            go_quiet (fail)
            go_wp2_with fail
            go_roundw
            case rel => exact ⟨j + 1, by go_num, by omega, HNx, SR2.out.at (below_drewN _ _ _), TR2.out.at (below_drewN _ _ _), BR2.out.trans (below_drewN _ _ _)⟩
            case measure => simp [intOf]; omega
      · obtain rfl : k = m := by omega
        have tk : decide ((0 : Int) < (k : Int)) = true := decide_eq_true (by omega)
        go_wp2_with fail
        refine (H7.out _ _ c' c'' _ SR.out TR.out).mono ?_
        rintro e w8 ⟨rfl, hb⟩
        have B8 := Lib.hid (BR.out.trans (hb.mono BR.out.size))
        clear hb
        go_wp2_with fail
        go_ret
        exact ⟨rfl, B8.out⟩
  · have e : simpR ks = [] := if_neg hc
    rw [e] at H1
    obtain ⟨E, hE⟩ : ∃ E, E = checkL ks := ⟨_, rfl⟩
    rw [← hE] at H1 hc
    have t2 : (E != 0) = true := by rw [bne_iff_ne]; exact hc
    clear h hc hE H2 H3 e
    go_enter Try.func9, Try.ntmps9
    go_wp2_with fail
    refine HAw.out.mono ?_
    rintro e w1 ⟨rfl, hb1⟩
    have B1 := Lib.hid hb1
    clear hb1
    go_wp2_with fail
    refine (H1.out _ B1.out).mono ?_
    rintro e w2 ⟨⟨a', c', rfl, hS⟩, hb2⟩
    have B2 := Lib.hid (B1.out.trans (hb2.mono B1.out.size))
    clear hb2 hS
    go_wp2_with fail
    go_ret
    exact ⟨rfl, B2.out⟩
end Go.Proofs.Ythghcppdfeeloaa
