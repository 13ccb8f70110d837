/- plenumref19.Step and the law Steps, generic over the block; Same. -/
import Derived.Test.YtmhfkdnblemfdaaDoorDg
import Derived.Deep.QuietTactic
import Derived.BigQuiet
namespace Go.Proofs.YtmhfkdnblemfdaaDoor
open Go.RowKit Go.Shelf

set_option linter.unusedVariables false
set_option linter.unusedSimpArgs false
set_option maxHeartbeats 4000000 in
set_option maxRecDepth 100000 in
theorem rStep_core (s : ByteArray) (pv sv vv : Value) (dt : Int) (E ko o : Int) (S : List Int) (n : Nat) (hst : n = 1 ∨ n = 2) (hsl : S.length = n) (w : World)
    (KC : Hid (∀ W, Below w.heap.size w W → Calls Tryd.prog 23 #[.string s, pv, sv, vv, .int .i64 dt] W fun e w' => e = .returned (.int .i64 E) ∧ Below W.heap.size W w'))
    (KS : Hid (E = 0 → ∀ W, Below w.heap.size w W → Calls Tryd.prog 24 #[.string s, pv, sv, vv, .int .i64 dt] W fun e w' => ∃ gr, e = .returned (.tuple #[.slice (some ⟨gr, 0, none⟩) n n, .agg #[.int .i64 ko, .int .i64 o]]) ∧ W.heap.size ≤ gr ∧ RowAt w' gr (flat iL S) ∧ Below W.heap.size W w')) :
    Calls Tryd.prog 12 #[.string s, pv, sv, vv, .int .i64 dt] w fun e w' => ∃ v k n, e = .returned (.tuple #[v, .agg #[.int .i64 k, .int .i64 n], .int .i64 E]) ∧ TmA w' E ko o S v k n ∧ Below w.heap.size w w' := by
  have HST := Lib.hid hst
  have HSL := Lib.hid hsl
  clear hst hsl
  obtain ⟨W1, g, hW1, hg, RG, B1, sz1⟩ := box1 w #[.int .i64 0, .int .i64 0] 26
  have HG1 := Lib.hid RG
  have HB1 := Lib.hid B1
  have HWG := Lib.hid (show w.heap.size ≤ g by omega)
  clear RG B1 sz1
  by_cases hE0 : E = 0
  · subst hE0
    go_enter Tryd.func12, Tryd.ntmps12
    go_upto_region 1 with fail
    rw [← hW1]
    try rw [← hg]
    clear hW1 hg
    go_wp2_with fail
    refine (KC.out W1 HB1.out).mono ?_
    rintro e w2 ⟨rfl, hb⟩
    have HB2 := Lib.hid (HB1.out.trans (hb.mono HB1.out.size))
    have HG2 := Lib.hid (HG1.out.keep hb)
    clear hb
    go_wp2_with fail
    refine (KS.out (by first | rfl | trivial) w2 HB2.out).mono ?_
    rintro e w3 ⟨gr, rfl, hgr, hrow, hb⟩
    have HB3 := Lib.hid (HB2.out.trans (hb.mono HB2.out.size))
    have HG3 := Lib.hid (HG2.out.keep hb)
    have HGG := Lib.hid (show g ≠ gr by have := HG2.out.lt; omega)
    have HR3 := Lib.hid hrow
    clear hb hrow hgr
    obtain ⟨W6, t, hW6, ht, R6, B6, sz6⟩ := box1 w3 #[.int .i64 ko, .int .i64 o] 26
    have HG6 := Lib.hid (HG3.out.keep B6)
    have HB6 := Lib.hid (HB3.out.trans (B6.mono HB3.out.size))
    have HR6 := Lib.hid (HR3.out.keep B6)
    have HT6 := Lib.hid R6
    have HGT := Lib.hid (show g ≠ t by have h1 := HG3.out.lt; omega)
    clear R6 B6 sz6
    go_upto_region 5 with fail
    rw [← hW6]
    try rw [← ht]
    clear hW6 ht
    have HC := Lib.hid (show W6.cell? ⟨t, 0, none⟩ = some (.int .i64 ko) ∧ W6.cell? ⟨t, 1, none⟩ = some (.int .i64 o) from ⟨HT6.out.c 0 _ rfl, HT6.out.c 1 _ rfl⟩)
    refine wp_region_held_drew (S := fun w' => w'.cell? ⟨t, 0, none⟩ = some (.int .i64 ko) ∧ w'.cell? ⟨t, 1, none⟩ = some (.int .i64 o)) (by kernel_rfl) HC.out (fun hHeld => ?_)
    have hdr : Below W6.heap.size W6 W6.drew := (Below.refl _ _).drew
    have HG9 := Lib.hid (HG6.out.keep hdr)
    have HR9 := Lib.hid (HR6.out.keep hdr)
    have HB9 := Lib.hid (HB6.out.trans (hdr.mono HB6.out.size))
    obtain ⟨W9, hW9⟩ : ∃ x, x = W6.drew := ⟨_, rfl⟩
    rw [← hW9] at HG9 HR9 HB9 hHeld ⊢
    clear hW9 hdr HC
    refine' wpAnyH_take (i := 0) (v := _) rfl (by kernel_rfl) (by kernel_rfl) (by kernel_rfl) (fun _ _ _ h => h) (Or.inl ⟨by rfl, ?_⟩) hHeld ?_
    rotate_left
    · intro w hSw
      (try dsimp only at hSw)
      go_simp
      try with_reducible rfl
    (try simp only [Act.put, List.getElem_toArray, List.getElem_cons_zero, List.getElem_cons_succ, List.setIfInBounds_toArray, List.set_cons_zero, List.set_cons_succ])
    refine' wpAnyH_take (i := 1) (v := _) rfl (by kernel_rfl) (by kernel_rfl) (by kernel_rfl) (fun _ _ _ h => h) (Or.inl ⟨by rfl, ?_⟩) hHeld ?_
    rotate_left
    · intro w hSw
      (try dsimp only at hSw)
      go_simp
      try with_reducible rfl
    (try simp only [Act.put, List.getElem_toArray, List.getElem_cons_zero, List.getElem_cons_succ, List.setIfInBounds_toArray, List.set_cons_zero, List.set_cons_succ])
    refine' wpAnyH_take (i := 2) (v := _) rfl (by kernel_rfl) (by kernel_rfl) (by kernel_rfl) (fun _ _ _ h => h) (Or.inl ⟨by rfl, ?_⟩) hHeld ?_
    rotate_left
    · intro w hSw
      (try dsimp only at hSw)
      go_simp
      try with_reducible rfl
    (try simp only [Act.put, List.getElem_toArray, List.getElem_cons_zero, List.getElem_cons_succ, List.setIfInBounds_toArray, List.set_cons_zero, List.set_cons_succ])
    have g_0 := HG9.out.c 0 _ rfl
    have hs0 := row_set HG9.out 0 (by simp) (.int .i64 ko)
    have g_1 : (W9.setCell ⟨g, 0, none⟩ (.int .i64 ko)).cell? ⟨g, 1, none⟩ = some (.int .i64 0) := hs0.c 1 _ rfl
    have g_1' := HG9.out.c 1 _ rfl
    have g_z := HG9.out.fz
    have gg : W9.grownBy ((W9.setCell ⟨g, 0, none⟩ (.int .i64 ko)).setCell ⟨g, 1, none⟩ (.int .i64 o)) (some g) := grown_trans (grown_cell _ g 0 (.int .i64 ko)) (grown_cell _ g 1 (.int .i64 o))
    have HSX : ((W9.setCell ⟨g, 0, none⟩ (.int .i64 ko)).setCell ⟨g, 1, none⟩ (.int .i64 o)).cell? ⟨t, 0, none⟩ = some (.int .i64 ko) ∧ ((W9.setCell ⟨g, 0, none⟩ (.int .i64 ko)).setCell ⟨g, 1, none⟩ (.int .i64 o)).cell? ⟨t, 1, none⟩ = some (.int .i64 o) := ⟨cell_grown hHeld.1 gg (fun e => HGT.out (Option.some.inj e).symm), cell_grown hHeld.2 gg (fun e => HGT.out (Option.some.inj e).symm)⟩
    clear gg
    refine wpAnyH_ready (rs := [3]) (by kernel_rfl) (by simp) ?_
    refine AllReadyH.cons rfl (fun K hK => ?_) AllReadyH.nil
    go_simp
    clear hHeld
    refine hK.out _ _ HSX (fun hHeld => ?_)
    clear hK K HSX
    (try simp only [Act.put, List.getElem_toArray, List.getElem_cons_zero, List.getElem_cons_succ, List.setIfInBounds_toArray, List.set_cons_zero, List.set_cons_succ])
    refine' wpAnyH_take (i := 4) (v := _) rfl (by kernel_rfl) (by kernel_rfl) (by kernel_rfl) (fun _ _ _ h => h) (Or.inl ⟨by rfl, ?_⟩) hHeld ?_
    rotate_left
    · intro w hSw
      (try dsimp only at hSw)
      go_simp
      try with_reducible rfl
    (try simp only [Act.put, List.getElem_toArray, List.getElem_cons_zero, List.getElem_cons_succ, List.setIfInBounds_toArray, List.set_cons_zero, List.set_cons_succ])
    refine wpAnyH_done (by kernel_rfl) ?_ _
    (try simp only [Act.put, List.getElem_toArray, List.getElem_cons_zero, List.getElem_cons_succ, List.setIfInBounds_toArray, List.set_cons_zero, List.set_cons_succ])
    clear hHeld g_0 g_1 g_1' g_z hs0
    go_wp2_with fail
    have hs := HG9.out.setRow [.int .i64 ko, .int .i64 o] rfl
    have hB := set_below HB9.out HWG.out [.int .i64 ko, .int .i64 o]
    have y0 : ((W9.setCell ⟨g, 0, none⟩ (.int .i64 ko)).setCell ⟨g, 1, none⟩ (.int .i64 o)).cell? ⟨g, 0, none⟩ = some (.int .i64 ko) := hs.c 0 _ rfl
    have y1 : ((W9.setCell ⟨g, 0, none⟩ (.int .i64 ko)).setCell ⟨g, 1, none⟩ (.int .i64 o)).cell? ⟨g, 1, none⟩ = some (.int .i64 o) := hs.c 1 _ rfl
    (try simp only [Exit.inBlock, Exit.then])
    refine bodyPost_ret (by simp [results, Tryd.results12, go_sem, y0, y1]; try rfl) rfl ?_
    have hrow := HR9.out.other HGG.out [.int .i64 ko, .int .i64 o]
    refine ⟨_, _, _, rfl, ⟨fun h => absurd rfl h, fun _ => ⟨rfl, rfl, _, n, by rw [HSL.out], ?_⟩⟩, hB⟩
    exact ⟨by rw [flat_len iL_len], by rw [HSL.out]; rcases HST.out with h | h <;> rw [h] <;> decide, .inr ⟨gr, 0, rfl, hrow.lt, fun j u hu => by rw [Nat.zero_add]; exact hrow.c j u hu⟩⟩
  · have e1 : (E == 0) = false := by rw [beq_eq_false_iff_ne]; exact hE0
    have e2 : (E != 0) = true := by rw [bne, e1]; rfl
    go_enter Tryd.func12, Tryd.ntmps12
    go_upto_region 1 with fail
    rw [← hW1]
    try rw [← hg]
    clear hW1 hg
    go_wp2_with fail
    refine (KC.out W1 HB1.out).mono ?_
    rintro e w2 ⟨rfl, hb⟩
    have HB2 := Lib.hid (HB1.out.trans (hb.mono HB1.out.size))
    have HG2 := Lib.hid (HG1.out.keep hb)
    clear hb
    have g_0 := HG2.out.c 0 _ rfl
    have g_1 := HG2.out.c 1 _ rfl
    have g_z := HG2.out.fz
    go_wp2_with fail
    have hs := HG2.out.setRow [.int .i64 0, .int .i64 0] rfl
    have hB := set_below HB2.out HWG.out [.int .i64 0, .int .i64 0]
    have y0 : ((w2.setCell ⟨g, 0, none⟩ (.int .i64 0)).setCell ⟨g, 1, none⟩ (.int .i64 0)).cell? ⟨g, 0, none⟩ = some (.int .i64 0) := hs.c 0 _ rfl
    have y1 : ((w2.setCell ⟨g, 0, none⟩ (.int .i64 0)).setCell ⟨g, 1, none⟩ (.int .i64 0)).cell? ⟨g, 1, none⟩ = some (.int .i64 0) := hs.c 1 _ rfl
    (try simp only [Exit.inBlock, Exit.then])
    refine bodyPost_ret (by simp [results, Tryd.results12, go_sem, y0, y1]; try rfl) rfl ?_
    exact ⟨_, _, _, rfl, ⟨fun _ => ⟨rfl, rfl, rfl⟩, fun h => absurd h hE0⟩, hB⟩
set_option maxHeartbeats 4000000 in
set_option maxRecDepth 100000 in
theorem same_yes (a1 a2 : Option Addr) (c1 c2 : Nat) (xs : List Int) (w : World) (h1 : InS w a1 xs.length 1 (flat iL xs)) (h2 : InS w a2 xs.length 1 (flat iL xs)) : Calls Tryd.prog 13 #[.slice a1 xs.length c1, .slice a2 xs.length c2] w fun e w' => e = .returned (.bool true) ∧ Below w.heap.size w w' := by
  have H1 := Lib.hid h1
  have H2 := Lib.hid h2
  obtain ⟨M, hM⟩ : ∃ M, M = xs.length := ⟨_, rfl⟩
  have HM := Lib.hid hM
  have m63 : M ≤ 9223372036854775807 := by rw [hM]; exact h1.2.1
  rw [← hM]
  clear h1 h2 hM
  go_enter Tryd.func13, Tryd.ntmps13
  go_wp2_with fail
  go_loopw [5] (fun i wr => ∃ j : Nat, j ≤ M ∧ i = .int .i64 j ∧ Hid (Below w.heap.size w wr)) (fun i _ => M - (intOf i).toNat)
  case atStart => exact ⟨0, Nat.zero_le _, rfl, Lib.hid (Below.refl _ _)⟩
  case round =>
    obtain ⟨j, hj, rfl, HBR⟩ := hrel
    by_cases hlt : j < M
    · obtain ⟨ab, ao, rfl, hal, hac⟩ := (show InS wr a1 xs.length 1 (flat iL xs) from H1.out.keep HBR.out).at iL_len (by have := HM.out; omega)
      obtain ⟨bb, bo, rfl, hbl, hbc⟩ := (show InS wr a2 xs.length 1 (flat iL xs) from H2.out.keep HBR.out).at iL_len (by have := HM.out; omega)
      obtain ⟨x, hx⟩ : ∃ x, xs[j]? = some x := ⟨_, List.getElem?_eq_getElem (by have := HM.out; omega)⟩
      have l0 := hac j _ hx 0 _ rfl
      have m0 := hbc j _ hx 0 _ rfl
      simp only [Nat.mul_one, Nat.add_zero] at l0 m0
      have k1 : (0 : Int) ≤ (j : Int) := by omega
      have k2 : (j : Int) < (M : Int) := by omega
      have e1 : IntKind.i64.wrap ((j : Int) + 1) = (j : Int) + 1 := IntWalk.i64_in _ (by omega)
      clear hx hac hbc
      go_wp2_with fail
      go_quiet (fail)
      have HB2 := Lib.hid (HBR.out.trans ((belowN wr.heap.size wr nq).mono HBR.out.size))
      go_wp2_with fail
      go_roundw
      case rel => exact ⟨j + 1, by omega, by go_num, HB2⟩
      case measure => (simp [intOf]) <;> omega
    · obtain rfl : j = M := by omega
      go_wp2_with fail
      go_ret
      exact ⟨rfl, HBR.out⟩
theorem tmA_keep {w w' : World} {E ko o : Int} {S : List Int} {v : Value} {k n : Int} (h : TmA w E ko o S v k n) (hb : Below w.heap.size w w') : TmA w' E ko o S v k n := by
  refine ⟨h.1, fun he => ?_⟩
  obtain ⟨h1, h2, a, c, h3, h4⟩ := h.2 he
  exact ⟨h1, h2, a, c, h3, h4.keep hb⟩
theorem tmA_eq {w : World} {E ko o : Int} {S : List Int} {v v' : Value} {k n k' n' : Int} (h : TmA w E ko o S v k n) (h' : TmA w E ko o S v' k' n') : k = k' ∧ n = n' ∧ (∃ a m c, v = .slice a m c) ∧ (∃ a m c, v' = .slice a m c) := by
  by_cases he : E = 0
  · obtain ⟨h1, h2, a, c, h3, h4⟩ := h.2 he
    obtain ⟨g1, g2, b, d, g3, g4⟩ := h'.2 he
    exact ⟨by rw [h1, g1], by rw [h2, g2], ⟨a, _, c, h3⟩, ⟨b, _, d, g3⟩⟩
  · obtain ⟨h1, h2, h3⟩ := h.1 he
    obtain ⟨g1, g2, g3⟩ := h'.1 he
    exact ⟨by rw [h2, g2], by rw [h3, g3], ⟨_, _, _, h1⟩, ⟨_, _, _, g1⟩⟩
theorem tmA_same {w : World} {E ko o : Int} {S : List Int} {v v' : Value} {k n k' n' : Int} (h : TmA w E ko o S v k n) (h' : TmA w E ko o S v' k' n') : Calls Tryd.prog 13 #[v, v'] w fun e w' => e = .returned (.bool true) ∧ Below w.heap.size w w' := by
  by_cases he : E = 0
  · obtain ⟨h1, h2, a, c, rfl, h4⟩ := h.2 he
    obtain ⟨g1, g2, b, d, rfl, g4⟩ := h'.2 he
    exact same_yes a b c d S w h4 g4
  · obtain ⟨rfl, h2, h3⟩ := h.1 he
    obtain ⟨rfl, g2, g3⟩ := h'.1 he
    exact same_yes none none 0 0 [] w ⟨rfl, by decide, .inl rfl⟩ ⟨rfl, by decide, .inl rfl⟩
set_option maxHeartbeats 8000000 in
set_option maxRecDepth 100000 in
theorem steps_core (s : ByteArray) (pa sa va : Option Addr) (pc sc vc M K V : Nat) (dt : Int) (E ko o : Int) (S : List Int) (w : World) (hm : MaxAt w) (hss : s.size ≤ 9223372036854775807) (m63 : M ≤ 9223372036854775807) (k63 : K ≤ 9223372036854775807) (v63 : V ≤ 9223372036854775807)
    (K1 : Hid (∀ W, Below w.heap.size w W → Calls Tryd.prog 11 #[.string s, .slice pa M pc, .slice sa K sc, .slice va V vc, .int .i64 dt] W fun e w' => ∃ v k n, e = .returned (.tuple #[v, .agg #[.int .i64 k, .int .i64 n], .int .i64 E]) ∧ TmA w' E ko o S v k n ∧ Below W.heap.size W w'))
    (K2 : Hid (∀ W, Below w.heap.size w W → Calls Tryd.prog 12 #[.string s, .slice pa M pc, .slice sa K sc, .slice va V vc, .int .i64 dt] W fun e w' => ∃ v k n, e = .returned (.tuple #[v, .agg #[.int .i64 k, .int .i64 n], .int .i64 E]) ∧ TmA w' E ko o S v k n ∧ Below W.heap.size W w'))
    (K5 : Hid (E = 0 → ∀ (W : World) (v : Value), Below w.heap.size w W → (∃ a c, v = .slice a S.length c ∧ InS W a S.length 1 (flat iL S)) → Calls Tryd.prog 14 #[.string s, .slice pa M pc, v] W fun e w' => e = .returned (.bool true) ∧ Below W.heap.size W w')) :
    Calls Tryd.prog 3 #[.string s, .slice pa M pc, .slice sa K sc, .slice va V vc, .int .i64 dt] w fun e w' => e = .returned (.bool true) ∧ Below w.heap.size w w' := by
  have KAW := Lib.hid (awake_yes w hm)
  clear hm
  by_cases h0 : 40 < s.size
  · have i0 : (40 : Int) < ((s.size : Nat) : Int) := by omega
    go_enter Tryd.func3, Tryd.ntmps3
    go_wp2_with fail
    refine KAW.out.mono ?_
    rintro e wa ⟨rfl, hb⟩
    have HB1 := Lib.hid hb
    clear hb KAW
    go_wp2_with fail
    go_ret
    exact ⟨by first | rfl | simp, HB1.out⟩
  · have i0 : ¬ (40 : Int) < ((s.size : Nat) : Int) := by omega
    by_cases h1 : 8 < M
    · have i1 : (8 : Int) < ((M : Nat) : Int) := by omega
      go_enter Tryd.func3, Tryd.ntmps3
      go_wp2_with fail
      refine KAW.out.mono ?_
      rintro e wa ⟨rfl, hb⟩
      have HB1 := Lib.hid hb
      clear hb KAW
      go_wp2_with fail
      go_ret
      exact ⟨by first | rfl | simp, HB1.out⟩
    · have i1 : ¬ (8 : Int) < ((M : Nat) : Int) := by omega
      by_cases h2 : 8 < K
      · have i2 : (8 : Int) < ((K : Nat) : Int) := by omega
        go_enter Tryd.func3, Tryd.ntmps3
        go_wp2_with fail
        refine KAW.out.mono ?_
        rintro e wa ⟨rfl, hb⟩
        have HB1 := Lib.hid hb
        clear hb KAW
        go_wp2_with fail
        go_ret
        exact ⟨by first | rfl | simp, HB1.out⟩
      · have i2 : ¬ (8 : Int) < ((K : Nat) : Int) := by omega
        by_cases h3 : 8 < V
        · have i3 : (8 : Int) < ((V : Nat) : Int) := by omega
          go_enter Tryd.func3, Tryd.ntmps3
          go_wp2_with fail
          refine KAW.out.mono ?_
          rintro e wa ⟨rfl, hb⟩
          have HB1 := Lib.hid hb
          clear hb KAW
          go_wp2_with fail
          go_ret
          exact ⟨by first | rfl | simp, HB1.out⟩
        · have i3 : ¬ (8 : Int) < ((V : Nat) : Int) := by omega
          by_cases hE0 : E = 0
          · go_enter Tryd.func3, Tryd.ntmps3
            go_wp2_with fail
            refine KAW.out.mono ?_
            rintro e wa ⟨rfl, hb⟩
            have HB1 := Lib.hid hb
            clear hb KAW
            go_wp2_with fail
            refine (K1.out wa HB1.out).mono ?_
            rintro e wb ⟨v, k, n, rfl, hA, hb⟩
            have HB2 := Lib.hid (HB1.out.trans (hb.mono HB1.out.size))
            clear hb
            obtain ⟨W3, t1, hW3, ht1, R3, B3, sz3⟩ := box1 wb #[.int .i64 k, .int .i64 n] 26
            have HR3 := Lib.hid R3
            have HB3 := Lib.hid (HB2.out.trans (B3.mono HB2.out.size))
            have hA3 := tmA_keep hA B3
            clear R3 B3 sz3 hA
            go_upto_region 6 with fail
            rw [← hW3]
            try rw [← ht1]
            clear hW3 ht1
            go_wp2_with fail
            refine (K2.out W3 HB3.out).mono ?_
            rintro e wc ⟨v', k', n', rfl, hA', hb⟩
            have HB4 := Lib.hid (HB3.out.trans (hb.mono HB3.out.size))
            have HR4 := Lib.hid (HR3.out.keep hb)
            have hA4 := tmA_keep hA3 hb
            clear hb hA3
            obtain ⟨W5, t2, hW5, ht2, R5, B5, sz5⟩ := box1 wc #[.int .i64 k', .int .i64 n'] 26
            have HR5 := Lib.hid R5
            have HRR := Lib.hid (HR4.out.keep B5)
            have HB5 := Lib.hid (HB4.out.trans (B5.mono HB4.out.size))
            have hA5 := tmA_keep hA4 B5
            have hA6 := tmA_keep hA' B5
            clear R5 B5 sz5 hA4 hA' HR4 HR3
            have HSM := Lib.hid (tmA_same hA5 hA6)
            obtain ⟨hk, hn, hsl⟩ := tmA_eq hA5 hA6
            have KPZ := Lib.hid (fun (W : World) (hb : Below W5.heap.size W5 W) (hz : E = 0) => K5.out hz W v (HB5.out.trans (hb.mono HB5.out.size)) (by obtain ⟨_, _, a, c, h1, h2⟩ := hA5.2 hz; exact ⟨a, c, h1, h2.keep hb⟩))
            obtain ⟨xa, xn, xc, rfl⟩ := hsl.1
            obtain ⟨ya, yn, yc, rfl⟩ := hsl.2
            subst hk
            subst hn
            clear hA5 hA6 hsl
            go_upto_region 7 with fail
            rw [← hW5]
            try rw [← ht2]
            clear hW5 ht2
            have r0 := HRR.out.c 0 _ rfl
            have r1 := HRR.out.c 1 _ rfl
            have q0 := HR5.out.c 0 _ rfl
            have q1 := HR5.out.c 1 _ rfl
            go_wp2_with fail
            refine HSM.out.mono ?_
            rintro e wd ⟨rfl, hb⟩
            have HB6 := Lib.hid (HB5.out.trans (hb.mono HB5.out.size))
            have HB56 := Lib.hid hb
            have r0 := cellB r0 hb
            have r1 := cellB r1 hb
            have q0 := cellB q0 hb
            have q1 := cellB q1 hb
            clear hb
            subst hE0
            go_wp2_with fail
            refine (KPZ.out wd HB56.out (by first | rfl | trivial)).mono ?_
            rintro e we ⟨rfl, hb⟩
            have HB7 := Lib.hid (HB6.out.trans (hb.mono HB6.out.size))
            clear hb
            go_wp2_with fail
            go_ret
            exact ⟨by first | rfl | simp, HB7.out⟩
          · go_enter Tryd.func3, Tryd.ntmps3
            go_wp2_with fail
            refine KAW.out.mono ?_
            rintro e wa ⟨rfl, hb⟩
            have HB1 := Lib.hid hb
            clear hb KAW
            go_wp2_with fail
            refine (K1.out wa HB1.out).mono ?_
            rintro e wb ⟨v, k, n, rfl, hA, hb⟩
            have HB2 := Lib.hid (HB1.out.trans (hb.mono HB1.out.size))
            clear hb
            obtain ⟨W3, t1, hW3, ht1, R3, B3, sz3⟩ := box1 wb #[.int .i64 k, .int .i64 n] 26
            have HR3 := Lib.hid R3
            have HB3 := Lib.hid (HB2.out.trans (B3.mono HB2.out.size))
            have hA3 := tmA_keep hA B3
            clear R3 B3 sz3 hA
            go_upto_region 6 with fail
            rw [← hW3]
            try rw [← ht1]
            clear hW3 ht1
            go_wp2_with fail
            refine (K2.out W3 HB3.out).mono ?_
            rintro e wc ⟨v', k', n', rfl, hA', hb⟩
            have HB4 := Lib.hid (HB3.out.trans (hb.mono HB3.out.size))
            have HR4 := Lib.hid (HR3.out.keep hb)
            have hA4 := tmA_keep hA3 hb
            clear hb hA3
            obtain ⟨W5, t2, hW5, ht2, R5, B5, sz5⟩ := box1 wc #[.int .i64 k', .int .i64 n'] 26
            have HR5 := Lib.hid R5
            have HRR := Lib.hid (HR4.out.keep B5)
            have HB5 := Lib.hid (HB4.out.trans (B5.mono HB4.out.size))
            have hA5 := tmA_keep hA4 B5
            have hA6 := tmA_keep hA' B5
            clear R5 B5 sz5 hA4 hA' HR4 HR3
            have HSM := Lib.hid (tmA_same hA5 hA6)
            obtain ⟨hk, hn, hsl⟩ := tmA_eq hA5 hA6
            have KPZ := Lib.hid (fun (W : World) (hb : Below W5.heap.size W5 W) (hz : E = 0) => K5.out hz W v (HB5.out.trans (hb.mono HB5.out.size)) (by obtain ⟨_, _, a, c, h1, h2⟩ := hA5.2 hz; exact ⟨a, c, h1, h2.keep hb⟩))
            obtain ⟨xa, xn, xc, rfl⟩ := hsl.1
            obtain ⟨ya, yn, yc, rfl⟩ := hsl.2
            subst hk
            subst hn
            clear hA5 hA6 hsl
            go_upto_region 7 with fail
            rw [← hW5]
            try rw [← ht2]
            clear hW5 ht2
            have r0 := HRR.out.c 0 _ rfl
            have r1 := HRR.out.c 1 _ rfl
            have q0 := HR5.out.c 0 _ rfl
            have q1 := HR5.out.c 1 _ rfl
            go_wp2_with fail
            refine HSM.out.mono ?_
            rintro e wd ⟨rfl, hb⟩
            have HB6 := Lib.hid (HB5.out.trans (hb.mono HB5.out.size))
            have HB56 := Lib.hid hb
            have r0 := cellB r0 hb
            have r1 := cellB r1 hb
            have q0 := cellB q0 hb
            have q1 := cellB q1 hb
            clear hb
            have e1 : (E == 0) = false := by rw [beq_eq_false_iff_ne]; exact hE0
            have e2 : (E != 0) = true := by rw [bne, e1]; rfl
            go_wp2_with fail
            go_ret
            exact ⟨by first | rfl | simp, HB6.out⟩
end Go.Proofs.YtmhfkdnblemfdaaDoor
