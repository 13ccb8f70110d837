/- The law Ends of sequencer. Asked: MaxLen's cell holds some number. -/
import Derived.Test.YthaigchklogjlaaDoorQk
import Derived.Test.YthaigchklogjlaaDoorQj
namespace Go.Proofs.YthaigchklogjlaaDoor
open Go.RowKit Go.Shelf

set_option linter.unusedVariables false
set_option linter.unusedSimpArgs false
theorem con_stay (L up dn ud dd d dt P T : Int) (hP : 0 ≤ P ∧ P ≤ L) (hT : -6311433599 ≤ T ∧ T ≤ 6311433599) (hu : 0 ≤ ud ∧ ud ≤ 86400) (hd : 0 ≤ dd ∧ dd ≤ 86400) (hdt : 1 ≤ dt ∧ dt ≤ 86400) (hc : ¬ (up < d ∧ d < dn)) (N : Nat) (hN : (conS L up dn ud dd d dt P T N).1 = tgS L up dn d P) : ∀ k, N ≤ k → (conS L up dn ud dd d dt P T k).1 = tgS L up dn d P
  | 0, h => by obtain rfl : N = 0 := by omega
               exact hN
  | k + 1, h => by
    by_cases hk : N = k + 1
    · rw [← hk]; exact hN
    · have h1 := con_stay L up dn ud dd d dt P T hP hT hu hd hdt hc N hN k (by omega)
      have h2 := conS_keep L up dn ud dd d dt P T hP hT hu hd hdt k
      show (stageS L up dn ud dd d dt (conS L up dn ud dd d dt P T k).1 (conS L up dn ud dd d dt P T k).2).1 = _
      rw [← h1]
      have h3 := tg_con L up dn ud dd d dt P T hP hT hu hd hdt hc k
      rw [← h1] at h3
      revert h3
      generalize conS L up dn ud dd d dt P T k = s
      intro h3
      unfold tgS at h3
      unfold stageS
      by_cases h4 : up < d
      · rw [if_pos h4] at h3
        rw [if_neg (fun h => by omega), if_neg (fun h => hc ⟨h4, h.1⟩)]
      · rw [if_neg h4] at h3
        rw [if_neg (fun h => h4 h.1)]
        split at h3
        · rw [if_neg (fun h => by omega)]
        · rename_i h5
          rw [if_neg (fun h => h5 h.1)]
set_option maxHeartbeats 16000000 in
set_option maxRecDepth 100000 in
theorem ends_law (pa : Option Addr) (pc : Nat) (ps : List Int) (sa : Option Addr) (sc : Nat) (st : List Int) (d dt : Int) (w : World) (hm : MaxAt w) (hps : InS w pa ps.length 1 (flat iL ps)) (hst : InS w sa st.length 1 (flat iL st)) :
    Calls Tryd.prog 7 #[.slice pa ps.length pc, .slice sa st.length sc, .int .i64 d, .int .i64 dt] w fun e w' => e = .returned (.bool true) ∧ Below w.heap.size w w' := by
  have KAW := Lib.hid (awake_yes w hm)
  obtain ⟨F, hF⟩ : ∃ F : Bool, F = true ↔ ∀ (k : Nat) (x : BndD) (y : Int), ([⟨⟨#[115, 116, 97, 103, 101, 115]⟩, 1, 15, 1⟩, ⟨⟨#[117, 112]⟩, (-1000000000000), 1000000000000, 0⟩, ⟨⟨#[100, 111, 119, 110]⟩, (-1000000000000), 1000000000000, 0⟩, ⟨⟨#[117, 112, 100, 101, 108, 97, 121]⟩, 0, 86400, 0⟩, ⟨⟨#[100, 111, 119, 110, 100, 101, 108, 97, 121]⟩, 0, 86400, 0⟩] : List BndD)[k]? = some x → ps[k]? = some y → inR x.lo y x.hi = true := by
    classical
    exact ⟨decide _, decide_eq_true_iff⟩
  have KSE := Lib.hid (fun (W : World) (hb : Below w.heap.size w W) => settle_any pa sa pc sc ps st F d dt W (hm.keep hb) (hps.keep hb) (hst.keep hb) hF)
  have HM := Lib.hid hm
  have HPS := Lib.hid hps
  have HST := Lib.hid hst
  obtain ⟨N0, hN⟩ : ∃ N, N = ps.length := ⟨_, rfl⟩
  obtain ⟨M, hM⟩ : ∃ M, M = st.length := ⟨_, rfl⟩
  have HNL := Lib.hid hN
  have HML := Lib.hid hM
  rw [← hN, ← hM] at KSE ⊢
  clear hF hm hps hst hN hM
  go_enter Tryd.func7, Tryd.ntmps7
  go_wp2_with fail
  refine KAW.out.mono ?_
  rintro e wa ⟨rfl, hb⟩
  have HB1 := Lib.hid hb
  clear hb KAW
  go_wp2_with fail
  refine (KSE.out wa HB1.out).mono ?_
  rintro e wb ⟨n, kk, E, rfl, hset, hb⟩
  have HB2 := Lib.hid (HB1.out.trans (hb.mono HB1.out.size))
  clear hb KSE
  by_cases hE0 : E = 0
  · subst hE0
    obtain ⟨L, up, dn, ud, dd, P0, T0, N, rfl, rfl, hp, hP, hT, hdt, hd, hnc, rfl, rfl, hN2, hNA, hNB⟩ := hset.2.2 rfl
    obtain rfl : N0 = 5 := HNL.out
    obtain rfl : M = 2 := HML.out
    obtain ⟨tg, htg⟩ : ∃ x, tgS L up dn d P0 = x := ⟨_, rfl⟩
    have HTG := Lib.hid htg
    have HNA := Lib.hid hNA
    have HNB := Lib.hid hNB
    have HPP := Lib.hid hp
    have HP0 := Lib.hid hP
    have HT0 := Lib.hid hT
    have HDT := Lib.hid hdt
    have HDD := Lib.hid hd
    have HNC := Lib.hid hnc
    have HUU := Lib.hid (show (0 ≤ ud ∧ ud ≤ 86400) ∧ (0 ≤ dd ∧ dd ≤ 86400) by omega)
    have htb : -15 ≤ tg ∧ tg ≤ 15 := by rw [← htg]; unfold tgS; (repeat' split) <;> omega
    rw [htg]
    obtain ⟨pb, po, rfl, hpl, hpc⟩ := (show InS w pa 5 1 (flat iL [L, up, dn, ud, dd]) from HPS.out).at (xs := [L, up, dn, ud, dd]) iL_len (by simp)
    have p0 : w.cell? ⟨pb, po, none⟩ = some (.int .i64 L) := by have h := hpc 0 _ rfl 0 _ rfl; simpa using h
    have p1 : w.cell? ⟨pb, po + 1, none⟩ = some (.int .i64 up) := by have h := hpc 1 _ rfl 0 _ rfl; simpa using h
    have p2 : w.cell? ⟨pb, po + 2, none⟩ = some (.int .i64 dn) := by have h := hpc 2 _ rfl 0 _ rfl; simpa using h
    have p3 : w.cell? ⟨pb, po + 3, none⟩ = some (.int .i64 ud) := by have h := hpc 3 _ rfl 0 _ rfl; simpa using h
    have p4 : w.cell? ⟨pb, po + 4, none⟩ = some (.int .i64 dd) := by have h := hpc 4 _ rfl 0 _ rfl; simpa using h
    obtain ⟨sb, so, rfl, hsl, hsc⟩ := (show InS w sa 2 1 (flat iL [P0, T0]) from HST.out).at (xs := [P0, T0]) iL_len (by simp)
    have s0 : w.cell? ⟨sb, so, none⟩ = some (.int .i64 P0) := by have h := hsc 0 _ rfl 0 _ rfl; simpa using h
    have HSC := Lib.hid s0
    have HPC := Lib.hid (And.intro p0 (And.intro p1 (And.intro p2 (And.intro p3 p4))))
    have q3 := cell_below p3 HB2.out
    have q4 := cell_below p4 HB2.out
    have w20 : IntKind.i64.wrap (20 * dt) = 20 * dt := IntWalk.i64_in _ (by omega)
    clear hset hp hP hT hd hnc htg hNA hNB hpl hpc p0 p1 p2 p3 p4 hsl hsc s0
    by_cases h3 : 20 * dt < ud
    · go_wp2_with fail
      go_ret
      exact ⟨rfl, HB2.out⟩
    · by_cases h4 : 20 * dt < dd
      · go_wp2_with fail
        go_ret
        exact ⟨rfl, HB2.out⟩
      · go_wp2_with fail
        go_loopw [12, 13] (fun s i wr => ∃ (k : Nat) (P T : Int) (sa' : Option Addr) (c : Nat), 1 ≤ k ∧ k ≤ 331 ∧ s = .slice sa' 2 c ∧ i = .int .i64 k ∧ Hid ((P, T) = conS L up dn ud dd d dt P0 T0 (k - 1) ∧ InS wr sa' 2 1 (flat iL [P, T]) ∧ Below w.heap.size w wr)) (fun _ i _ => 331 - (intOf i).toNat)
        case atStart => exact ⟨1, P0, T0, _, sc, by omega, by omega, rfl, rfl, Lib.hid ⟨rfl, HST.out.keep HB2.out, HB2.out⟩⟩
        case round =>
          obtain ⟨k, P, T, sa', c, hk1, hk, rfl, rfl, hH⟩ := hrel
          have HPT := Lib.hid hH.out.1
          have HNS0 := Lib.hid hH.out.2.1
          have HBR := Lib.hid hH.out.2.2
          clear hH
          by_cases hlt : k < 331
          · have k2 : (k : Int) ≤ 330 := by omega
            obtain ⟨W2, t2, hW2, ht2, R2, B2, sz2⟩ := box1 wr #[.int .i64 1, .int .i64 d] 27
            have HB3 := Lib.hid (HBR.out.trans (B2.mono HBR.out.size))
            have hbn := conS_keep L up dn ud dd d dt P0 T0 HP0.out HT0.out HUU.out.1 HUU.out.2 HDT.out (k - 1)
            rw [← HPT.out] at hbn
            simp only at hbn
            have kst := step_stage L up dn ud dd d P T dt (some ⟨pb, po, none⟩) sa' (some ⟨t2, 0, none⟩) pc c 1 W2 (HM.out.keep HB3.out) HPP.out HDD.out ⟨hbn.1, hbn.2.1⟩ ⟨hbn.2.2.1, hbn.2.2.2⟩ HDT.out (HPS.out.keep HB3.out) (HNS0.out.keep B2) (ins_val R2)
            obtain ⟨⟨P2, T2⟩, hS⟩ : ∃ x, x = stageS L up dn ud dd d dt P T := ⟨_, rfl⟩
            have HRN := Lib.hid (show (P2, T2) = conS L up dn ud dd d dt P0 T0 (k + 1 - 1) from by
              obtain ⟨j, rfl⟩ : ∃ j, k = j + 1 := ⟨k - 1, by omega⟩
              rw [hS]
              show _ = stageS L up dn ud dd d dt (conS L up dn ud dd d dt P0 T0 j).1 (conS L up dn ud dd d dt P0 T0 j).2
              have h := HPT.out
              rw [Nat.add_sub_cancel] at h
              rw [← h])
            rw [← hS] at kst
            have KST := Lib.hid kst
            clear kst hS R2 B2 sz2 hbn
            go_wp2_with fail
            rw [← hW2]
            try rw [← ht2]
            clear hW2 ht2
            refine KST.out.mono ?_
            rintro e w3 ⟨v, rfl, hown, hb⟩
            obtain ⟨g2, c2, rfl, hg2, hgc⟩ := own_cells hown (by decide)
            have HNN := Lib.hid (show InS w3 (some ⟨g2, 0, none⟩) 2 1 (flat iL [P2, T2]) from by
              obtain ⟨a9, c9, e9, i9⟩ := ins_own hown
              injection e9 with e1 e2 e3
              subst e1
              exact i9)
            have n0 : w3.cell? ⟨g2, 0, none⟩ = some (.int .i64 P2) := hgc 0 _ rfl
            have HB4 := Lib.hid (HB3.out.trans (hb.mono HB3.out.size))
            obtain ⟨W5, tb, hW5, htb, R5, B5, sz5⟩ := box1 w3 #[.int .i64 3, .int .i64 (P2 + 1)] 27
            have HBD := Lib.hid (HB4.out.trans (B5.mono HB4.out.size))
            have HNS := Lib.hid (HNN.out.keep B5)
            have HC := Lib.hid (show W5.cell? ⟨g2, 0, none⟩ = some (.int .i64 P2) from cell_below n0 B5)
            clear hown hg2 hgc n0 hb R5 B5 sz5 KST
            have hPk : P2 = (conS L up dn ud dd d dt P0 T0 k).1 := by have h := HRN.out; rw [Nat.add_sub_cancel] at h; rw [← h]
            have w1' : IntKind.i64.wrap ((N : Int) - 1) = (N : Int) - 1 := IntWalk.i64_in _ (by omega)
            by_cases hik : N ≤ k
            · have hP2 : P2 = tg := by rw [hPk, ← HTG.out]; exact con_stay L up dn ud dd d dt P0 T0 HP0.out HT0.out HUU.out.1 HUU.out.2 HDT.out HNC.out N HNA.out k hik
              have HPE := Lib.hid hP2
              have HIK := Lib.hid hik
              have HKI := Lib.hid (show ¬ ((k : Int) = (N : Int) - 1) by omega)
              clear hPk hik hP2
              go_upto_region 11 with fail
              rw [← hW5]
              try rw [← htb]
              clear hW5 htb
              have q0 := HC.out
              go_wp2_with fail
              all_goals
                first
                  | (exfalso
                     have h1 := HPE.out
                     have h2 := HIK.out
                     have h3 := HKI.out
                     omega)
                  | (go_roundw
                     case rel => exact ⟨k + 1, P2, T2, _, c2, by omega, by omega, rfl, by go_num, Lib.hid ⟨HRN.out, HNS.out, HBD.out⟩⟩
                     case measure => (simp [intOf]) <;> omega)
            · have hP2 : P2 ≠ tg := by rw [hPk, ← HTG.out]; exact HNB.out k (by omega)
              have HPE := Lib.hid hP2
              have HIK := Lib.hid hik
              by_cases hki : k = N - 1
              · have HKI := Lib.hid (show (k : Int) = (N : Int) - 1 by omega)
                clear hPk hik hP2 hki
                go_upto_region 11 with fail
                rw [← hW5]
                try rw [← htb]
                clear hW5 htb
                have q0 := HC.out
                go_wp2_with fail
                all_goals
                  first
                    | (exfalso
                       have h1 := HPE.out
                       have h2 := HIK.out
                       have h3 := HKI.out
                       omega)
                    | (go_roundw
                       case rel => exact ⟨k + 1, P2, T2, _, c2, by omega, by omega, rfl, by go_num, Lib.hid ⟨HRN.out, HNS.out, HBD.out⟩⟩
                       case measure => (simp [intOf]) <;> omega)
              · have HKI := Lib.hid (show ¬ ((k : Int) = (N : Int) - 1) by omega)
                clear hPk hik hP2 hki
                go_upto_region 11 with fail
                rw [← hW5]
                try rw [← htb]
                clear hW5 htb
                have q0 := HC.out
                go_wp2_with fail
                all_goals
                  first
                    | (exfalso
                       have h1 := HPE.out
                       have h2 := HIK.out
                       have h3 := HKI.out
                       omega)
                    | (go_roundw
                       case rel => exact ⟨k + 1, P2, T2, _, c2, by omega, by omega, rfl, by go_num, Lib.hid ⟨HRN.out, HNS.out, HBD.out⟩⟩
                       case measure => (simp [intOf]) <;> omega)
          · obtain rfl : k = 331 := by omega
            have c0 := cell_below HPC.out.1 HBR.out
            have c1 := cell_below HPC.out.2.1 HBR.out
            have c2 := cell_below HPC.out.2.2.1 HBR.out
            have s0 := cell_below HSC.out HBR.out
            clear hk
            have HTG2 := Lib.hid (show tg = if up < d then L else if d < dn then 0 else P0 from HTG.out.symm)
            by_cases h1 : up < d
            · obtain rfl : tg = L := by have h := HTG2.out; rw [if_pos h1] at h; exact h
              go_wp2_with fail
              go_ret
              exact ⟨by first | rfl | simp, HBR.out⟩
            · by_cases h2 : d < dn
              · obtain rfl : tg = 0 := by have h := HTG2.out; rw [if_neg h1, if_pos h2] at h; exact h
                go_wp2_with fail
                go_ret
                exact ⟨by first | rfl | simp, HBR.out⟩
              · obtain rfl : N = 0 := by
                  have h := HTG2.out
                  rw [if_neg h1, if_neg h2] at h
                  cases hN0 : N with
                  | zero => rfl
                  | succ j => exact absurd (show P0 = _ from by rw [HTG.out]; exact h.symm) (HNB.out 0 (by omega))
                obtain rfl : tg = P0 := by have h := HTG2.out; rw [if_neg h1, if_neg h2] at h; exact h
                go_wp2_with fail
                go_ret
                exact ⟨by first | rfl | simp, HBR.out⟩
  · have e1 : (E == 0) = false := by rw [beq_eq_false_iff_ne]; exact hE0
    have e2 : (E != 0) = true := by rw [bne, e1]; rfl
    go_wp2_with fail
    all_goals
      go_ret
      exact ⟨rfl, HB2.out⟩
end Go.Proofs.YthaigchklogjlaaDoor
