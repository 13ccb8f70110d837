/- The law Settles of sequencer. Asked: MaxLen's cell holds some number. -/
import Derived.Test.YthaigchklogjlaaDoorQu
import Derived.Test.YthaigchklogjlaaDoorQq
import Derived.Test.YthaigchklogjlaaDoorQj
namespace Go.Proofs.YthaigchklogjlaaDoor
open Go.RowKit Go.Shelf

set_option linter.unusedVariables false
set_option linter.unusedSimpArgs false
set_option maxHeartbeats 8000000 in
set_option maxRecDepth 100000 in
theorem settles_law (pa sa : Option Addr) (pc sc : Nat) (ps st : List Int) (d dt : Int) (w : World) (hm : MaxAt w) (hps : InS w pa ps.length 1 (flat iL ps)) (hst : InS w sa st.length 1 (flat iL st)) :
    Calls Tryd.prog 4 #[.slice pa ps.length pc, .slice sa st.length sc, .int .i64 d, .int .i64 dt] w fun e w' => e = .returned (.bool true) ∧ Below w.heap.size w w' := by
  have KAW := Lib.hid (awake_yes w hm)
  obtain ⟨F, hF⟩ : ∃ F : Bool, F = true ↔ ∀ (k : Nat) (x : BndD) (y : Int), ([⟨⟨#[115, 116, 97, 103, 101, 115]⟩, 1, 15, 1⟩, ⟨⟨#[117, 112]⟩, (-1000000000000), 1000000000000, 0⟩, ⟨⟨#[100, 111, 119, 110]⟩, (-1000000000000), 1000000000000, 0⟩, ⟨⟨#[117, 112, 100, 101, 108, 97, 121]⟩, 0, 86400, 0⟩, ⟨⟨#[100, 111, 119, 110, 100, 101, 108, 97, 121]⟩, 0, 86400, 0⟩] : List BndD)[k]? = some x → ps[k]? = some y → inR x.lo y x.hi = true := by
    classical
    exact ⟨decide _, decide_eq_true_iff⟩
  have KD := Lib.hid (fun (W : World) (hb : Below w.heap.size w W) => settle_any pa sa pc sc ps st F d dt W (hm.keep hb) (hps.keep hb) (hst.keep hb) hF)
  have KC := Lib.hid (fun (W : World) (hb : Below w.heap.size w W) => rcheck_stage pa pc ps F W (hps.keep hb) hF)
  have KT := Lib.hid (fun (W : World) => rTime_any dt W)
  have HPS := Lib.hid hps
  have HST := Lib.hid hst
  obtain ⟨M, hM⟩ : ∃ M, M = ps.length := ⟨_, rfl⟩
  obtain ⟨K, hK⟩ : ∃ M, M = st.length := ⟨_, rfl⟩
  obtain ⟨E, hE⟩ : ∃ x, x = begE [⟨⟨#[115, 116, 97, 103, 101, 115]⟩, 1, 15, 1⟩, ⟨⟨#[117, 112]⟩, (-1000000000000), 1000000000000, 0⟩, ⟨⟨#[100, 111, 119, 110]⟩, (-1000000000000), 1000000000000, 0⟩, ⟨⟨#[117, 112, 100, 101, 108, 97, 121]⟩, 0, 86400, 0⟩, ⟨⟨#[100, 111, 119, 110, 100, 101, 108, 97, 121]⟩, 0, 86400, 0⟩] ps F := ⟨_, rfl⟩
  obtain ⟨T, hT⟩ : ∃ x, x = inR 1 dt 86400 := ⟨_, rfl⟩
  have HML := Lib.hid hM
  have HKL := Lib.hid hK
  have HE := Lib.hid hE
  have HT := Lib.hid hT
  have m63 : M ≤ 9223372036854775807 := by rw [hM]; exact hps.2.1
  have k63 : K ≤ 9223372036854775807 := by rw [hK]; exact hst.2.1
  rw [← hM, ← hK] at KD ⊢
  rw [← hM] at KC
  rw [← hE] at KC
  rw [← hT] at KT
  clear hm hps hst hF hM hK hE hT
  by_cases hf : M ≤ 10
  · have f1 : decide (M ≤ 10) = true := decide_eq_true hf
    by_cases hg : K ≤ 10
    · have f2 : decide (K ≤ 10) = true := decide_eq_true hg
      by_cases hs : 0 < dt ∧ dt < 600
      · obtain ⟨hs1, hs2⟩ := hs
        go_enter Tryd.func4, Tryd.ntmps4
        go_wp2_with fail
        refine KAW.out.mono ?_
        rintro e wa ⟨rfl, hb⟩
        have HB1 := Lib.hid hb
        clear hb KAW
        go_wp2_with fail
        refine (few_any pa M pc wa m63).mono ?_
        rintro e w1 ⟨rfl, rfl⟩
        rw [f1]
        go_wp2_with fail
        refine (few_any sa K sc wa k63).mono ?_
        rintro e w1 ⟨rfl, rfl⟩
        rw [f2]
        go_wp2_with fail
        go_ret
        exact ⟨by first | rfl | simp, HB1.out⟩
      · by_cases hs1 : 0 < dt
        · have hs2 : ¬ dt < 600 := fun h => hs ⟨hs1, h⟩
          clear hs
          go_enter Tryd.func4, Tryd.ntmps4
          go_wp2_with fail
          refine KAW.out.mono ?_
          rintro e wa ⟨rfl, hb⟩
          have HB1 := Lib.hid hb
          clear hb KAW
          go_wp2_with fail
          refine (few_any pa M pc wa m63).mono ?_
          rintro e w1 ⟨rfl, rfl⟩
          rw [f1]
          go_wp2_with fail
          refine (few_any sa K sc wa k63).mono ?_
          rintro e w1 ⟨rfl, rfl⟩
          rw [f2]
          go_wp2_with fail
          refine (KD.out wa HB1.out).mono ?_
          rintro e wb ⟨n, k, ee, rfl, hd, hb⟩
          have HB2 := Lib.hid (HB1.out.trans (hb.mono HB1.out.size))
          clear hb KD
          go_wp2_with fail
          refine (KC.out wb HB2.out).mono ?_
          rintro e wc ⟨rfl, hb⟩
          have HB3 := Lib.hid (HB2.out.trans (hb.mono HB2.out.size))
          clear hb KC
          obtain ⟨hd1, hd2, hd3⟩ := hd
          by_cases hE0 : E = 0
          · subst hE0
            have hz := begE_zero' HE.out.symm
            obtain ⟨L, up, dn, ud, dd, rfl⟩ : ∃ a b c d e, ps = [a, b, c, d, e] := by
              match ps, hz.1 with
              | [a, b, c, d, e], _ => exact ⟨a, b, c, d, e, rfl⟩
            obtain rfl : M = 5 := HML.out
            obtain ⟨pb, po, rfl, hpl, hpc⟩ := (show InS w pa 5 1 (flat iL [L, up, dn, ud, dd]) from HPS.out).at (xs := [L, up, dn, ud, dd]) iL_len (by simp)
            have p0 : w.cell? ⟨pb, po, none⟩ = some (.int .i64 L) := by have h := hpc 0 _ rfl 0 _ rfl; simpa using h
            have p1 : w.cell? ⟨pb, po + 1, none⟩ = some (.int .i64 up) := by have h := hpc 1 _ rfl 0 _ rfl; simpa using h
            have p2 : w.cell? ⟨pb, po + 2, none⟩ = some (.int .i64 dn) := by have h := hpc 2 _ rfl 0 _ rfl; simpa using h
            have p3 : w.cell? ⟨pb, po + 3, none⟩ = some (.int .i64 ud) := by have h := hpc 3 _ rfl 0 _ rfl; simpa using h
            have p4 : w.cell? ⟨pb, po + 4, none⟩ = some (.int .i64 dd) := by have h := hpc 4 _ rfl 0 _ rfl; simpa using h
            have HPC := Lib.hid (And.intro p0 (And.intro p1 (And.intro p2 (And.intro p3 p4))))
            have KS := Lib.hid (fun (W : World) (hb : Below w.heap.size w W) => rstate_stage pb po 5 pc (by decide) L sa sc st W (cell_below p0 hb) (HST.out.keep hb))
            rw [← HKL.out] at KS
            obtain ⟨RB, hRB⟩ : ∃ x, x = resB (-6311433599) L st := ⟨_, rfl⟩
            rw [← hRB] at KS
            have HRB := Lib.hid hRB
            clear hz hpl hpc p0 p1 p2 p3 p4 hRB
            cases T
            · have he : ee = 1 := by rw [hd1]; unfold setE; rw [if_neg (by rw [← HE.out]; decide), if_pos HT.out.symm]
              obtain rfl := he
              obtain ⟨rfl, rfl⟩ : n = 0 ∧ k = 0 := hd2 (by decide)
              clear hd1 hd2 hd3
              go_wp2_with fail
              refine (KT.out wc).mono ?_
              rintro e w4 ⟨rfl, rfl⟩
              go_wp2_with fail
              go_ret
              exact ⟨by first | rfl | simp, HB3.out⟩
            · cases RB
              · have he : ee = 8 := by rw [hd1]; unfold setE; rw [if_neg (by rw [← HE.out]; decide), if_neg (by rw [← HT.out]; decide), if_pos (show resE (-6311433599) ([L, up, dn, ud, dd].getD 0 0) st ≠ 0 by show resE (-6311433599) L st ≠ 0; unfold resE; rw [← HRB.out]; decide)]
                obtain rfl := he
                obtain ⟨rfl, rfl⟩ : n = 0 ∧ k = 0 := hd2 (by decide)
                clear hd1 hd2 hd3
                go_wp2_with fail
                refine (KT.out wc).mono ?_
                rintro e w4 ⟨rfl, rfl⟩
                go_wp2_with fail
                refine (KS.out wc HB3.out).mono ?_
                rintro e wd ⟨rfl, hb⟩
                have HB4 := Lib.hid (HB3.out.trans (hb.mono HB3.out.size))
                clear hb KS
                go_wp2_with fail
                go_ret
                exact ⟨by first | rfl | simp, HB4.out⟩
              · by_cases hlo : d < -1000000000000
                · have he : ee = 6 := by rw [hd1]; unfold setE; rw [if_neg (by rw [← HE.out]; decide), if_neg (by rw [← HT.out]; decide), if_neg (show ¬ resE (-6311433599) ([L, up, dn, ud, dd].getD 0 0) st ≠ 0 by show ¬ resE (-6311433599) L st ≠ 0; unfold resE; rw [← HRB.out]; decide), if_pos (show inR (-1000000000000) d 1000000000000 = false from inR_no (by omega))]
                  obtain rfl := he
                  obtain ⟨rfl, rfl⟩ : n = 0 ∧ k = 0 := hd2 (by decide)
                  clear hd1 hd2 hd3
                  go_wp2_with fail
                  refine (KT.out wc).mono ?_
                  rintro e w4 ⟨rfl, rfl⟩
                  go_wp2_with fail
                  refine (KS.out wc HB3.out).mono ?_
                  rintro e wd ⟨rfl, hb⟩
                  have HB4 := Lib.hid (HB3.out.trans (hb.mono HB3.out.size))
                  clear hb KS
                  go_wp2_with fail
                  go_ret
                  exact ⟨by first | rfl | simp, HB4.out⟩
                · by_cases hhi : 1000000000000 < d
                  · have he : ee = 6 := by rw [hd1]; unfold setE; rw [if_neg (by rw [← HE.out]; decide), if_neg (by rw [← HT.out]; decide), if_neg (show ¬ resE (-6311433599) ([L, up, dn, ud, dd].getD 0 0) st ≠ 0 by show ¬ resE (-6311433599) L st ≠ 0; unfold resE; rw [← HRB.out]; decide), if_pos (show inR (-1000000000000) d 1000000000000 = false from inR_no (by omega))]
                    obtain rfl := he
                    obtain ⟨rfl, rfl⟩ : n = 0 ∧ k = 0 := hd2 (by decide)
                    clear hd1 hd2 hd3
                    go_wp2_with fail
                    refine (KT.out wc).mono ?_
                    rintro e w4 ⟨rfl, rfl⟩
                    go_wp2_with fail
                    refine (KS.out wc HB3.out).mono ?_
                    rintro e wd ⟨rfl, hb⟩
                    have HB4 := Lib.hid (HB3.out.trans (hb.mono HB3.out.size))
                    clear hb KS
                    go_wp2_with fail
                    go_ret
                    exact ⟨by first | rfl | simp, HB4.out⟩
                  · by_cases hcf : up < d ∧ d < dn
                    · have he : ee = 10 := by rw [hd1]; unfold setE; rw [if_neg (by rw [← HE.out]; decide), if_neg (by rw [← HT.out]; decide), if_neg (show ¬ resE (-6311433599) ([L, up, dn, ud, dd].getD 0 0) st ≠ 0 by show ¬ resE (-6311433599) L st ≠ 0; unfold resE; rw [← HRB.out]; decide), if_neg (show ¬ inR (-1000000000000) d 1000000000000 = false by rw [inR_yes (by omega) (by omega)]; decide), if_pos (show [L, up, dn, ud, dd].getD 1 0 < d ∧ d < [L, up, dn, ud, dd].getD 2 0 from hcf)]
                      obtain rfl := he
                      obtain ⟨rfl, rfl⟩ : n = 0 ∧ k = 0 := hd2 (by decide)
                      clear hd1 hd2 hd3
                      obtain ⟨hc1, hc2⟩ := hcf
                      go_wp2_with fail
                      refine (KT.out wc).mono ?_
                      rintro e w4 ⟨rfl, rfl⟩
                      go_wp2_with fail
                      refine (KS.out wc HB3.out).mono ?_
                      rintro e wd ⟨rfl, hb⟩
                      have HB4 := Lib.hid (HB3.out.trans (hb.mono HB3.out.size))
                      clear hb KS
                      have c1 := cell_below HPC.out.2.1 HB4.out
                      have c2 := cell_below HPC.out.2.2.1 HB4.out
                      go_wp2_with fail
                      go_ret
                      exact ⟨by first | rfl | simp, HB4.out⟩
                    · have he : ee = 0 := by rw [hd1]; unfold setE; rw [if_neg (by rw [← HE.out]; decide), if_neg (by rw [← HT.out]; decide), if_neg (show ¬ resE (-6311433599) ([L, up, dn, ud, dd].getD 0 0) st ≠ 0 by show ¬ resE (-6311433599) L st ≠ 0; unfold resE; rw [← HRB.out]; decide), if_neg (show ¬ inR (-1000000000000) d 1000000000000 = false by rw [inR_yes (by omega) (by omega)]; decide), if_neg (show ¬ ([L, up, dn, ud, dd].getD 1 0 < d ∧ d < [L, up, dn, ud, dd].getD 2 0) from hcf)]
                      obtain rfl := he
                      obtain ⟨L', up', dn', ud', dd', P, T, N, hps2, hst2, hp, hP, hT', hdt, hd', hc, rfl, rfl, hN2, hN, hne⟩ := hd3 rfl
                      obtain ⟨rfl, rfl, rfl, rfl, rfl⟩ : L' = L ∧ up' = up ∧ dn' = dn ∧ ud' = ud ∧ dd' = dd := by
                        injection hps2 with a1 hps2
                        injection hps2 with a2 hps2
                        injection hps2 with a3 hps2
                        injection hps2 with a4 hps2
                        injection hps2 with a5 hps2
                        exact ⟨a1.symm, a2.symm, a3.symm, a4.symm, a5.symm⟩
                      subst hst2
                      obtain rfl : K = 2 := HKL.out
                      obtain ⟨sb, so, rfl, hsl, hsc⟩ := (show InS w sa 2 1 (flat iL [P, T]) from HST.out).at (xs := [P, T]) iL_len (by simp)
                      have s0 : w.cell? ⟨sb, so, none⟩ = some (.int .i64 P) := by have h := hsc 0 _ rfl 0 _ rfl; simpa using h
                      have s1 : w.cell? ⟨sb, so + 1, none⟩ = some (.int .i64 T) := by have h := hsc 1 _ rfl 0 _ rfl; simpa using h
                      have KR := Lib.hid (fun (W : World) (hb : Below w.heap.size w W) => rsettle_any L' up' dn' ud' dd' d dt P T N pb po pc sb so sc W hp hP hT' hdt hc hN hne (cell_below HPC.out.1 hb) (cell_below HPC.out.2.1 hb) (cell_below HPC.out.2.2.1 hb) (cell_below HPC.out.2.2.2.1 hb) (cell_below HPC.out.2.2.2.2 hb) (cell_below s0 hb) (cell_below s1 hb))
                      obtain ⟨tg, htg⟩ : ∃ x, x = tgS L' up' dn' d P := ⟨_, rfl⟩
                      rw [← htg] at KR
                      have htb : -15 ≤ tg ∧ tg ≤ 15 := by rw [htg]; unfold tgS; (repeat' split) <;> omega
                      rw [← htg]
                      have hcN : ¬ (up' < d ∧ d < dn') := hc
                      clear hd1 hd2 hd3 hps2 hsl hsc s0 s1 htg hN hne
                      by_cases hu1 : up' < d
                      · have hu2 : ¬ d < dn' := fun h => hcN ⟨hu1, h⟩
                        clear hcN
                        go_wp2_with fail
                        refine (KT.out wc).mono ?_
                        rintro e w4 ⟨rfl, rfl⟩
                        go_wp2_with fail
                        refine (KS.out wc HB3.out).mono ?_
                        rintro e wd ⟨rfl, hb⟩
                        have HB4 := Lib.hid (HB3.out.trans (hb.mono HB3.out.size))
                        clear hb KS
                        have c1 := cell_below HPC.out.2.1 HB4.out
                        have c2 := cell_below HPC.out.2.2.1 HB4.out
                        go_wp2_with fail
                        refine (KR.out wd HB4.out).mono ?_
                        rintro e we ⟨rfl, hb⟩
                        have HB5 := Lib.hid (HB4.out.trans (hb.mono HB4.out.size))
                        clear hb
                        go_wp2_with fail
                        go_ret
                        exact ⟨by first | rfl | simp, HB5.out⟩
                      · clear hcN
                        go_wp2_with fail
                        refine (KT.out wc).mono ?_
                        rintro e w4 ⟨rfl, rfl⟩
                        go_wp2_with fail
                        refine (KS.out wc HB3.out).mono ?_
                        rintro e wd ⟨rfl, hb⟩
                        have HB4 := Lib.hid (HB3.out.trans (hb.mono HB3.out.size))
                        clear hb KS
                        have c1 := cell_below HPC.out.2.1 HB4.out
                        have c2 := cell_below HPC.out.2.2.1 HB4.out
                        go_wp2_with fail
                        refine (KR.out wd HB4.out).mono ?_
                        rintro e we ⟨rfl, hb⟩
                        have HB5 := Lib.hid (HB4.out.trans (hb.mono HB4.out.size))
                        clear hb
                        go_wp2_with fail
                        go_ret
                        exact ⟨by first | rfl | simp, HB5.out⟩
          · have e1 : (E == 0) = false := by rw [beq_eq_false_iff_ne]; exact hE0
            have e2 : (E != 0) = true := by rw [bne, e1]; rfl
            obtain rfl : ee = E := by rw [hd1]; unfold setE; rw [if_pos (by rw [← HE.out]; exact hE0)]; exact HE.out.symm
            obtain ⟨rfl, rfl⟩ : n = 0 ∧ k = 0 := hd2 hE0
            clear hd1 hd2 hd3
            go_wp2_with fail
            go_ret
            exact ⟨by first | rfl | simp, HB3.out⟩
        · clear hs
          go_enter Tryd.func4, Tryd.ntmps4
          go_wp2_with fail
          refine KAW.out.mono ?_
          rintro e wa ⟨rfl, hb⟩
          have HB1 := Lib.hid hb
          clear hb KAW
          go_wp2_with fail
          refine (few_any pa M pc wa m63).mono ?_
          rintro e w1 ⟨rfl, rfl⟩
          rw [f1]
          go_wp2_with fail
          refine (few_any sa K sc wa k63).mono ?_
          rintro e w1 ⟨rfl, rfl⟩
          rw [f2]
          go_wp2_with fail
          refine (KD.out wa HB1.out).mono ?_
          rintro e wb ⟨n, k, ee, rfl, hd, hb⟩
          have HB2 := Lib.hid (HB1.out.trans (hb.mono HB1.out.size))
          clear hb KD
          go_wp2_with fail
          refine (KC.out wb HB2.out).mono ?_
          rintro e wc ⟨rfl, hb⟩
          have HB3 := Lib.hid (HB2.out.trans (hb.mono HB2.out.size))
          clear hb KC
          obtain ⟨hd1, hd2, hd3⟩ := hd
          by_cases hE0 : E = 0
          · subst hE0
            have hz := begE_zero' HE.out.symm
            obtain ⟨L, up, dn, ud, dd, rfl⟩ : ∃ a b c d e, ps = [a, b, c, d, e] := by
              match ps, hz.1 with
              | [a, b, c, d, e], _ => exact ⟨a, b, c, d, e, rfl⟩
            obtain rfl : M = 5 := HML.out
            obtain ⟨pb, po, rfl, hpl, hpc⟩ := (show InS w pa 5 1 (flat iL [L, up, dn, ud, dd]) from HPS.out).at (xs := [L, up, dn, ud, dd]) iL_len (by simp)
            have p0 : w.cell? ⟨pb, po, none⟩ = some (.int .i64 L) := by have h := hpc 0 _ rfl 0 _ rfl; simpa using h
            have p1 : w.cell? ⟨pb, po + 1, none⟩ = some (.int .i64 up) := by have h := hpc 1 _ rfl 0 _ rfl; simpa using h
            have p2 : w.cell? ⟨pb, po + 2, none⟩ = some (.int .i64 dn) := by have h := hpc 2 _ rfl 0 _ rfl; simpa using h
            have p3 : w.cell? ⟨pb, po + 3, none⟩ = some (.int .i64 ud) := by have h := hpc 3 _ rfl 0 _ rfl; simpa using h
            have p4 : w.cell? ⟨pb, po + 4, none⟩ = some (.int .i64 dd) := by have h := hpc 4 _ rfl 0 _ rfl; simpa using h
            have HPC := Lib.hid (And.intro p0 (And.intro p1 (And.intro p2 (And.intro p3 p4))))
            have KS := Lib.hid (fun (W : World) (hb : Below w.heap.size w W) => rstate_stage pb po 5 pc (by decide) L sa sc st W (cell_below p0 hb) (HST.out.keep hb))
            rw [← HKL.out] at KS
            obtain ⟨RB, hRB⟩ : ∃ x, x = resB (-6311433599) L st := ⟨_, rfl⟩
            rw [← hRB] at KS
            have HRB := Lib.hid hRB
            clear hz hpl hpc p0 p1 p2 p3 p4 hRB
            cases T
            · have he : ee = 1 := by rw [hd1]; unfold setE; rw [if_neg (by rw [← HE.out]; decide), if_pos HT.out.symm]
              obtain rfl := he
              obtain ⟨rfl, rfl⟩ : n = 0 ∧ k = 0 := hd2 (by decide)
              clear hd1 hd2 hd3
              go_wp2_with fail
              refine (KT.out wc).mono ?_
              rintro e w4 ⟨rfl, rfl⟩
              go_wp2_with fail
              go_ret
              exact ⟨by first | rfl | simp, HB3.out⟩
            · exact absurd HT.out (by rw [inR_no (by omega)]; decide)
          · have e1 : (E == 0) = false := by rw [beq_eq_false_iff_ne]; exact hE0
            have e2 : (E != 0) = true := by rw [bne, e1]; rfl
            obtain rfl : ee = E := by rw [hd1]; unfold setE; rw [if_pos (by rw [← HE.out]; exact hE0)]; exact HE.out.symm
            obtain ⟨rfl, rfl⟩ : n = 0 ∧ k = 0 := hd2 hE0
            clear hd1 hd2 hd3
            go_wp2_with fail
            go_ret
            exact ⟨by first | rfl | simp, HB3.out⟩
    · have f2 : decide (K ≤ 10) = false := decide_eq_false hg
      go_enter Tryd.func4, Tryd.ntmps4
      go_wp2_with fail
      refine KAW.out.mono ?_
      rintro e wa ⟨rfl, hb⟩
      have HB1 := Lib.hid hb
      clear hb KAW
      go_wp2_with fail
      refine (few_any pa M pc wa m63).mono ?_
      rintro e w1 ⟨rfl, rfl⟩
      rw [f1]
      go_wp2_with fail
      refine (few_any sa K sc wa k63).mono ?_
      rintro e w1 ⟨rfl, rfl⟩
      rw [f2]
      go_wp2_with fail
      go_ret
      exact ⟨by first | rfl | simp, HB1.out⟩
  · have f1 : decide (M ≤ 10) = false := decide_eq_false hf
    go_enter Tryd.func4, Tryd.ntmps4
    go_wp2_with fail
    refine KAW.out.mono ?_
    rintro e wa ⟨rfl, hb⟩
    have HB1 := Lib.hid hb
    clear hb KAW
    go_wp2_with fail
    refine (few_any pa M pc wa m63).mono ?_
    rintro e w1 ⟨rfl, rfl⟩
    rw [f1]
    go_wp2_with fail
    go_ret
    exact ⟨by first | rfl | simp, HB1.out⟩
end Go.Proofs.YthaigchklogjlaaDoor
