/- The law Lasts of sequencer. Asked: MaxLen's cell holds some number. -/
import Derived.Test.YthaigchklogjlaaDoorQt
import Derived.Test.YthaigchklogjlaaDoorQj
namespace Go.Proofs.YthaigchklogjlaaDoor
open Go.RowKit Go.Shelf

set_option linter.unusedVariables false
set_option linter.unusedSimpArgs false
set_option maxHeartbeats 8000000 in
set_option maxRecDepth 100000 in
theorem lasts_law (pa : Option Addr) (pc : Nat) (ps : List Int) (dt : Int) (w : World) (hm : MaxAt w) (hps : InS w pa ps.length 1 (flat iL ps)) :
    Calls Tryd.prog 5 #[.slice pa ps.length pc, .int .i64 dt] w fun e w' => e = .returned (.bool true) ∧ Below w.heap.size w w' := by
  have KAW := Lib.hid (awake_yes w hm)
  obtain ⟨F, hF⟩ : ∃ F : Bool, F = true ↔ ∀ (k : Nat) (x : BndD) (y : Int), ([⟨⟨#[99, 111, 117, 110, 116]⟩, 1, 15, 1⟩, ⟨⟨#[108, 101, 97, 115, 116]⟩, 0, 86400, 0⟩] : List BndD)[k]? = some x → ps[k]? = some y → inR x.lo y x.hi = true := by
    classical
    exact ⟨decide _, decide_eq_true_iff⟩
  have KD := Lib.hid (fun (W : World) (hb : Below w.heap.size w W) => duration_any pa pc ps F dt W (hm.keep hb) (hps.keep hb) hF)
  have KC := Lib.hid (fun (W : World) (hb : Below w.heap.size w W) => rcheck_steps pa pc ps F W (hps.keep hb) hF)
  have KT := Lib.hid (fun (W : World) => rTime_any dt W)
  have HPS := Lib.hid hps
  obtain ⟨M, hM⟩ : ∃ M, M = ps.length := ⟨_, rfl⟩
  obtain ⟨E, hE⟩ : ∃ x, x = begE [⟨⟨#[99, 111, 117, 110, 116]⟩, 1, 15, 1⟩, ⟨⟨#[108, 101, 97, 115, 116]⟩, 0, 86400, 0⟩] ps F := ⟨_, rfl⟩
  obtain ⟨T, hT⟩ : ∃ x, x = inR 1 dt 86400 := ⟨_, rfl⟩
  have HML := Lib.hid hM
  have HE := Lib.hid hE
  have HT := Lib.hid hT
  have m63 : M ≤ 9223372036854775807 := by rw [hM]; exact hps.2.1
  rw [← hM] at KD KC ⊢
  rw [← hE] at KC
  rw [← hT] at KT
  clear hm hps hF hM hE hT
  by_cases hf : M ≤ 10
  · have f1 : decide (M ≤ 10) = true := decide_eq_true hf
    by_cases hs : 0 < dt ∧ dt < 600
    · obtain ⟨hs1, hs2⟩ := hs
      go_enter Tryd.func5, Tryd.ntmps5
      go_wp2_with fail
      refine KAW.out.mono ?_
      rintro e wa ⟨rfl, hb⟩
      have HB1 := Lib.hid hb
      clear hb KAW
      go_wp2_with fail
      refine (few_any pa M pc wa m63).mono ?_
      rintro e w1 ⟨rfl, rfl⟩
      rw [f1]
      go_wp2_with fail
      go_ret
      exact ⟨by first | rfl | simp, HB1.out⟩
    · by_cases hs1 : 0 < dt
      · have hs2 : ¬ dt < 600 := fun h => hs ⟨hs1, h⟩
        clear hs
        go_enter Tryd.func5, Tryd.ntmps5
        go_wp2_with fail
        refine KAW.out.mono ?_
        rintro e wa ⟨rfl, hb⟩
        have HB1 := Lib.hid hb
        clear hb KAW
        go_wp2_with fail
        refine (few_any pa M pc wa m63).mono ?_
        rintro e w1 ⟨rfl, rfl⟩
        rw [f1]
        go_wp2_with fail
        refine (KD.out wa HB1.out).mono ?_
        rintro e wb ⟨n, ee, rfl, hd, hb⟩
        have HB2 := Lib.hid (HB1.out.trans (hb.mono HB1.out.size))
        clear hb KD
        go_wp2_with fail
        refine (KC.out wb HB2.out).mono ?_
        rintro e wc ⟨rfl, hb⟩
        have HB3 := Lib.hid (HB2.out.trans (hb.mono HB2.out.size))
        clear hb KC
        obtain ⟨hd1, hd2, hd3⟩ := hd
        by_cases hE0 : E = 0
        · subst hE0
          cases T
          · have he : ee = 1 := by rw [hd1]; unfold durE; rw [if_neg (by rw [← HE.out]; decide), if_pos HT.out.symm]
            obtain rfl := he
            obtain rfl : n = 0 := hd2 (by decide)
            clear hd1 hd2 hd3
            go_wp2_with fail
            refine (KT.out wc).mono ?_
            rintro e w4 ⟨rfl, rfl⟩
            go_wp2_with fail
            go_ret
            exact ⟨by first | rfl | simp, HB3.out⟩
          · have he : ee = 0 := by rw [hd1]; unfold durE; rw [if_neg (by rw [← HE.out]; decide), if_neg (by rw [← HT.out]; decide)]
            obtain rfl := he
            obtain ⟨L, least, N, rfl, hL, hl, hdt, rfl, hN2, hN, hne⟩ := hd3 rfl
            obtain rfl : M = 2 := HML.out
            obtain ⟨pb, po, rfl, hpl, hpc⟩ := (show InS w pa 2 1 (flat iL [L, least]) from HPS.out).at (xs := [L, least]) iL_len (by simp)
            have p0 : w.cell? ⟨pb, po, none⟩ = some (.int .i64 L) := by have h := hpc 0 _ rfl 0 _ rfl; simpa using h
            have p1 : w.cell? ⟨pb, po + 1, none⟩ = some (.int .i64 least) := by have h := hpc 1 _ rfl 0 _ rfl; simpa using h
            have KR := Lib.hid (fun (W : World) (hb : Below w.heap.size w W) => rduration_any L least dt N pb po pc W hL hdt hN2 hN hne (cell_below p0 hb) (cell_below p1 hb))
            clear hd1 hd2 hd3 hpl hpc p0 p1 hN hne
            go_wp2_with fail
            refine (KT.out wc).mono ?_
            rintro e w4 ⟨rfl, rfl⟩
            go_wp2_with fail
            refine (KR.out wc HB3.out).mono ?_
            rintro e w4 ⟨rfl, hb⟩
            have HB4 := Lib.hid (HB3.out.trans (hb.mono HB3.out.size))
            clear hb
            go_wp2_with fail
            go_ret
            exact ⟨by first | rfl | simp, HB4.out⟩
        · have e1 : (E == 0) = false := by rw [beq_eq_false_iff_ne]; exact hE0
          have e2 : (E != 0) = true := by rw [bne, e1]; rfl
          obtain rfl : ee = E := by rw [hd1]; unfold durE; rw [if_pos (by rw [← HE.out]; exact hE0)]; exact HE.out.symm
          obtain rfl : n = 0 := hd2 hE0
          clear hd1 hd2 hd3
          go_wp2_with fail
          go_ret
          exact ⟨by first | rfl | simp, HB3.out⟩
      · clear hs
        go_enter Tryd.func5, Tryd.ntmps5
        go_wp2_with fail
        refine KAW.out.mono ?_
        rintro e wa ⟨rfl, hb⟩
        have HB1 := Lib.hid hb
        clear hb KAW
        go_wp2_with fail
        refine (few_any pa M pc wa m63).mono ?_
        rintro e w1 ⟨rfl, rfl⟩
        rw [f1]
        go_wp2_with fail
        refine (KD.out wa HB1.out).mono ?_
        rintro e wb ⟨n, ee, rfl, hd, hb⟩
        have HB2 := Lib.hid (HB1.out.trans (hb.mono HB1.out.size))
        clear hb KD
        go_wp2_with fail
        refine (KC.out wb HB2.out).mono ?_
        rintro e wc ⟨rfl, hb⟩
        have HB3 := Lib.hid (HB2.out.trans (hb.mono HB2.out.size))
        clear hb KC
        obtain ⟨hd1, hd2, hd3⟩ := hd
        by_cases hE0 : E = 0
        · subst hE0
          cases T
          · have he : ee = 1 := by rw [hd1]; unfold durE; rw [if_neg (by rw [← HE.out]; decide), if_pos HT.out.symm]
            obtain rfl := he
            obtain rfl : n = 0 := hd2 (by decide)
            clear hd1 hd2 hd3
            go_wp2_with fail
            refine (KT.out wc).mono ?_
            rintro e w4 ⟨rfl, rfl⟩
            go_wp2_with fail
            go_ret
            exact ⟨by first | rfl | simp, HB3.out⟩
          · have he : ee = 0 := by rw [hd1]; unfold durE; rw [if_neg (by rw [← HE.out]; decide), if_neg (by rw [← HT.out]; decide)]
            obtain rfl := he
            obtain ⟨L, least, N, rfl, hL, hl, hdt, rfl, hN2, hN, hne⟩ := hd3 rfl
            obtain rfl : M = 2 := HML.out
            obtain ⟨pb, po, rfl, hpl, hpc⟩ := (show InS w pa 2 1 (flat iL [L, least]) from HPS.out).at (xs := [L, least]) iL_len (by simp)
            have p0 : w.cell? ⟨pb, po, none⟩ = some (.int .i64 L) := by have h := hpc 0 _ rfl 0 _ rfl; simpa using h
            have p1 : w.cell? ⟨pb, po + 1, none⟩ = some (.int .i64 least) := by have h := hpc 1 _ rfl 0 _ rfl; simpa using h
            have KR := Lib.hid (fun (W : World) (hb : Below w.heap.size w W) => rduration_any L least dt N pb po pc W hL hdt hN2 hN hne (cell_below p0 hb) (cell_below p1 hb))
            clear hd1 hd2 hd3 hpl hpc p0 p1 hN hne
            go_wp2_with fail
            refine (KT.out wc).mono ?_
            rintro e w4 ⟨rfl, rfl⟩
            go_wp2_with fail
            refine (KR.out wc HB3.out).mono ?_
            rintro e w4 ⟨rfl, hb⟩
            have HB4 := Lib.hid (HB3.out.trans (hb.mono HB3.out.size))
            clear hb
            go_wp2_with fail
            go_ret
            exact ⟨by first | rfl | simp, HB4.out⟩
        · have e1 : (E == 0) = false := by rw [beq_eq_false_iff_ne]; exact hE0
          have e2 : (E != 0) = true := by rw [bne, e1]; rfl
          obtain rfl : ee = E := by rw [hd1]; unfold durE; rw [if_pos (by rw [← HE.out]; exact hE0)]; exact HE.out.symm
          obtain rfl : n = 0 := hd2 hE0
          clear hd1 hd2 hd3
          go_wp2_with fail
          go_ret
          exact ⟨by first | rfl | simp, HB3.out⟩
  · have f1 : decide (M ≤ 10) = false := decide_eq_false hf
    go_enter Tryd.func5, Tryd.ntmps5
    go_wp2_with fail
    refine KAW.out.mono ?_
    rintro e wa ⟨rfl, hb⟩
    have HB1 := Lib.hid hb
    clear hb KAW
    go_wp2_with fail
    refine (few_any pa M pc wa m63).mono ?_
    rintro e w1 ⟨rfl, rfl⟩
    rw [f1]
    go_wp2_with fail
    go_ret
    exact ⟨by first | rfl | simp, HB1.out⟩
end Go.Proofs.YthaigchklogjlaaDoor
