/- The law Steps of sequencer. Asked: MaxLen's cell holds some number. -/
import Derived.Test.YthaigchklogjlaaDoorQw
import Derived.Test.YthaigchklogjlaaDoorQj
namespace Go.Proofs.YthaigchklogjlaaDoor
open Go.RowKit Go.Shelf

set_option linter.unusedVariables false
set_option linter.unusedSimpArgs false
theorem stpA_keep {w w' : World} {E : Int} {S : Int × Int} {v : Value} {k n : Int} (h : StpA w E S v k n) (hb : Below w.heap.size w w') : StpA w' E S v k n := by
  refine ⟨h.1, fun he => ?_⟩
  obtain ⟨h1, h2, a, c, h3, h4⟩ := h.2 he
  exact ⟨h1, h2, a, c, h3, h4.keep hb⟩
theorem stpA_eq {w : World} {E : Int} {S : Int × Int} {v v' : Value} {k n k' n' : Int} (h : StpA w E S v k n) (h' : StpA w E S v' k' n') : k = k' ∧ n = n' ∧ (∃ a m c, v = .slice a m c) ∧ (∃ a m c, v' = .slice a m c) := by
  by_cases he : E = 0
  · obtain ⟨h1, h2, a, c, h3, h4⟩ := h.2 he
    obtain ⟨g1, g2, b, d, g3, g4⟩ := h'.2 he
    exact ⟨by rw [h1, g1], by rw [h2, g2], ⟨a, 2, c, h3⟩, ⟨b, 2, d, g3⟩⟩
  · obtain ⟨h1, h2, h3⟩ := h.1 he
    obtain ⟨g1, g2, g3⟩ := h'.1 he
    exact ⟨by rw [h2, g2], by rw [h3, g3], ⟨_, _, _, h1⟩, ⟨_, _, _, g1⟩⟩
theorem stpA_same {w : World} {E : Int} {S : Int × Int} {v v' : Value} {k n k' n' : Int} (h : StpA w E S v k n) (h' : StpA w E S v' k' n') : Calls Tryd.prog 13 #[v, v'] w fun e w' => e = .returned (.bool true) ∧ Below w.heap.size w w' := by
  by_cases he : E = 0
  · obtain ⟨h1, h2, a, c, rfl, h4⟩ := h.2 he
    obtain ⟨g1, g2, b, d, rfl, g4⟩ := h'.2 he
    exact same_yes a b c d [S.1, S.2] w h4 g4
  · obtain ⟨rfl, h2, h3⟩ := h.1 he
    obtain ⟨rfl, g2, g3⟩ := h'.1 he
    exact same_yes none none 0 0 [] w ⟨rfl, by decide, .inl rfl⟩ ⟨rfl, by decide, .inl rfl⟩
set_option maxHeartbeats 8000000 in
set_option maxRecDepth 100000 in
theorem steps_core (s : ByteArray) (pa sa va : Option Addr) (pc sc vc M K V : Nat) (dt : Int) (E CE : Int) (S : Int × Int) (w : World) (hm : MaxAt w) (m63 : M ≤ 9223372036854775807) (k63 : K ≤ 9223372036854775807) (v63 : V ≤ 9223372036854775807)
    (K1 : Hid (∀ W, Below w.heap.size w W → Calls Tryd.prog 11 #[.string s, .slice pa M pc, .slice sa K sc, .slice va V vc, .int .i64 dt] W fun e w' => ∃ v k n, e = .returned (.tuple #[v, .agg #[.int .i64 k, .int .i64 n], .int .i64 E]) ∧ StpA w' E S v k n ∧ Below W.heap.size W w'))
    (K2 : Hid (∀ W, Below w.heap.size w W → Calls Tryd.prog 12 #[.string s, .slice pa M pc, .slice sa K sc, .slice va V vc, .int .i64 dt] W fun e w' => ∃ v k n, e = .returned (.tuple #[v, .agg #[.int .i64 k, .int .i64 n], .int .i64 E]) ∧ StpA w' E S v k n ∧ Below W.heap.size W w'))
    (K3 : Hid (∀ W, Below w.heap.size w W → Calls Tryd.prog 14 #[.string s, .slice pa M pc] W fun e w' => e = .returned (.int .i64 CE) ∧ Below W.heap.size W w'))
    (K4 : Hid (∀ W, Below w.heap.size w W → Calls Tryd.prog 15 #[.string s, .slice pa M pc] W fun e w' => e = .returned (.int .i64 CE) ∧ Below W.heap.size W w')) :
    Calls Tryd.prog 3 #[.string s, .slice pa M pc, .slice sa K sc, .slice va V vc, .int .i64 dt] w fun e w' => e = .returned (.bool true) ∧ Below w.heap.size w w' := by
  have KAW := Lib.hid (awake_yes w hm)
  clear hm
  by_cases hf : M ≤ 10
  · have f1 : decide (M ≤ 10) = true := decide_eq_true hf
    by_cases hg : K ≤ 10
    · have f2 : decide (K ≤ 10) = true := decide_eq_true hg
      by_cases hv : 10 < V
      · have hv2 : (10 : Int) < (V : Int) := by omega
        clear hv
        go_enter Tryd.func3, Tryd.ntmps3
        go_wp2_with fail
        refine KAW.out.mono ?_
        rintro e wa ⟨rfl, hb⟩
        have HB1 := Lib.hid hb
        clear hb KAW
        go_wp2_with fail
        refine (few_any pa M pc wa m63).mono ?_
        rintro e w1 ⟨rfl, rfl⟩
        rw [f1]
        go_wp2_with fail
        refine (few_any sa K sc wa k63).mono ?_
        rintro e w1 ⟨rfl, rfl⟩
        rw [f2]
        go_wp2_with fail
        go_ret
        exact ⟨by first | rfl | simp, HB1.out⟩
      · have hv2 : ¬ (10 : Int) < (V : Int) := by omega
        clear hv
        go_enter Tryd.func3, Tryd.ntmps3
        go_wp2_with fail
        refine KAW.out.mono ?_
        rintro e wa ⟨rfl, hb⟩
        have HB1 := Lib.hid hb
        clear hb KAW
        go_wp2_with fail
        refine (few_any pa M pc wa m63).mono ?_
        rintro e w1 ⟨rfl, rfl⟩
        rw [f1]
        go_wp2_with fail
        refine (few_any sa K sc wa k63).mono ?_
        rintro e w1 ⟨rfl, rfl⟩
        rw [f2]
        go_wp2_with fail
        refine (K1.out wa HB1.out).mono ?_
        rintro e wb ⟨v, k, n, rfl, hA, hb⟩
        have HB2 := Lib.hid (HB1.out.trans (hb.mono HB1.out.size))
        clear hb
        obtain ⟨W3, t1, hW3, ht1, R3, B3, sz3⟩ := box1 wb #[.int .i64 k, .int .i64 n] 27
        have HR3 := Lib.hid R3
        have HB3 := Lib.hid (HB2.out.trans (B3.mono HB2.out.size))
        have hA3 : StpA W3 E S v k n := stpA_keep hA B3
        clear R3 B3 sz3 hA
        go_upto_region 6 with fail
        rw [← hW3]
        try rw [← ht1]
        clear hW3 ht1
        go_wp2_with fail
        refine (K2.out W3 HB3.out).mono ?_
        rintro e wc ⟨v', k', n', rfl, hA', hb⟩
        have HB4 := Lib.hid (HB3.out.trans (hb.mono HB3.out.size))
        have HR4 := Lib.hid (HR3.out.keep hb)
        have hA4 : StpA wc E S v k n := stpA_keep hA3 hb
        clear hb hA3
        obtain ⟨W5, t2, hW5, ht2, R5, B5, sz5⟩ := box1 wc #[.int .i64 k', .int .i64 n'] 27
        have HR5 := Lib.hid R5
        have HRR := Lib.hid (HR4.out.keep B5)
        have HB5 := Lib.hid (HB4.out.trans (B5.mono HB4.out.size))
        have hA5 : StpA W5 E S v k n := stpA_keep hA4 B5
        have hA6 : StpA W5 E S v' k' n' := stpA_keep hA' B5
        clear R5 B5 sz5 hA4 hA' HR4 HR3
        have HSM := Lib.hid (stpA_same hA5 hA6)
        obtain ⟨hk, hn, hsl⟩ := stpA_eq hA5 hA6
        obtain ⟨xa, xn, xc, rfl⟩ := hsl.1
        obtain ⟨ya, yn, yc, rfl⟩ := hsl.2
        subst hk
        subst hn
        clear hA5 hA6 hsl
        go_upto_region 7 with fail
        rw [← hW5]
        try rw [← ht2]
        clear hW5 ht2
        have r0 := HRR.out.c 0 _ rfl
        have r1 := HRR.out.c 1 _ rfl
        have q0 := HR5.out.c 0 _ rfl
        have q1 := HR5.out.c 1 _ rfl
        go_wp2_with fail
        refine HSM.out.mono ?_
        rintro e wd ⟨rfl, hb⟩
        have HB6 := Lib.hid (HB5.out.trans (hb.mono HB5.out.size))
        clear hb
        go_wp2_with fail
        refine (K3.out wd HB6.out).mono ?_
        rintro e we ⟨rfl, hb⟩
        have HB7 := Lib.hid (HB6.out.trans (hb.mono HB6.out.size))
        clear hb
        go_wp2_with fail
        refine (K4.out we HB7.out).mono ?_
        rintro e wf ⟨rfl, hb⟩
        have HB8 := Lib.hid (HB7.out.trans (hb.mono HB7.out.size))
        clear hb
        go_wp2_with fail
        go_ret
        exact ⟨by first | rfl | simp, HB8.out⟩
    · have f2 : decide (K ≤ 10) = false := decide_eq_false hg
      go_enter Tryd.func3, Tryd.ntmps3
      go_wp2_with fail
      refine KAW.out.mono ?_
      rintro e wa ⟨rfl, hb⟩
      have HB1 := Lib.hid hb
      clear hb KAW
      go_wp2_with fail
      refine (few_any pa M pc wa m63).mono ?_
      rintro e w1 ⟨rfl, rfl⟩
      rw [f1]
      go_wp2_with fail
      refine (few_any sa K sc wa k63).mono ?_
      rintro e w1 ⟨rfl, rfl⟩
      rw [f2]
      go_wp2_with fail
      go_ret
      exact ⟨by first | rfl | simp, HB1.out⟩
  · have f1 : decide (M ≤ 10) = false := decide_eq_false hf
    go_enter Tryd.func3, Tryd.ntmps3
    go_wp2_with fail
    refine KAW.out.mono ?_
    rintro e wa ⟨rfl, hb⟩
    have HB1 := Lib.hid hb
    clear hb KAW
    go_wp2_with fail
    refine (few_any pa M pc wa m63).mono ?_
    rintro e w1 ⟨rfl, rfl⟩
    rw [f1]
    go_wp2_with fail
    go_ret
    exact ⟨by first | rfl | simp, HB1.out⟩
theorem steps_law (s : ByteArray) (pa sa va : Option Addr) (pc sc vc : Nat) (ps st : List Int) (vs : List VD) (dt : Int) (w : World) (hm : MaxAt w) (hps : InS w pa ps.length 1 (flat iL ps)) (hst : InS w sa st.length 1 (flat iL st)) (hvs : InS w va vs.length 2 (flat vdL vs)) :
    Calls Tryd.prog 3 #[.string s, .slice pa ps.length pc, .slice sa st.length sc, .slice va vs.length vc, .int .i64 dt] w fun e w' => e = .returned (.bool true) ∧ Below w.heap.size w w' := by
  classical
  by_cases h1 : s = ⟨#[115, 116, 97, 103, 101]⟩
  · subst h1
    obtain ⟨F, hF⟩ : ∃ F : Bool, F = true ↔ ∀ (k : Nat) (x : BndD) (y : Int), ([⟨⟨#[115, 116, 97, 103, 101, 115]⟩, 1, 15, 1⟩, ⟨⟨#[117, 112]⟩, (-1000000000000), 1000000000000, 0⟩, ⟨⟨#[100, 111, 119, 110]⟩, (-1000000000000), 1000000000000, 0⟩, ⟨⟨#[117, 112, 100, 101, 108, 97, 121]⟩, 0, 86400, 0⟩, ⟨⟨#[100, 111, 119, 110, 100, 101, 108, 97, 121]⟩, 0, 86400, 0⟩] : List BndD)[k]? = some x → ps[k]? = some y → inR x.lo y x.hi = true := ⟨decide _, decide_eq_true_iff⟩
    obtain ⟨V, hV⟩ : ∃ F : Bool, F = true ↔ ∀ (k : Nat) (x : PortD) (y : VD), ([⟨⟨#[97]⟩, ⟨#[85]⟩⟩] : List PortD)[k]? = some x → vs[k]? = some y → fitQ x.ty y.k y.n = true := ⟨decide _, decide_eq_true_iff⟩
    exact steps_core _ pa sa va pc sc vc _ _ _ dt _ _ _ w hm hps.2.1 hst.2.1 hvs.2.1 (Lib.hid (fun W hb => step_stage_any pa sa va pc sc vc ps st vs F V dt W (hm.keep hb) (hps.keep hb) (hst.keep hb) (hvs.keep hb) hF hV)) (Lib.hid (fun W hb => rstep_stage_any pa sa va pc sc vc ps st vs F V dt W (hps.keep hb) (hst.keep hb) (hvs.keep hb) hF hV)) (Lib.hid (fun W hb => check_stage pa pc ps F W (hm.keep hb) (hps.keep hb) hF)) (Lib.hid (fun W hb => rcheck_stage pa pc ps F W (hps.keep hb) hF))
  · by_cases h2 : s = ⟨#[115, 116, 101, 112, 115]⟩
    · subst h2
      obtain ⟨F, hF⟩ : ∃ F : Bool, F = true ↔ ∀ (k : Nat) (x : BndD) (y : Int), ([⟨⟨#[99, 111, 117, 110, 116]⟩, 1, 15, 1⟩, ⟨⟨#[108, 101, 97, 115, 116]⟩, 0, 86400, 0⟩] : List BndD)[k]? = some x → ps[k]? = some y → inR x.lo y x.hi = true := ⟨decide _, decide_eq_true_iff⟩
      obtain ⟨V, hV⟩ : ∃ F : Bool, F = true ↔ ∀ (k : Nat) (x : PortD) (y : VD), ([⟨⟨#[103, 111]⟩, ⟨#[98, 105, 110, 97, 114, 121]⟩⟩, ⟨⟨#[110, 101, 120, 116]⟩, ⟨#[98, 105, 110, 97, 114, 121]⟩⟩] : List PortD)[k]? = some x → vs[k]? = some y → fitQ x.ty y.k y.n = true := ⟨decide _, decide_eq_true_iff⟩
      exact steps_core _ pa sa va pc sc vc _ _ _ dt _ _ _ w hm hps.2.1 hst.2.1 hvs.2.1 (Lib.hid (fun W hb => step_steps_any pa sa va pc sc vc ps st vs F V dt W (hm.keep hb) (hps.keep hb) (hst.keep hb) (hvs.keep hb) hF hV)) (Lib.hid (fun W hb => rstep_steps_any pa sa va pc sc vc ps st vs F V dt W (hps.keep hb) (hst.keep hb) (hvs.keep hb) hF hV)) (Lib.hid (fun W hb => check_steps pa pc ps F W (hm.keep hb) (hps.keep hb) hF)) (Lib.hid (fun W hb => rcheck_steps pa pc ps F W (hps.keep hb) hF))
    · exact steps_core s pa sa va pc sc vc _ _ _ dt 3 3 (0, 0) w hm hps.2.1 hst.2.1 hvs.2.1 (Lib.hid (fun W _ => step_other s h1 h2 pa sa va _ pc _ sc _ vc dt W)) (Lib.hid (fun W _ => rstep_other s h1 h2 pa sa va _ pc _ sc _ vc dt W)) (Lib.hid (fun W _ => check_other s h1 h2 pa _ pc W)) (Lib.hid (fun W _ => rcheck_other s h1 h2 _ W))
theorem steps_law2 (s : ByteArray) (pa sa va : Option Addr) (pc sc vc : Nat) (ps st : List Int) (ls : List (Int × Int)) (dt : Int) (w : World) (hm : MaxAt w) (hps : InS w pa ps.length 1 (flat iL ps)) (hst : InS w sa st.length 1 (flat iL st)) (hvs : InS w va ls.length 2 (flat (fun x : Int × Int => [Value.int .i64 x.1, Value.int .i64 x.2]) ls)) :
    Calls Tryd.prog 3 #[.string s, .slice pa ps.length pc, .slice sa st.length sc, .slice va ls.length vc, .int .i64 dt] w fun e w' => e = .returned (.bool true) ∧ Below w.heap.size w w' := by
  have hl : (ls.map fun x => (⟨x.1, x.2⟩ : VD)).length = ls.length := List.length_map ..
  have hf : flat vdL (ls.map fun x => (⟨x.1, x.2⟩ : VD)) = flat (fun x : Int × Int => [Value.int .i64 x.1, Value.int .i64 x.2]) ls := by
    unfold flat
    rw [List.flatMap_map]
    rfl
  have h := steps_law s pa sa va pc sc vc ps st (ls.map fun x => (⟨x.1, x.2⟩ : VD)) dt w hm hps hst (by rw [hl, hf]; exact hvs)
  rw [hl] at h
  exact h
end Go.Proofs.YthaigchklogjlaaDoor
