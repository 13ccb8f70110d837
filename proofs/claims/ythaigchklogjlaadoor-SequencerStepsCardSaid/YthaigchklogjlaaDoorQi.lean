/- Contracts of Duration and Settle, where every argument fits. -/
import Derived.Test.YthaigchklogjlaaDoorQh
namespace Go.Proofs.YthaigchklogjlaaDoor
open Go.RowKit Go.Shelf

set_option linter.unusedVariables false
set_option linter.unusedSimpArgs false
set_option maxHeartbeats 4000000 in
set_option maxRecDepth 100000 in
theorem duration_ok (L least dt : Int) (pa : Option Addr) (pc : Nat) (St : Nat → Int × Int) (N : Nat) (w : World) (hm : MaxAt w) (hp : 1 ≤ L ∧ L ≤ 15 ∧ 0 ≤ least ∧ least ≤ 86400) (hdt : 1 ≤ dt ∧ dt ≤ 86400) (hps : InS w pa 2 1 (flat iL [L, least]))
    (h0 : St 0 = (0, 0)) (hs : ∀ k, k < N → St (k + 1) = stepsS L least ((1 : Int) == 1) ((1 : Int) == 1) dt (St k).1 (St k).2) (hTb : ∀ k, k < N → -10000000000 ≤ (St k).2 ∧ (St k).2 ≤ 10000000000) (hPb : ∀ k, k < N → -1000 ≤ (St k).1 ∧ (St k).1 ≤ 1000) (hne : ∀ k, k < N → (St k).1 ≠ L) (hN : (St N).1 = L) (hN62 : N ≤ 1000000000000) :
    Calls Tryd.prog 20 #[.slice pa 2 pc, .int .i64 dt] w fun e w' => e = .returned (.tuple #[.int .i64 N, .int .i64 0]) ∧ Below w.heap.size w w' := by
  have HBE := Lib.hid (show begE [⟨⟨#[99, 111, 117, 110, 116]⟩, 1, 15, 1⟩, ⟨⟨#[108, 101, 97, 115, 116]⟩, 0, 86400, 0⟩] [L, least] true = 0 from begE_yes rfl rfl)
  have KB := Lib.hid (begin_steps pa pc [L, least] true w hm hps ⟨fun _ => fun k x y hx hy => by
      match k with
      | 0 => simp at hx hy; subst hx; subst hy; show inR 1 L 15 = true; exact inR_yes (by omega) (by omega)
      | 1 => simp at hx hy; subst hx; subst hy; show inR 0 least 86400 = true; exact inR_yes (by omega) (by omega)
      | k + 2 => simp at hx, fun _ => rfl⟩)
  have KT := Lib.hid (fun (W : World) => time_any dt W)
  have HTI := Lib.hid (show inR 1 dt 86400 = true from inR_yes (by omega) (by omega))
  have HPS := Lib.hid hps
  obtain ⟨pb, po, rfl, hpl, hpc⟩ := hps.at iL_len (by simp)
  have p0 : w.cell? ⟨pb, po, none⟩ = some (.int .i64 L) := by have h := hpc 0 _ rfl 0 _ rfl; simpa using h
  have p1 : w.cell? ⟨pb, po + 1, none⟩ = some (.int .i64 least) := by have h := hpc 1 _ rfl 0 _ rfl; simpa using h
  have HP0 := Lib.hid p0
  have HP1 := Lib.hid p1
  have HPB := Lib.hid hpl
  clear hps hpl hpc p0 p1
  have HD := Lib.hid hdt
  have HP := Lib.hid hp
  have H0 := Lib.hid h0
  have HS := Lib.hid hs
  have HT := Lib.hid hTb
  have HPP := Lib.hid hPb
  have HNE := Lib.hid hne
  have HN := Lib.hid hN
  have HN6 := Lib.hid hN62
  clear hm hp hdt h0 hs hTb hPb hne hN hN62
  go_enter Tryd.func20, Tryd.ntmps20
  go_wp2_with fail
  refine KB.out.mono ?_
  rintro e w2 ⟨R, rfl, hso, hb⟩
  rw [HBE.out] at hso ⊢
  obtain ⟨q, v1, v3, v5, a2, c2, rfl, hq, hrow, hil⟩ := hso rfl
  have HB2 := Lib.hid hb
  have HQ := Lib.hid (show w.heap.size ≤ q from hq)
  have HR2 := Lib.hid hrow
  clear hso hb hq hrow hil
  go_wp2_with fail
  refine (KT.out _).mono ?_
  rintro e w3 ⟨rfl, rfl⟩
  rw [HTI.out]
  go_wp2_with fail
  have kl := last_any q pb po 2 pc _ v1 (.slice a2 2 c2) v3 (.int .i64 2) v5 0 0 L w2 HR2.out (by decide) (cell_below HP0.out HB2.out)
  refine Calls.mono kl ?_
  rintro e w3 ⟨rfl, rfl⟩
  clear kl
  obtain ⟨W3, ib, hW3, hib, R3, B3, sz3⟩ := box1 w2 #[.int .i64 1, .int .i64 1] 2
  have HR3 := Lib.hid (HR2.out.keep B3)
  have HB3 := Lib.hid (HB2.out.trans (B3.mono HB2.out.size))
  have hpq : pb ≠ q := by have h1 := HPB.out; have h2 := HQ.out; omega
  have hiq : ib ≠ q := by have h1 := HR2.out.lt; omega
  have hqw := HQ.out
  have kd := lead_steps q pb po pc ib 0 2 v1 (.slice a2 2 c2) v3 (.int .i64 2) v5 L L least 1 1 dt St N W3 (by rw [H0.out]; exact HR3.out) HS.out HT.out HPP.out (by have := HD.out; omega) hpq hiq (cell_below HP0.out HB3.out) (cell_below HP1.out HB3.out) (R3.c 0 _ rfl) (R3.c 1 _ rfl) HNE.out HN.out HN6.out
  have KD := Lib.hid kd
  clear kd hpq hiq R3 B3 sz3
  go_wp2_with fail
  rw [← hW3]
  try rw [← hib]
  clear hW3 hib
  refine KD.out.mono ?_
  rintro e w4 ⟨rfl, hg⟩
  have HBF := Lib.hid (HB3.out.grown hg (by have := HB3.out.size; omega) (fun z e => by cases e; exact hqw))
  clear hg hqw
  go_wp2_with fail
  go_ret2
  exact ⟨rfl, HBF.out⟩
set_option maxHeartbeats 8000000 in
set_option maxRecDepth 100000 in
theorem settle_ok (L up dn ud dd d P T dt tg : Int) (pa sa : Option Addr) (pc sc : Nat) (St : Nat → Int × Int) (N : Nat) (w : World) (hm : MaxAt w) (hp : 1 ≤ L ∧ L ≤ 15 ∧ -1000000000000 ≤ up ∧ up ≤ 1000000000000 ∧ -1000000000000 ≤ dn ∧ dn ≤ 1000000000000 ∧ 0 ≤ ud ∧ ud ≤ 86400 ∧ 0 ≤ dd ∧ dd ≤ 86400) (hd : -1000000000000 ≤ d ∧ d ≤ 1000000000000) (hP : 0 ≤ P ∧ P ≤ L) (hT : -6311433599 ≤ T ∧ T ≤ 6311433599) (hdt : 1 ≤ dt ∧ dt ≤ 86400) (hboth : ¬ (up < d ∧ d < dn) ∧ tg = if up < d then L else if d < dn then 0 else P)
    (hps : InS w pa 5 1 (flat iL [L, up, dn, ud, dd])) (hst : InS w sa 2 1 (flat iL [P, T]))
    (h0 : St 0 = (P, T)) (hs : ∀ k, k < N → St (k + 1) = stageS L up dn ud dd d dt (St k).1 (St k).2) (hTb : ∀ k, k < N → -10000000000 ≤ (St k).2 ∧ (St k).2 ≤ 10000000000) (hPb : ∀ k, k < N → -1000 ≤ (St k).1 ∧ (St k).1 ≤ 1000) (hne : ∀ k, k < N → (St k).1 ≠ tg) (hN : (St N).1 = tg) (hN62 : N ≤ 1000000000000) :
    Calls Tryd.prog 16 #[.slice pa 5 pc, .slice sa 2 sc, .int .i64 d, .int .i64 dt] w fun e w' => e = .returned (.tuple #[.int .i64 tg, .int .i64 N, .int .i64 0]) ∧ Below w.heap.size w w' := by
  have HBE := Lib.hid (show begE [⟨⟨#[115, 116, 97, 103, 101, 115]⟩, 1, 15, 1⟩, ⟨⟨#[117, 112]⟩, (-1000000000000), 1000000000000, 0⟩, ⟨⟨#[100, 111, 119, 110]⟩, (-1000000000000), 1000000000000, 0⟩, ⟨⟨#[117, 112, 100, 101, 108, 97, 121]⟩, 0, 86400, 0⟩, ⟨⟨#[100, 111, 119, 110, 100, 101, 108, 97, 121]⟩, 0, 86400, 0⟩] [L, up, dn, ud, dd] true = 0 from begE_yes rfl rfl)
  have KB := Lib.hid (begin_stage pa pc [L, up, dn, ud, dd] true w hm hps ⟨fun _ => fun k x y hx hy => by
      match k with
      | 0 => simp at hx hy; subst hx; subst hy; show inR 1 L 15 = true; exact inR_yes (by omega) (by omega)
      | 1 => simp at hx hy; subst hx; subst hy; show inR (-1000000000000) up 1000000000000 = true; exact inR_yes (by omega) (by omega)
      | 2 => simp at hx hy; subst hx; subst hy; show inR (-1000000000000) dn 1000000000000 = true; exact inR_yes (by omega) (by omega)
      | 3 => simp at hx hy; subst hx; subst hy; show inR 0 ud 86400 = true; exact inR_yes (by omega) (by omega)
      | 4 => simp at hx hy; subst hx; subst hy; show inR 0 dd 86400 = true; exact inR_yes (by omega) (by omega)
      | k + 5 => simp at hx, fun _ => rfl⟩)
  have KT := Lib.hid (fun (W : World) => time_any dt W)
  have HTI := Lib.hid (show inR 1 dt 86400 = true from inR_yes (by omega) (by omega))
  have HPS := Lib.hid hps
  obtain ⟨pb, po, rfl, hpl, hpc⟩ := hps.at iL_len (by simp)
  have p0 : w.cell? ⟨pb, po, none⟩ = some (.int .i64 L) := by have h := hpc 0 _ rfl 0 _ rfl; simpa using h
  have p1 : w.cell? ⟨pb, po + 1, none⟩ = some (.int .i64 up) := by have h := hpc 1 _ rfl 0 _ rfl; simpa using h
  have p2 : w.cell? ⟨pb, po + 2, none⟩ = some (.int .i64 dn) := by have h := hpc 2 _ rfl 0 _ rfl; simpa using h
  have p3 : w.cell? ⟨pb, po + 3, none⟩ = some (.int .i64 ud) := by have h := hpc 3 _ rfl 0 _ rfl; simpa using h
  have p4 : w.cell? ⟨pb, po + 4, none⟩ = some (.int .i64 dd) := by have h := hpc 4 _ rfl 0 _ rfl; simpa using h
  have HP0 := Lib.hid p0
  have HP1 := Lib.hid p1
  have HP2 := Lib.hid p2
  have HP3 := Lib.hid p3
  have HP4 := Lib.hid p4
  have HPB := Lib.hid hpl
  clear hps hpl hpc p0 p1 p2 p3 p4
  have HST := Lib.hid hst
  obtain ⟨sb, so, rfl, hsl, hsc⟩ := hst.at iL_len (by simp)
  have HSB := Lib.hid hsl
  have HRE := Lib.hid (show resE (-6311433599) L [P, T] = 0 from resE_yes (by show (inR 0 P L && inR (-6311433599) T 6311433599) = true; rw [inR_yes (by omega) (by omega), inR_yes (by omega) (by omega)]; rfl))
  have KNB := Lib.hid (fun (W : World) => number_yes d W)
  have HNI := Lib.hid (show inR (-1000000000000) d 1000000000000 = true from inR_yes (by omega) (by omega))
  have HD := Lib.hid hdt
  have HP := Lib.hid hp
  have H0 := Lib.hid h0
  have HS := Lib.hid hs
  have HT := Lib.hid hTb
  have HPP := Lib.hid hPb
  have HNE := Lib.hid hne
  have HN := Lib.hid hN
  have HN6 := Lib.hid hN62
  have HBO := Lib.hid hboth
  clear hm hp hdt h0 hs hTb hPb hne hN hN62 hst hsl hsc hP hT hd hboth
  go_enter Tryd.func16, Tryd.ntmps16
  go_wp2_with fail
  refine KB.out.mono ?_
  rintro e w2 ⟨R, rfl, hso, hb⟩
  rw [HBE.out] at hso ⊢
  obtain ⟨q, v1, v3, v5, a2, c2, rfl, hq, hrow, hil⟩ := hso rfl
  have HB2 := Lib.hid hb
  have HQ := Lib.hid (show w.heap.size ≤ q from hq)
  have HR2 := Lib.hid hrow
  clear hso hb hq hrow hil
  go_wp2_with fail
  refine (KT.out _).mono ?_
  rintro e w3 ⟨rfl, rfl⟩
  rw [HTI.out]
  go_wp2_with fail
  have kr := resume_stage q pb po pc v1 (.slice a2 1 c2) v3 v5 L (some ⟨sb, so, none⟩) sc [P, T] w2 HR2.out (cell_below HP0.out HB2.out) (HST.out.keep HB2.out) (fun b o e _ => by
    injection e with e
    injection e with e1 e2
    have h1 := HSB.out
    have h2 := HQ.out
    omega)
  rw [HRE.out] at kr
  refine Calls.mono kr ?_
  rintro e w5 ⟨rfl, hrow, hg⟩
  obtain ⟨P0, T0, hPT, hr5⟩ := hrow rfl
  obtain ⟨rfl, rfl⟩ : P = P0 ∧ T = T0 := by simpa using hPT
  have HR5 := Lib.hid hr5
  have hqw := HQ.out
  have HB5 := Lib.hid (HB2.out.grown hg (by have := HB2.out.size; omega) (fun z e => by cases e; exact hqw))
  clear kr hrow hPT hr5 hg
  go_wp2_with fail
  refine (KNB.out _).mono ?_
  rintro e w6 ⟨rfl, rfl⟩
  rw [HNI.out]
  go_wp2_with fail
  have kc := compare_any q pb po 5 pc _ v1 (.slice a2 1 c2) v3 (.int .i64 2) v5 P T d up dn w5 HR5.out (by decide) (cell_below HP1.out HB5.out) (cell_below HP2.out HB5.out)
  refine Calls.mono kc ?_
  rintro e w6 ⟨rfl, hb⟩
  have HR6 := Lib.hid (HR5.out.keep hb)
  have HB6 := Lib.hid (HB5.out.trans (hb.mono HB5.out.size))
  have r7 := HR6.out.c 7 _ rfl
  clear kc hb
  obtain ⟨B1, hB1⟩ : ∃ x, x = decide (up < d) := ⟨_, rfl⟩
  obtain ⟨B2, hB2⟩ : ∃ x, x = decide (d < dn) := ⟨_, rfl⟩
  rw [← hB1, ← hB2]
  have HTG := Lib.hid (show tg = if B1 = true then L else if B2 = true then 0 else P by rw [HBO.out.2, hB1, hB2]; simp only [decide_eq_true_eq])
  have hbb : ¬ (B1 = true ∧ B2 = true) := fun h => HBO.out.1 ⟨of_decide_eq_true (hB1 ▸ h.1), of_decide_eq_true (hB2 ▸ h.2)⟩
  clear hB1 hB2
  cases B1
  · cases B2
    · clear hbb
      obtain ⟨W3, ib, hW3, hib, R3, B3, sz3⟩ := box1 w6 #[.int .i64 d] 2
      have HR3 := Lib.hid (HR6.out.keep B3)
      have HB3 := Lib.hid (HB6.out.trans (B3.mono HB6.out.size))
      have hpq : pb ≠ q := by have h1 := HPB.out; have h2 := HQ.out; omega
      have hiq : ib ≠ q := by have h1 := HR6.out.lt; omega
      have kd := lead_stage q pb po pc ib 0 1 v1 (.slice a2 1 c2) v3 (.int .i64 2) v5 tg L up dn ud dd d dt St N W3 (by rw [H0.out]; exact HR3.out) HS.out HT.out HPP.out (by have := HD.out; omega) hpq hiq (cell_below HP0.out HB3.out) (cell_below HP1.out HB3.out) (cell_below HP2.out HB3.out) (cell_below HP3.out HB3.out) (cell_below HP4.out HB3.out) (R3.c 0 _ rfl) HNE.out HN.out HN6.out
      rw [show tg = P from HTG.out] at kd
      have KD := Lib.hid kd
      have HTG2 := Lib.hid (show tg = P from HTG.out)
      clear kd hpq hiq R3 B3 sz3
      go_wp2_with fail
      rw [← hW3]
      try rw [← hib]
      clear hW3 hib
      refine KD.out.mono ?_
      rintro e w4 ⟨rfl, hg⟩
      have HBF := Lib.hid (HB3.out.grown hg (by have := HB3.out.size; omega) (fun z e => by cases e; exact hqw))
      clear hg hqw
      go_wp2_with fail
      go_ret3
      exact ⟨by rw [HTG2.out]; rfl, HBF.out⟩
    · clear hbb
      obtain ⟨W3, ib, hW3, hib, R3, B3, sz3⟩ := box1 w6 #[.int .i64 d] 2
      have HR3 := Lib.hid (HR6.out.keep B3)
      have HB3 := Lib.hid (HB6.out.trans (B3.mono HB6.out.size))
      have hpq : pb ≠ q := by have h1 := HPB.out; have h2 := HQ.out; omega
      have hiq : ib ≠ q := by have h1 := HR6.out.lt; omega
      have kd := lead_stage q pb po pc ib 0 1 v1 (.slice a2 1 c2) v3 (.int .i64 2) v5 tg L up dn ud dd d dt St N W3 (by rw [H0.out]; exact HR3.out) HS.out HT.out HPP.out (by have := HD.out; omega) hpq hiq (cell_below HP0.out HB3.out) (cell_below HP1.out HB3.out) (cell_below HP2.out HB3.out) (cell_below HP3.out HB3.out) (cell_below HP4.out HB3.out) (R3.c 0 _ rfl) HNE.out HN.out HN6.out
      rw [show tg = 0 from HTG.out] at kd
      have KD := Lib.hid kd
      have HTG2 := Lib.hid (show tg = 0 from HTG.out)
      clear kd hpq hiq R3 B3 sz3
      go_wp2_with fail
      rw [← hW3]
      try rw [← hib]
      clear hW3 hib
      refine KD.out.mono ?_
      rintro e w4 ⟨rfl, hg⟩
      have HBF := Lib.hid (HB3.out.grown hg (by have := HB3.out.size; omega) (fun z e => by cases e; exact hqw))
      clear hg hqw
      go_wp2_with fail
      go_ret3
      exact ⟨by rw [HTG2.out]; rfl, HBF.out⟩
  · cases B2
    · clear hbb
      obtain ⟨W3, ib, hW3, hib, R3, B3, sz3⟩ := box1 w6 #[.int .i64 d] 2
      have HR3 := Lib.hid (HR6.out.keep B3)
      have HB3 := Lib.hid (HB6.out.trans (B3.mono HB6.out.size))
      have hpq : pb ≠ q := by have h1 := HPB.out; have h2 := HQ.out; omega
      have hiq : ib ≠ q := by have h1 := HR6.out.lt; omega
      have kd := lead_stage q pb po pc ib 0 1 v1 (.slice a2 1 c2) v3 (.int .i64 2) v5 tg L up dn ud dd d dt St N W3 (by rw [H0.out]; exact HR3.out) HS.out HT.out HPP.out (by have := HD.out; omega) hpq hiq (cell_below HP0.out HB3.out) (cell_below HP1.out HB3.out) (cell_below HP2.out HB3.out) (cell_below HP3.out HB3.out) (cell_below HP4.out HB3.out) (R3.c 0 _ rfl) HNE.out HN.out HN6.out
      rw [show tg = L from HTG.out] at kd
      have KD := Lib.hid kd
      have HTG2 := Lib.hid (show tg = L from HTG.out)
      clear kd hpq hiq R3 B3 sz3
      go_wp2_with fail
      have kl := last_any q pb po 5 pc _ v1 (.slice a2 1 c2) v3 (.int .i64 2) v5 P T L w6 HR6.out (by decide) (cell_below HP0.out HB6.out)
      refine Calls.mono kl ?_
      rintro e w7 ⟨rfl, rfl⟩
      clear kl
      go_wp2_with fail
      rw [← hW3]
      try rw [← hib]
      clear hW3 hib
      refine KD.out.mono ?_
      rintro e w4 ⟨rfl, hg⟩
      have HBF := Lib.hid (HB3.out.grown hg (by have := HB3.out.size; omega) (fun z e => by cases e; exact hqw))
      clear hg hqw
      go_wp2_with fail
      go_ret3
      exact ⟨by rw [HTG2.out]; rfl, HBF.out⟩
    · exact absurd ⟨rfl, rfl⟩ hbb
end Go.Proofs.YthaigchklogjlaaDoor
