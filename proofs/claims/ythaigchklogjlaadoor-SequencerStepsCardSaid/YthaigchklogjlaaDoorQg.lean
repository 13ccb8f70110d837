/- Contract of Step at stage and steps, where every argument fits. -/
import Derived.Test.YthaigchklogjlaaDoorQc
import Derived.Test.YthaigchklogjlaaDoorQe
import Derived.Test.YthaigchklogjlaaDoorQf
namespace Go.Proofs.YthaigchklogjlaaDoor
open Go.RowKit Go.Shelf

set_option linter.unusedVariables false
set_option linter.unusedSimpArgs false
theorem own_cell {w : World} {g : Nat} {cur : Array Value} {e : TypeId} {fr : Nat × Nat} {k : Nat} {L : List Value} (hh : w.heap[g]? = some (.cells cur e fr)) (ht : cur.toList.take k = L) (i : Nat) (u : Value) (hu : L[i]? = some u) : w.cell? ⟨g, i, none⟩ = some u := by
  have h1 : cur[i]? = some u := by
    rw [← ht] at hu
    have := (List.getElem?_eq_some_iff.1 hu).1
    rw [List.getElem?_take] at hu
    split at hu
    · simpa using hu
    · simp at hu
  simp [World.cell?, hh, h1]
theorem bnd_stage (L up dn ud dd d dt P T : Int) : P - 1 ≤ (stageS L up dn ud dd d dt P T).1 ∧ (stageS L up dn ud dd d dt P T).1 ≤ P + 1 := by
  unfold stageS
  (repeat' split) <;> exact ⟨by dsimp only; omega, by dsimp only; omega⟩
theorem bnd_steps (L least : Int) (go nx : Bool) (dt P T : Int) : min 0 P ≤ (stepsS L least go nx dt P T).1 ∧ (stepsS L least go nx dt P T).1 ≤ max 1 (P + 1) := by
  unfold stepsS
  (repeat' split) <;> exact ⟨by dsimp only; omega, by dsimp only; omega⟩
theorem inR_yes {lo n hi : Int} (h1 : lo ≤ n) (h2 : n ≤ hi) : inR lo n hi = true := by unfold inR; rw [decide_eq_true h1, decide_eq_true h2]; rfl
theorem own_cells {w : World} {B e n : Nat} {v : Value} {L : List Value} (h : w.ownsRow B e 1 v n L) (h0 : 0 < n) : ∃ g cap, v = .slice (some ⟨g, 0, none⟩) n cap ∧ B ≤ g ∧ ∀ i u, L[i]? = some u → w.cell? ⟨g, i, none⟩ = some u := by
  rcases h.2 with ⟨_, h1⟩ | ⟨g, cap, cur, rfl, hb, hg, _, _, _, ht⟩
  · omega
  · exact ⟨g, cap, rfl, hb, fun i u hu => own_cell hg ht i u hu⟩
set_option maxHeartbeats 8000000 in
set_option maxRecDepth 100000 in
theorem step_stage (L up dn ud dd d P T dt : Int) (pa sa va : Option Addr) (pc sc vc : Nat) (w : World) (hm : MaxAt w) (hp : 1 ≤ L ∧ L ≤ 15 ∧ -1000000000000 ≤ up ∧ up ≤ 1000000000000 ∧ -1000000000000 ≤ dn ∧ dn ≤ 1000000000000 ∧ 0 ≤ ud ∧ ud ≤ 86400 ∧ 0 ≤ dd ∧ dd ≤ 86400) (hd : -1000000000000 ≤ d ∧ d ≤ 1000000000000) (hP : 0 ≤ P ∧ P ≤ L) (hT : (-6311433599) ≤ T ∧ T ≤ 6311433599) (hdt : 1 ≤ dt ∧ dt ≤ 86400)
    (hps : InS w pa 5 1 (flat iL [L, up, dn, ud, dd])) (hst : InS w sa 2 1 (flat iL [P, T])) (hvs : InS w va 1 2 (flat vdL [⟨1, d⟩])) :
    Calls Tryd.prog 11 #[.string ⟨#[115, 116, 97, 103, 101]⟩, .slice pa 5 pc, .slice sa 2 sc, .slice va 1 vc, .int .i64 dt] w fun e w' => ∃ v, e = .returned (.tuple #[v, .agg #[.int .i64 3, .int .i64 ((stageS L up dn ud dd d dt P T).1 + 1)], .int .i64 0]) ∧ w'.ownsRow w.heap.size 2 1 v 2 [.int .i64 (stageS L up dn ud dd d dt P T).1, .int .i64 (stageS L up dn ud dd d dt P T).2] ∧ Below w.heap.size w w' := by
  have fit0 : fitQ ⟨#[85]⟩ 1 d = true := by rw [fitQ_u, decide_eq_true rfl, Bool.true_and]; exact inR_yes (by omega) (by omega)
  have HBE := Lib.hid (show begE [⟨⟨#[115, 116, 97, 103, 101, 115]⟩, 1, 15, 1⟩, ⟨⟨#[117, 112]⟩, (-1000000000000), 1000000000000, 0⟩, ⟨⟨#[100, 111, 119, 110]⟩, (-1000000000000), 1000000000000, 0⟩, ⟨⟨#[117, 112, 100, 101, 108, 97, 121]⟩, 0, 86400, 0⟩, ⟨⟨#[100, 111, 119, 110, 100, 101, 108, 97, 121]⟩, 0, 86400, 0⟩] [L, up, dn, ud, dd] true = 0 from begE_yes rfl rfl)
  have HRE := Lib.hid (show resE (-6311433599) L [P, T] = 0 from resE_yes (by show (inR 0 P L && inR (-6311433599) T 6311433599) = true; rw [inR_yes (by omega) (by omega), inR_yes (by omega) (by omega)]; rfl))
  have KB := Lib.hid (fun (W : World) (hb : Below w.heap.size w W) => begin_stage pa pc [L, up, dn, ud, dd] true W (hm.keep hb) (hps.keep hb) ⟨fun _ => fun k x y hx hy => by
      match k with
      | 0 => simp at hx hy; subst hx; subst hy; show inR 1 L 15 = true; exact inR_yes (by omega) (by omega)
      | 1 => simp at hx hy; subst hx; subst hy; show inR (-1000000000000) up 1000000000000 = true; exact inR_yes (by omega) (by omega)
      | 2 => simp at hx hy; subst hx; subst hy; show inR (-1000000000000) dn 1000000000000 = true; exact inR_yes (by omega) (by omega)
      | 3 => simp at hx hy; subst hx; subst hy; show inR 0 ud 86400 = true; exact inR_yes (by omega) (by omega)
      | 4 => simp at hx hy; subst hx; subst hy; show inR 0 dd 86400 = true; exact inR_yes (by omega) (by omega)
      | k + 5 => simp at hx, fun _ => rfl⟩)
  have KT := Lib.hid (fun (W : World) => time_any dt W)
  have HTI := Lib.hid (show inR 1 dt 86400 = true from inR_yes (by omega) (by omega))
  have KN := Lib.hid (fun (W : World) (q : Nat) (v1 v3 v5 v6 : Value) (a2 : Option Addr) (c2 : Nat) (hb : Below w.heap.size w W) (hq : RowAt W q [.string ⟨#[115, 116, 97, 103, 101]⟩, v1, .slice a2 1 c2, v3, .int .i64 2, v5, v6, .int .i64 0, .int .i64 0]) (hil : InS W a2 1 2 (flat portL [⟨⟨#[97]⟩, ⟨#[85]⟩⟩])) => numbers_any q _ v1 v3 _ v5 v6 _ _ a2 c2 [⟨⟨#[97]⟩, ⟨#[85]⟩⟩] [⟨1, d⟩] va vc true W hq hil (hvs.keep hb) rfl (by simp) (by intro x hx; simp at hx; subst hx; exact .inr rfl) ⟨fun _ => fun k x y hx hy => by
      match k with
      | 0 => simp at hx hy; subst hx; subst hy; exact fit0
      | k + 1 => simp at hx, fun _ => rfl⟩)
  have HPS := Lib.hid hps
  have HST := Lib.hid hst
  obtain ⟨sb, so, rfl, hsl, hsc⟩ := hst.at iL_len (by simp)
  obtain ⟨pb, po, rfl, hpl, hpc⟩ := hps.at iL_len (by simp)
  have p0 : w.cell? ⟨pb, po, none⟩ = some (.int .i64 L) := by have h := hpc 0 _ rfl 0 _ rfl; simpa using h
  have p1 : w.cell? ⟨pb, po + 1, none⟩ = some (.int .i64 up) := by have h := hpc 1 _ rfl 0 _ rfl; simpa using h
  have p2 : w.cell? ⟨pb, po + 2, none⟩ = some (.int .i64 dn) := by have h := hpc 2 _ rfl 0 _ rfl; simpa using h
  have p3 : w.cell? ⟨pb, po + 3, none⟩ = some (.int .i64 ud) := by have h := hpc 3 _ rfl 0 _ rfl; simpa using h
  have p4 : w.cell? ⟨pb, po + 4, none⟩ = some (.int .i64 dd) := by have h := hpc 4 _ rfl 0 _ rfl; simpa using h
  have HPC := Lib.hid (And.intro p0 (And.intro p1 (And.intro p2 (And.intro p3 p4))))
  have HSB := Lib.hid hsl
  have HPB := Lib.hid hpl
  obtain ⟨W1, g, hW1, hg1, RG, B1, sz1⟩ := box1 w #[.int .i64 0, .int .i64 0] 27
  have HG1 := Lib.hid RG
  have HB1 := Lib.hid B1
  have HGW := Lib.hid (show g = w.heap.size from hg1)
  have HW1 := Lib.hid (show w.heap.size + 1 ≤ W1.heap.size by omega)
  have HP := Lib.hid hp
  have HD := Lib.hid hd
  have HPP := Lib.hid hP
  have HTT := Lib.hid hT
  have HDT := Lib.hid hdt
  clear hm hp hd hP hT hps hst hvs hsl hsc hpl hpc p0 p1 p2 p3 p4 RG B1 sz1 fit0 hdt
  go_enter Tryd.func11, Tryd.ntmps11
  go_upto_region 1 with fail
  rw [← hW1]
  try rw [← hg1]
  clear hW1 hg1
  go_wp2_with fail
  refine (KB.out W1 HB1.out).mono ?_
  rintro e w2 ⟨R, rfl, hso, hb⟩
  rw [HBE.out] at hso ⊢
  obtain ⟨q, v1, v3, v5, a2, c2, rfl, hq, hrow, hil⟩ := hso rfl
  have HB2 := Lib.hid (HB1.out.trans (hb.mono HB1.out.size))
  have HG2 := Lib.hid (HG1.out.keep hb)
  have HQ := Lib.hid (show W1.heap.size ≤ q from hq)
  have HR2 := Lib.hid hrow
  have HI2 := Lib.hid hil
  have r2 := hrow.c 2 _ rfl
  clear hso hb hq hrow hil
  go_wp2_with fail
  refine (KT.out _).mono ?_
  rintro e w3 ⟨rfl, rfl⟩
  rw [HTI.out]
  go_wp2_with fail
  refine (KN.out _ q v1 v3 v5 _ a2 c2 HB2.out HR2.out HI2.out).mono ?_
  rintro e w4 ⟨v, rfl, ho, hb⟩
  obtain ⟨ib, ic, rfl, hib, hic⟩ := own_cells (ho (by first | rfl | trivial)) (by simp)
  have HR4 := Lib.hid (HR2.out.keep hb)
  have HG4 := Lib.hid (HG2.out.keep hb)
  have HB4 := Lib.hid (HB2.out.trans (hb.mono HB2.out.size))
  have HIB := Lib.hid (show q < ib by have := HR2.out.lt; omega)
  have i0 : w4.cell? ⟨ib, 0, none⟩ = some (.int .i64 d) := hic 0 _ rfl
  have HIC := Lib.hid (i0)
  have HPC4 := Lib.hid (And.intro (cell_below HPC.out.1 HB4.out) (And.intro (cell_below HPC.out.2.1 HB4.out) (And.intro (cell_below HPC.out.2.2.1 HB4.out) (And.intro (cell_below HPC.out.2.2.2.1 HB4.out) (cell_below HPC.out.2.2.2.2 HB4.out)))))
  clear ho hb hib hic r2 i0
  go_wp2_with fail
  have kr := resume_stage q pb po pc v1 (.slice a2 1 c2) v3 v5 L (some ⟨sb, so, none⟩) sc [P, T] w4 HR4.out HPC4.out.1 (HST.out.keep HB4.out) (fun b o e _ => by
    injection e with e
    injection e with e1 e2
    have h1 := HSB.out
    have h2 := HQ.out
    have h3 := HW1.out
    omega)
  rw [HRE.out] at kr
  refine Calls.mono kr ?_
  rintro e w5 ⟨rfl, hrow, hg⟩
  obtain ⟨P0, T0, hPT, hr5⟩ := hrow rfl
  obtain ⟨rfl, rfl⟩ : P = P0 ∧ T = T0 := by simpa using hPT
  have HR5 := Lib.hid hr5
  have HG5 := Lib.hid (row_grown HG4.out hg (fun e => by injection e with e; have h1 := HQ.out; have h2 := HW1.out; have h3 := HGW.out; omega))
  have HG45 := Lib.hid hg
  clear kr hrow hPT hr5 hg
  go_wp2_with fail
  obtain ⟨St, hSt⟩ : ∃ f : Nat → Int × Int, f = fun k => if k = 0 then (P, T) else stageS L up dn ud dd d dt P T := ⟨_, rfl⟩
  have s0 : St 0 = (P, T) := by rw [hSt]; rfl
  have s1 : St 1 = stageS L up dn ud dd d dt P T := by rw [hSt]; rfl
  clear hSt
  have hpq : pb ≠ q := (by have h1 := HPB.out; have h2 := HQ.out; have h3 := HW1.out; omega)
  have hiq : ib ≠ q := (by have h1 := HIB.out; omega)
  have ke := eval_stage_once q pb po pc ib 0 1 ic v1 (.slice a2 1 c2) v3 (.int .i64 2) v5 L up dn ud dd d dt St 1 w5 (by rw [s0]; exact HR5.out) (fun k hk => by obtain rfl : k = 0 := (by omega); rw [s1, s0]) (fun k hk => by obtain rfl : k = 0 := (by omega); rw [s0]; have h := HTT.out; exact ⟨by show _ ≤ T; omega, by show T ≤ _; omega⟩) (fun k hk => by obtain rfl : k = 0 := (by omega); rw [s0]; have h1 := HPP.out; have h2 := HP.out; exact ⟨by show _ ≤ P; omega, by show P ≤ _; omega⟩) (by have := HDT.out; omega) hpq hiq rfl (cell_grown HPC4.out.1 HG45.out (fun e => hpq (Option.some.inj e))) (cell_grown HPC4.out.2.1 HG45.out (fun e => hpq (Option.some.inj e))) (cell_grown HPC4.out.2.2.1 HG45.out (fun e => hpq (Option.some.inj e))) (cell_grown HPC4.out.2.2.2.1 HG45.out (fun e => hpq (Option.some.inj e))) (cell_grown HPC4.out.2.2.2.2 HG45.out (fun e => hpq (Option.some.inj e))) (cell_grown HIC.out HG45.out (fun e => hiq (Option.some.inj e))) rfl
  rw [s1] at ke
  clear s0 s1 hpq hiq
  refine Calls.mono ke ?_
  rintro e w6 ⟨rfl, hr6, hg⟩
  have HR6 := Lib.hid (show SqAt w6 q pb po 5 pc ⟨#[115, 116, 97, 103, 101]⟩ v1 (.slice a2 1 c2) v3 (.int .i64 2) v5 (stageS L up dn ud dd d dt P T).1 (stageS L up dn ud dd d dt P T).2 from hr6)
  have HG6 := Lib.hid (row_grown HG5.out hg (fun e => by injection e with e; have h1 := HQ.out; have h2 := HW1.out; have h3 := HGW.out; omega))
  have HG46 := Lib.hid (grown_trans HG45.out hg)
  clear ke hr6 hg
  have HB6 := Lib.hid (HB4.out.grown HG46.out (by have := HB4.out.size; omega) (fun z e => by cases e; have h1 := HQ.out; have h2 := HW1.out; omega))
  have HGQ := Lib.hid (show g ≠ q by have h1 := HQ.out; have h2 := HW1.out; have h3 := HGW.out; omega)
  have hbd := bnd_stage L up dn ud dd d dt P T
  obtain ⟨⟨P1, T1⟩, hS⟩ : ∃ x, x = stageS L up dn ud dd d dt P T := ⟨_, rfl⟩
  have HS := Lib.hid hS
  rw [← hS] at HR6 hbd
  have e1 : IntKind.i64.wrap (P1 + 1) = P1 + 1 := IntWalk.i64_in _ (by have h1 := HPP.out; have h2 := HP.out; have h3 : _ ∧ _ := hbd; simp only at h3; omega)
  have HC := Lib.hid (show w6.cell? ⟨q, 7, none⟩ = some (.int .i64 P1) ∧ w6.cell? ⟨q, 8, none⟩ = some (.int .i64 T1) from ⟨HR6.out.c 7 _ rfl, HR6.out.c 8 _ rfl⟩)
  clear hS hbd
  go_wp2_with fail
  refine wp_region_held_drew (S := fun w' => w'.cell? ⟨q, 7, none⟩ = some (.int .i64 P1) ∧ w'.cell? ⟨q, 8, none⟩ = some (.int .i64 T1)) (by kernel_rfl) HC.out (fun hHeld => ?_)
  have hdr : Below w6.heap.size w6 w6.drew := (Below.refl _ _).drew
  have HG7 := Lib.hid (HG6.out.keep hdr)
  have HB7 := Lib.hid (HB6.out.trans (hdr.mono HB6.out.size))
  obtain ⟨W7, hW7⟩ : ∃ x, x = w6.drew := ⟨_, rfl⟩
  rw [← hW7] at HG7 HB7 hHeld ⊢
  clear hW7 hdr HC
  refine' wpAnyH_take (i := 0) (v := _) rfl (by kernel_rfl) (by kernel_rfl) (by kernel_rfl) (fun _ _ _ h => h) (Or.inl ⟨by rfl, ?_⟩) hHeld ?_
  rotate_left
  · intro w hSw
    (try dsimp only at hSw)
    go_simp
    try with_reducible rfl
  (try simp only [Act.put, List.getElem_toArray, List.getElem_cons_zero, List.getElem_cons_succ, List.setIfInBounds_toArray, List.set_cons_zero, List.set_cons_succ])
  refine' wpAnyH_take (i := 1) (v := _) rfl (by kernel_rfl) (by kernel_rfl) (by kernel_rfl) (fun _ _ _ h => h) (Or.inl ⟨by rfl, ?_⟩) hHeld ?_
  rotate_left
  · intro w hSw
    (try dsimp only at hSw)
    go_simp
    try with_reducible rfl
  (try simp only [Act.put, List.getElem_toArray, List.getElem_cons_zero, List.getElem_cons_succ, List.setIfInBounds_toArray, List.set_cons_zero, List.set_cons_succ])
  refine' wpAnyH_take (i := 2) (v := _) rfl (by kernel_rfl) (by kernel_rfl) (by kernel_rfl) (fun _ _ _ h => h) (Or.inl ⟨by rfl, ?_⟩) hHeld ?_
  rotate_left
  · intro w hSw
    (try dsimp only at hSw)
    go_simp
    try with_reducible rfl
  (try simp only [Act.put, List.getElem_toArray, List.getElem_cons_zero, List.getElem_cons_succ, List.setIfInBounds_toArray, List.set_cons_zero, List.set_cons_succ])
  refine' wpAnyH_take (i := 3) (v := _) rfl (by kernel_rfl) (by kernel_rfl) (by kernel_rfl) (fun _ _ _ h => h) (Or.inl ⟨by rfl, ?_⟩) hHeld ?_
  rotate_left
  · intro w hSw
    (try dsimp only at hSw)
    go_simp
    try with_reducible rfl
  (try simp only [Act.put, List.getElem_toArray, List.getElem_cons_zero, List.getElem_cons_succ, List.setIfInBounds_toArray, List.set_cons_zero, List.set_cons_succ])
  refine' wpAnyH_take (i := 4) (v := _) rfl (by kernel_rfl) (by kernel_rfl) (by kernel_rfl) (fun _ _ _ h => h) (Or.inl ⟨by rfl, ?_⟩) hHeld ?_
  rotate_left
  · intro w hSw
    (try dsimp only at hSw)
    go_simp
    try with_reducible rfl
  (try simp only [Act.put, List.getElem_toArray, List.getElem_cons_zero, List.getElem_cons_succ, List.setIfInBounds_toArray, List.set_cons_zero, List.set_cons_succ])
  refine' wpAnyH_take (i := 5) (v := _) rfl (by kernel_rfl) (by kernel_rfl) (by kernel_rfl) (fun _ _ _ h => h) (Or.inl ⟨by rfl, ?_⟩) hHeld ?_
  rotate_left
  · intro w hSw
    (try dsimp only at hSw)
    go_simp
    try with_reducible rfl
  (try simp only [Act.put, List.getElem_toArray, List.getElem_cons_zero, List.getElem_cons_succ, List.setIfInBounds_toArray, List.set_cons_zero, List.set_cons_succ])
  refine' wpAnyH_take (i := 6) (v := _) rfl (by kernel_rfl) (by kernel_rfl) (by kernel_rfl) (fun _ _ _ h => h) (Or.inl ⟨by rfl, ?_⟩) hHeld ?_
  rotate_left
  · intro w hSw
    (try dsimp only at hSw)
    go_simp
    try with_reducible rfl
  (try simp only [Act.put, List.getElem_toArray, List.getElem_cons_zero, List.getElem_cons_succ, List.setIfInBounds_toArray, List.set_cons_zero, List.set_cons_succ])
  refine' wpAnyH_take (i := 7) (v := _) rfl (by kernel_rfl) (by kernel_rfl) (by kernel_rfl) (fun _ _ _ h => h) (Or.inl ⟨by rfl, ?_⟩) hHeld ?_
  rotate_left
  · intro w hSw
    (try dsimp only at hSw)
    go_simp
    try with_reducible rfl
  (try simp only [Act.put, List.getElem_toArray, List.getElem_cons_zero, List.getElem_cons_succ, List.setIfInBounds_toArray, List.set_cons_zero, List.set_cons_succ])
  refine' wpAnyH_take (i := 9) (v := _) rfl (by kernel_rfl) (by kernel_rfl) (by kernel_rfl) (fun _ _ _ h => h) (Or.inl ⟨by rfl, ?_⟩) hHeld ?_
  rotate_left
  · intro w hSw
    (try dsimp only at hSw)
    go_simp
    try with_reducible rfl
  (try simp only [Act.put, List.getElem_toArray, List.getElem_cons_zero, List.getElem_cons_succ, List.setIfInBounds_toArray, List.set_cons_zero, List.set_cons_succ])
  refine' wpAnyH_take (i := 10) (v := _) rfl (by kernel_rfl) (by kernel_rfl) (by kernel_rfl) (fun _ _ _ h => h) (Or.inl ⟨by rfl, ?_⟩) hHeld ?_
  rotate_left
  · intro w hSw
    (try dsimp only at hSw)
    go_simp
    try with_reducible rfl
  (try simp only [Act.put, List.getElem_toArray, List.getElem_cons_zero, List.getElem_cons_succ, List.setIfInBounds_toArray, List.set_cons_zero, List.set_cons_succ])
  refine' wpAnyH_take (i := 11) (v := _) rfl (by kernel_rfl) (by kernel_rfl) (by kernel_rfl) (fun _ _ _ h => h) (Or.inl ⟨by rfl, ?_⟩) hHeld ?_
  rotate_left
  · intro w hSw
    (try dsimp only at hSw)
    go_simp
    try with_reducible rfl
  (try simp only [Act.put, List.getElem_toArray, List.getElem_cons_zero, List.getElem_cons_succ, List.setIfInBounds_toArray, List.set_cons_zero, List.set_cons_succ])
  refine' wpAnyH_take (i := 12) (v := _) rfl (by kernel_rfl) (by kernel_rfl) (by kernel_rfl) (fun _ _ _ h => h) (Or.inl ⟨by rfl, ?_⟩) hHeld ?_
  rotate_left
  · intro w hSw
    (try dsimp only at hSw)
    go_simp
    try with_reducible rfl
  (try simp only [Act.put, List.getElem_toArray, List.getElem_cons_zero, List.getElem_cons_succ, List.setIfInBounds_toArray, List.set_cons_zero, List.set_cons_succ])
  refine' wpAnyH_take (i := 13) (v := _) rfl (by kernel_rfl) (by kernel_rfl) (by kernel_rfl) (fun _ _ _ h => h) (Or.inl ⟨by rfl, ?_⟩) hHeld ?_
  rotate_left
  · intro w hSw
    (try dsimp only at hSw)
    go_simp
    try with_reducible rfl
  (try simp only [Act.put, List.getElem_toArray, List.getElem_cons_zero, List.getElem_cons_succ, List.setIfInBounds_toArray, List.set_cons_zero, List.set_cons_succ])
  refine' wpAnyH_take (i := 14) (v := _) rfl (by kernel_rfl) (by kernel_rfl) (by kernel_rfl) (fun _ _ _ h => h) (Or.inl ⟨by rfl, ?_⟩) hHeld ?_
  rotate_left
  · intro w hSw
    (try dsimp only at hSw)
    go_simp
    try with_reducible rfl
  (try simp only [Act.put, List.getElem_toArray, List.getElem_cons_zero, List.getElem_cons_succ, List.setIfInBounds_toArray, List.set_cons_zero, List.set_cons_succ])
  refine wpAnyH_ready (rs := [8]) (by kernel_rfl) (by simp) ?_
  refine AllReadyH.cons rfl (fun K hK => ?_) AllReadyH.nil
  go_simp
  have nal1 : Below W7.heap.size W7 (W7.alloc (Obj.cells #[.int .i64 P1, .int .i64 T1] 2)) := (Below.refl _ _).alloc (Nat.le_refl _) _
  have HSX : (W7.alloc (Obj.cells #[.int .i64 P1, .int .i64 T1] 2)).cell? ⟨q, 7, none⟩ = some (.int .i64 P1) ∧ (W7.alloc (Obj.cells #[.int .i64 P1, .int .i64 T1] 2)).cell? ⟨q, 8, none⟩ = some (.int .i64 T1) := ⟨cell_below hHeld.1 nal1, cell_below hHeld.2 nal1⟩
  have HG8 := Lib.hid (HG7.out.keep nal1)
  have HB8 := Lib.hid (HB7.out.trans (nal1.mono HB7.out.size))
  have HNW := Lib.hid (show (W7.alloc (Obj.cells #[.int .i64 P1, .int .i64 T1] 2)).ownsRow w.heap.size 2 1 (.slice (some ⟨W7.heap.size, 0, none⟩) 2 2) 2 [.int .i64 P1, .int .i64 T1] from World.ownsRow_lit W7 #[.int .i64 P1, .int .i64 T1] 2 HB7.out.size (by unfold maxLen; omega) rfl)
  clear nal1
  clear hHeld
  refine hK.out _ _ HSX (fun hHeld => ?_)
  clear hK K HSX
  (try simp only [Act.put, List.getElem_toArray, List.getElem_cons_zero, List.getElem_cons_succ, List.setIfInBounds_toArray, List.set_cons_zero, List.set_cons_succ])
  refine' wpAnyH_take (i := 15) (v := _) rfl (by kernel_rfl) (by kernel_rfl) (by kernel_rfl) (fun _ _ _ h => h) (Or.inl ⟨by rfl, ?_⟩) hHeld ?_
  rotate_left
  · intro w hSw
    (try dsimp only at hSw)
    go_simp
    try with_reducible rfl
  (try simp only [Act.put, List.getElem_toArray, List.getElem_cons_zero, List.getElem_cons_succ, List.setIfInBounds_toArray, List.set_cons_zero, List.set_cons_succ])
  have g_0 := HG8.out.c 0 _ rfl
  have hs0 := row_set HG8.out 0 (by simp) (.int .i64 3)
  have g_1 : ((W7.alloc (Obj.cells #[.int .i64 P1, .int .i64 T1] 2)).setCell ⟨g, 0, none⟩ (.int .i64 3)).cell? ⟨g, 1, none⟩ = some (.int .i64 0) := hs0.c 1 _ rfl
  have g_1' := HG8.out.c 1 _ rfl
  have g_z := HG8.out.fz
  have gg : (W7.alloc (Obj.cells #[.int .i64 P1, .int .i64 T1] 2)).grownBy (((W7.alloc (Obj.cells #[.int .i64 P1, .int .i64 T1] 2)).setCell ⟨g, 0, none⟩ (.int .i64 3)).setCell ⟨g, 1, none⟩ (.int .i64 (P1 + 1))) (some g) := grown_trans (grown_cell _ g 0 (.int .i64 3)) (grown_cell _ g 1 (.int .i64 (P1 + 1)))
  have HSX : (((W7.alloc (Obj.cells #[.int .i64 P1, .int .i64 T1] 2)).setCell ⟨g, 0, none⟩ (.int .i64 3)).setCell ⟨g, 1, none⟩ (.int .i64 (P1 + 1))).cell? ⟨q, 7, none⟩ = some (.int .i64 P1) ∧ (((W7.alloc (Obj.cells #[.int .i64 P1, .int .i64 T1] 2)).setCell ⟨g, 0, none⟩ (.int .i64 3)).setCell ⟨g, 1, none⟩ (.int .i64 (P1 + 1))).cell? ⟨q, 8, none⟩ = some (.int .i64 T1) := ⟨cell_grown hHeld.1 gg (fun e => HGQ.out (Option.some.inj e).symm), cell_grown hHeld.2 gg (fun e => HGQ.out (Option.some.inj e).symm)⟩
  have HGG := Lib.hid gg
  clear gg
  refine wpAnyH_ready (rs := [16]) (by kernel_rfl) (by simp) ?_
  refine AllReadyH.cons rfl (fun K hK => ?_) AllReadyH.nil
  go_simp
  clear hHeld
  refine hK.out _ _ HSX (fun hHeld => ?_)
  clear hK K HSX
  (try simp only [Act.put, List.getElem_toArray, List.getElem_cons_zero, List.getElem_cons_succ, List.setIfInBounds_toArray, List.set_cons_zero, List.set_cons_succ])
  refine' wpAnyH_take (i := 17) (v := _) rfl (by kernel_rfl) (by kernel_rfl) (by kernel_rfl) (fun _ _ _ h => h) (Or.inl ⟨by rfl, ?_⟩) hHeld ?_
  rotate_left
  · intro w hSw
    (try dsimp only at hSw)
    go_simp
    try with_reducible rfl
  (try simp only [Act.put, List.getElem_toArray, List.getElem_cons_zero, List.getElem_cons_succ, List.setIfInBounds_toArray, List.set_cons_zero, List.set_cons_succ])
  refine wpAnyH_done (by kernel_rfl) ?_ _
  (try simp only [Act.put, List.getElem_toArray, List.getElem_cons_zero, List.getElem_cons_succ, List.setIfInBounds_toArray, List.set_cons_zero, List.set_cons_succ])
  clear hHeld g_0 g_1 g_1' g_z hs0
  go_wp2_with fail
  have hs := HG8.out.setRow [.int .i64 3, .int .i64 (P1 + 1)] rfl
  have y0 : (((W7.alloc (Obj.cells #[.int .i64 P1, .int .i64 T1] 2)).setCell ⟨g, 0, none⟩ (.int .i64 3)).setCell ⟨g, 1, none⟩ (.int .i64 (P1 + 1))).cell? ⟨g, 0, none⟩ = some (.int .i64 3) := hs.c 0 _ rfl
  have y1 : (((W7.alloc (Obj.cells #[.int .i64 P1, .int .i64 T1] 2)).setCell ⟨g, 0, none⟩ (.int .i64 3)).setCell ⟨g, 1, none⟩ (.int .i64 (P1 + 1))).cell? ⟨g, 1, none⟩ = some (.int .i64 (P1 + 1)) := hs.c 1 _ rfl
  (try simp only [Exit.inBlock, Exit.then])
  refine bodyPost_ret (by simp [results, Tryd.results11, go_sem, y0, y1]; try rfl) rfl ?_
  rw [← HS.out]
  exact ⟨_, rfl, HNW.out.kept HGG.out (.inr (by have := HG7.out.lt; simp [Value.ownBlock]; omega)), HB8.out.grown HGG.out (by have := HB8.out.size; omega) (fun z e => by cases e; have h3 := HGW.out; omega)⟩
set_option maxHeartbeats 8000000 in
set_option maxRecDepth 100000 in
theorem step_steps (L least d d2 P T dt : Int) (pa sa va : Option Addr) (pc sc vc : Nat) (w : World) (hm : MaxAt w) (hp : 1 ≤ L ∧ L ≤ 15 ∧ 0 ≤ least ∧ least ≤ 86400) (hd : (d = 0 ∨ d = 1) ∧ (d2 = 0 ∨ d2 = 1)) (hP : 0 ≤ P ∧ P ≤ L) (hT : 0 ≤ T ∧ T ≤ 6311433599) (hdt : 1 ≤ dt ∧ dt ≤ 86400)
    (hps : InS w pa 2 1 (flat iL [L, least])) (hst : InS w sa 2 1 (flat iL [P, T])) (hvs : InS w va 2 2 (flat vdL [⟨2, d⟩, ⟨2, d2⟩])) :
    Calls Tryd.prog 11 #[.string ⟨#[115, 116, 101, 112, 115]⟩, .slice pa 2 pc, .slice sa 2 sc, .slice va 2 vc, .int .i64 dt] w fun e w' => ∃ v, e = .returned (.tuple #[v, .agg #[.int .i64 3, .int .i64 ((stepsS L least (d == 1) (d2 == 1) dt P T).1 + 1)], .int .i64 0]) ∧ w'.ownsRow w.heap.size 2 1 v 2 [.int .i64 (stepsS L least (d == 1) (d2 == 1) dt P T).1, .int .i64 (stepsS L least (d == 1) (d2 == 1) dt P T).2] ∧ Below w.heap.size w w' := by
  have fit0 : fitQ ⟨#[98, 105, 110, 97, 114, 121]⟩ 2 d = true := by rw [fitQ_bin, decide_eq_true rfl, Bool.true_and]; exact inR_yes (by omega) (by omega)
  have fit1 : fitQ ⟨#[98, 105, 110, 97, 114, 121]⟩ 2 d2 = true := by rw [fitQ_bin, decide_eq_true rfl, Bool.true_and]; exact inR_yes (by omega) (by omega)
  have HBE := Lib.hid (show begE [⟨⟨#[99, 111, 117, 110, 116]⟩, 1, 15, 1⟩, ⟨⟨#[108, 101, 97, 115, 116]⟩, 0, 86400, 0⟩] [L, least] true = 0 from begE_yes rfl rfl)
  have HRE := Lib.hid (show resE 0 L [P, T] = 0 from resE_yes (by show (inR 0 P L && inR 0 T 6311433599) = true; rw [inR_yes (by omega) (by omega), inR_yes (by omega) (by omega)]; rfl))
  have KB := Lib.hid (fun (W : World) (hb : Below w.heap.size w W) => begin_steps pa pc [L, least] true W (hm.keep hb) (hps.keep hb) ⟨fun _ => fun k x y hx hy => by
      match k with
      | 0 => simp at hx hy; subst hx; subst hy; show inR 1 L 15 = true; exact inR_yes (by omega) (by omega)
      | 1 => simp at hx hy; subst hx; subst hy; show inR 0 least 86400 = true; exact inR_yes (by omega) (by omega)
      | k + 2 => simp at hx, fun _ => rfl⟩)
  have KT := Lib.hid (fun (W : World) => time_any dt W)
  have HTI := Lib.hid (show inR 1 dt 86400 = true from inR_yes (by omega) (by omega))
  have KN := Lib.hid (fun (W : World) (q : Nat) (v1 v3 v5 v6 : Value) (a2 : Option Addr) (c2 : Nat) (hb : Below w.heap.size w W) (hq : RowAt W q [.string ⟨#[115, 116, 101, 112, 115]⟩, v1, .slice a2 2 c2, v3, .int .i64 2, v5, v6, .int .i64 0, .int .i64 0]) (hil : InS W a2 2 2 (flat portL [⟨⟨#[103, 111]⟩, ⟨#[98, 105, 110, 97, 114, 121]⟩⟩, ⟨⟨#[110, 101, 120, 116]⟩, ⟨#[98, 105, 110, 97, 114, 121]⟩⟩])) => numbers_any q _ v1 v3 _ v5 v6 _ _ a2 c2 [⟨⟨#[103, 111]⟩, ⟨#[98, 105, 110, 97, 114, 121]⟩⟩, ⟨⟨#[110, 101, 120, 116]⟩, ⟨#[98, 105, 110, 97, 114, 121]⟩⟩] [⟨2, d⟩, ⟨2, d2⟩] va vc true W hq hil (hvs.keep hb) rfl (by simp) (by intro x hx; simp at hx; rcases hx with rfl | rfl <;> exact .inl rfl) ⟨fun _ => fun k x y hx hy => by
      match k with
      | 0 => simp at hx hy; subst hx; subst hy; exact fit0
      | 1 => simp at hx hy; subst hx; subst hy; exact fit1
      | k + 2 => simp at hx, fun _ => rfl⟩)
  have HPS := Lib.hid hps
  have HST := Lib.hid hst
  obtain ⟨sb, so, rfl, hsl, hsc⟩ := hst.at iL_len (by simp)
  obtain ⟨pb, po, rfl, hpl, hpc⟩ := hps.at iL_len (by simp)
  have p0 : w.cell? ⟨pb, po, none⟩ = some (.int .i64 L) := by have h := hpc 0 _ rfl 0 _ rfl; simpa using h
  have p1 : w.cell? ⟨pb, po + 1, none⟩ = some (.int .i64 least) := by have h := hpc 1 _ rfl 0 _ rfl; simpa using h
  have HPC := Lib.hid (And.intro p0 p1)
  have HSB := Lib.hid hsl
  have HPB := Lib.hid hpl
  obtain ⟨W1, g, hW1, hg1, RG, B1, sz1⟩ := box1 w #[.int .i64 0, .int .i64 0] 27
  have HG1 := Lib.hid RG
  have HB1 := Lib.hid B1
  have HGW := Lib.hid (show g = w.heap.size from hg1)
  have HW1 := Lib.hid (show w.heap.size + 1 ≤ W1.heap.size by omega)
  have HP := Lib.hid hp
  have HD := Lib.hid hd
  have HPP := Lib.hid hP
  have HTT := Lib.hid hT
  have HDT := Lib.hid hdt
  clear hm hp hd hP hT hps hst hvs hsl hsc hpl hpc p0 p1 RG B1 sz1 fit0 fit1 hdt
  go_enter Tryd.func11, Tryd.ntmps11
  go_upto_region 1 with fail
  rw [← hW1]
  try rw [← hg1]
  clear hW1 hg1
  go_wp2_with fail
  refine (KB.out W1 HB1.out).mono ?_
  rintro e w2 ⟨R, rfl, hso, hb⟩
  rw [HBE.out] at hso ⊢
  obtain ⟨q, v1, v3, v5, a2, c2, rfl, hq, hrow, hil⟩ := hso rfl
  have HB2 := Lib.hid (HB1.out.trans (hb.mono HB1.out.size))
  have HG2 := Lib.hid (HG1.out.keep hb)
  have HQ := Lib.hid (show W1.heap.size ≤ q from hq)
  have HR2 := Lib.hid hrow
  have HI2 := Lib.hid hil
  have r2 := hrow.c 2 _ rfl
  clear hso hb hq hrow hil
  go_wp2_with fail
  refine (KT.out _).mono ?_
  rintro e w3 ⟨rfl, rfl⟩
  rw [HTI.out]
  go_wp2_with fail
  refine (KN.out _ q v1 v3 v5 _ a2 c2 HB2.out HR2.out HI2.out).mono ?_
  rintro e w4 ⟨v, rfl, ho, hb⟩
  obtain ⟨ib, ic, rfl, hib, hic⟩ := own_cells (ho (by first | rfl | trivial)) (by simp)
  have HR4 := Lib.hid (HR2.out.keep hb)
  have HG4 := Lib.hid (HG2.out.keep hb)
  have HB4 := Lib.hid (HB2.out.trans (hb.mono HB2.out.size))
  have HIB := Lib.hid (show q < ib by have := HR2.out.lt; omega)
  have i0 : w4.cell? ⟨ib, 0, none⟩ = some (.int .i64 d) := hic 0 _ rfl
  have i1 : w4.cell? ⟨ib, 1, none⟩ = some (.int .i64 d2) := hic 1 _ rfl
  have HIC := Lib.hid (And.intro i0 i1)
  have HPC4 := Lib.hid (And.intro (cell_below HPC.out.1 HB4.out) (cell_below HPC.out.2 HB4.out))
  clear ho hb hib hic r2 i0 i1
  go_wp2_with fail
  have kr := resume_steps q pb po pc v1 (.slice a2 2 c2) v3 v5 L (some ⟨sb, so, none⟩) sc [P, T] w4 HR4.out HPC4.out.1 (HST.out.keep HB4.out) (fun b o e _ => by
    injection e with e
    injection e with e1 e2
    have h1 := HSB.out
    have h2 := HQ.out
    have h3 := HW1.out
    omega)
  rw [HRE.out] at kr
  refine Calls.mono kr ?_
  rintro e w5 ⟨rfl, hrow, hg⟩
  obtain ⟨P0, T0, hPT, hr5⟩ := hrow rfl
  obtain ⟨rfl, rfl⟩ : P = P0 ∧ T = T0 := by simpa using hPT
  have HR5 := Lib.hid hr5
  have HG5 := Lib.hid (row_grown HG4.out hg (fun e => by injection e with e; have h1 := HQ.out; have h2 := HW1.out; have h3 := HGW.out; omega))
  have HG45 := Lib.hid hg
  clear kr hrow hPT hr5 hg
  go_wp2_with fail
  obtain ⟨St, hSt⟩ : ∃ f : Nat → Int × Int, f = fun k => if k = 0 then (P, T) else stepsS L least (d == 1) (d2 == 1) dt P T := ⟨_, rfl⟩
  have s0 : St 0 = (P, T) := by rw [hSt]; rfl
  have s1 : St 1 = stepsS L least (d == 1) (d2 == 1) dt P T := by rw [hSt]; rfl
  clear hSt
  have hpq : pb ≠ q := (by have h1 := HPB.out; have h2 := HQ.out; have h3 := HW1.out; omega)
  have hiq : ib ≠ q := (by have h1 := HIB.out; omega)
  have ke := eval_steps_once q pb po pc ib 0 2 ic v1 (.slice a2 2 c2) v3 (.int .i64 2) v5 L least d d2 dt St 1 w5 (by rw [s0]; exact HR5.out) (fun k hk => by obtain rfl : k = 0 := (by omega); rw [s1, s0]) (fun k hk => by obtain rfl : k = 0 := (by omega); rw [s0]; have h := HTT.out; exact ⟨by show _ ≤ T; omega, by show T ≤ _; omega⟩) (fun k hk => by obtain rfl : k = 0 := (by omega); rw [s0]; have h1 := HPP.out; have h2 := HP.out; exact ⟨by show _ ≤ P; omega, by show P ≤ _; omega⟩) (by have := HDT.out; omega) hpq hiq rfl (cell_grown HPC4.out.1 HG45.out (fun e => hpq (Option.some.inj e))) (cell_grown HPC4.out.2 HG45.out (fun e => hpq (Option.some.inj e))) (cell_grown HIC.out.1 HG45.out (fun e => hiq (Option.some.inj e))) (cell_grown HIC.out.2 HG45.out (fun e => hiq (Option.some.inj e))) rfl
  rw [s1] at ke
  clear s0 s1 hpq hiq
  refine Calls.mono ke ?_
  rintro e w6 ⟨rfl, hr6, hg⟩
  have HR6 := Lib.hid (show SqAt w6 q pb po 2 pc ⟨#[115, 116, 101, 112, 115]⟩ v1 (.slice a2 2 c2) v3 (.int .i64 2) v5 (stepsS L least (d == 1) (d2 == 1) dt P T).1 (stepsS L least (d == 1) (d2 == 1) dt P T).2 from hr6)
  have HG6 := Lib.hid (row_grown HG5.out hg (fun e => by injection e with e; have h1 := HQ.out; have h2 := HW1.out; have h3 := HGW.out; omega))
  have HG46 := Lib.hid (grown_trans HG45.out hg)
  clear ke hr6 hg
  have HB6 := Lib.hid (HB4.out.grown HG46.out (by have := HB4.out.size; omega) (fun z e => by cases e; have h1 := HQ.out; have h2 := HW1.out; omega))
  have HGQ := Lib.hid (show g ≠ q by have h1 := HQ.out; have h2 := HW1.out; have h3 := HGW.out; omega)
  have hbd := bnd_steps L least (d == 1) (d2 == 1) dt P T
  obtain ⟨⟨P1, T1⟩, hS⟩ : ∃ x, x = stepsS L least (d == 1) (d2 == 1) dt P T := ⟨_, rfl⟩
  have HS := Lib.hid hS
  rw [← hS] at HR6 hbd
  have e1 : IntKind.i64.wrap (P1 + 1) = P1 + 1 := IntWalk.i64_in _ (by have h1 := HPP.out; have h2 := HP.out; have h3 : _ ∧ _ := hbd; simp only at h3; omega)
  have HC := Lib.hid (show w6.cell? ⟨q, 7, none⟩ = some (.int .i64 P1) ∧ w6.cell? ⟨q, 8, none⟩ = some (.int .i64 T1) from ⟨HR6.out.c 7 _ rfl, HR6.out.c 8 _ rfl⟩)
  clear hS hbd
  go_wp2_with fail
  refine wp_region_held_drew (S := fun w' => w'.cell? ⟨q, 7, none⟩ = some (.int .i64 P1) ∧ w'.cell? ⟨q, 8, none⟩ = some (.int .i64 T1)) (by kernel_rfl) HC.out (fun hHeld => ?_)
  have hdr : Below w6.heap.size w6 w6.drew := (Below.refl _ _).drew
  have HG7 := Lib.hid (HG6.out.keep hdr)
  have HB7 := Lib.hid (HB6.out.trans (hdr.mono HB6.out.size))
  obtain ⟨W7, hW7⟩ : ∃ x, x = w6.drew := ⟨_, rfl⟩
  rw [← hW7] at HG7 HB7 hHeld ⊢
  clear hW7 hdr HC
  refine' wpAnyH_take (i := 0) (v := _) rfl (by kernel_rfl) (by kernel_rfl) (by kernel_rfl) (fun _ _ _ h => h) (Or.inl ⟨by rfl, ?_⟩) hHeld ?_
  rotate_left
  · intro w hSw
    (try dsimp only at hSw)
    go_simp
    try with_reducible rfl
  (try simp only [Act.put, List.getElem_toArray, List.getElem_cons_zero, List.getElem_cons_succ, List.setIfInBounds_toArray, List.set_cons_zero, List.set_cons_succ])
  refine' wpAnyH_take (i := 1) (v := _) rfl (by kernel_rfl) (by kernel_rfl) (by kernel_rfl) (fun _ _ _ h => h) (Or.inl ⟨by rfl, ?_⟩) hHeld ?_
  rotate_left
  · intro w hSw
    (try dsimp only at hSw)
    go_simp
    try with_reducible rfl
  (try simp only [Act.put, List.getElem_toArray, List.getElem_cons_zero, List.getElem_cons_succ, List.setIfInBounds_toArray, List.set_cons_zero, List.set_cons_succ])
  refine' wpAnyH_take (i := 2) (v := _) rfl (by kernel_rfl) (by kernel_rfl) (by kernel_rfl) (fun _ _ _ h => h) (Or.inl ⟨by rfl, ?_⟩) hHeld ?_
  rotate_left
  · intro w hSw
    (try dsimp only at hSw)
    go_simp
    try with_reducible rfl
  (try simp only [Act.put, List.getElem_toArray, List.getElem_cons_zero, List.getElem_cons_succ, List.setIfInBounds_toArray, List.set_cons_zero, List.set_cons_succ])
  refine' wpAnyH_take (i := 3) (v := _) rfl (by kernel_rfl) (by kernel_rfl) (by kernel_rfl) (fun _ _ _ h => h) (Or.inl ⟨by rfl, ?_⟩) hHeld ?_
  rotate_left
  · intro w hSw
    (try dsimp only at hSw)
    go_simp
    try with_reducible rfl
  (try simp only [Act.put, List.getElem_toArray, List.getElem_cons_zero, List.getElem_cons_succ, List.setIfInBounds_toArray, List.set_cons_zero, List.set_cons_succ])
  refine' wpAnyH_take (i := 4) (v := _) rfl (by kernel_rfl) (by kernel_rfl) (by kernel_rfl) (fun _ _ _ h => h) (Or.inl ⟨by rfl, ?_⟩) hHeld ?_
  rotate_left
  · intro w hSw
    (try dsimp only at hSw)
    go_simp
    try with_reducible rfl
  (try simp only [Act.put, List.getElem_toArray, List.getElem_cons_zero, List.getElem_cons_succ, List.setIfInBounds_toArray, List.set_cons_zero, List.set_cons_succ])
  refine' wpAnyH_take (i := 5) (v := _) rfl (by kernel_rfl) (by kernel_rfl) (by kernel_rfl) (fun _ _ _ h => h) (Or.inl ⟨by rfl, ?_⟩) hHeld ?_
  rotate_left
  · intro w hSw
    (try dsimp only at hSw)
    go_simp
    try with_reducible rfl
  (try simp only [Act.put, List.getElem_toArray, List.getElem_cons_zero, List.getElem_cons_succ, List.setIfInBounds_toArray, List.set_cons_zero, List.set_cons_succ])
  refine' wpAnyH_take (i := 6) (v := _) rfl (by kernel_rfl) (by kernel_rfl) (by kernel_rfl) (fun _ _ _ h => h) (Or.inl ⟨by rfl, ?_⟩) hHeld ?_
  rotate_left
  · intro w hSw
    (try dsimp only at hSw)
    go_simp
    try with_reducible rfl
  (try simp only [Act.put, List.getElem_toArray, List.getElem_cons_zero, List.getElem_cons_succ, List.setIfInBounds_toArray, List.set_cons_zero, List.set_cons_succ])
  refine' wpAnyH_take (i := 7) (v := _) rfl (by kernel_rfl) (by kernel_rfl) (by kernel_rfl) (fun _ _ _ h => h) (Or.inl ⟨by rfl, ?_⟩) hHeld ?_
  rotate_left
  · intro w hSw
    (try dsimp only at hSw)
    go_simp
    try with_reducible rfl
  (try simp only [Act.put, List.getElem_toArray, List.getElem_cons_zero, List.getElem_cons_succ, List.setIfInBounds_toArray, List.set_cons_zero, List.set_cons_succ])
  refine' wpAnyH_take (i := 9) (v := _) rfl (by kernel_rfl) (by kernel_rfl) (by kernel_rfl) (fun _ _ _ h => h) (Or.inl ⟨by rfl, ?_⟩) hHeld ?_
  rotate_left
  · intro w hSw
    (try dsimp only at hSw)
    go_simp
    try with_reducible rfl
  (try simp only [Act.put, List.getElem_toArray, List.getElem_cons_zero, List.getElem_cons_succ, List.setIfInBounds_toArray, List.set_cons_zero, List.set_cons_succ])
  refine' wpAnyH_take (i := 10) (v := _) rfl (by kernel_rfl) (by kernel_rfl) (by kernel_rfl) (fun _ _ _ h => h) (Or.inl ⟨by rfl, ?_⟩) hHeld ?_
  rotate_left
  · intro w hSw
    (try dsimp only at hSw)
    go_simp
    try with_reducible rfl
  (try simp only [Act.put, List.getElem_toArray, List.getElem_cons_zero, List.getElem_cons_succ, List.setIfInBounds_toArray, List.set_cons_zero, List.set_cons_succ])
  refine' wpAnyH_take (i := 11) (v := _) rfl (by kernel_rfl) (by kernel_rfl) (by kernel_rfl) (fun _ _ _ h => h) (Or.inl ⟨by rfl, ?_⟩) hHeld ?_
  rotate_left
  · intro w hSw
    (try dsimp only at hSw)
    go_simp
    try with_reducible rfl
  (try simp only [Act.put, List.getElem_toArray, List.getElem_cons_zero, List.getElem_cons_succ, List.setIfInBounds_toArray, List.set_cons_zero, List.set_cons_succ])
  refine' wpAnyH_take (i := 12) (v := _) rfl (by kernel_rfl) (by kernel_rfl) (by kernel_rfl) (fun _ _ _ h => h) (Or.inl ⟨by rfl, ?_⟩) hHeld ?_
  rotate_left
  · intro w hSw
    (try dsimp only at hSw)
    go_simp
    try with_reducible rfl
  (try simp only [Act.put, List.getElem_toArray, List.getElem_cons_zero, List.getElem_cons_succ, List.setIfInBounds_toArray, List.set_cons_zero, List.set_cons_succ])
  refine' wpAnyH_take (i := 13) (v := _) rfl (by kernel_rfl) (by kernel_rfl) (by kernel_rfl) (fun _ _ _ h => h) (Or.inl ⟨by rfl, ?_⟩) hHeld ?_
  rotate_left
  · intro w hSw
    (try dsimp only at hSw)
    go_simp
    try with_reducible rfl
  (try simp only [Act.put, List.getElem_toArray, List.getElem_cons_zero, List.getElem_cons_succ, List.setIfInBounds_toArray, List.set_cons_zero, List.set_cons_succ])
  refine' wpAnyH_take (i := 14) (v := _) rfl (by kernel_rfl) (by kernel_rfl) (by kernel_rfl) (fun _ _ _ h => h) (Or.inl ⟨by rfl, ?_⟩) hHeld ?_
  rotate_left
  · intro w hSw
    (try dsimp only at hSw)
    go_simp
    try with_reducible rfl
  (try simp only [Act.put, List.getElem_toArray, List.getElem_cons_zero, List.getElem_cons_succ, List.setIfInBounds_toArray, List.set_cons_zero, List.set_cons_succ])
  refine wpAnyH_ready (rs := [8]) (by kernel_rfl) (by simp) ?_
  refine AllReadyH.cons rfl (fun K hK => ?_) AllReadyH.nil
  go_simp
  have nal1 : Below W7.heap.size W7 (W7.alloc (Obj.cells #[.int .i64 P1, .int .i64 T1] 2)) := (Below.refl _ _).alloc (Nat.le_refl _) _
  have HSX : (W7.alloc (Obj.cells #[.int .i64 P1, .int .i64 T1] 2)).cell? ⟨q, 7, none⟩ = some (.int .i64 P1) ∧ (W7.alloc (Obj.cells #[.int .i64 P1, .int .i64 T1] 2)).cell? ⟨q, 8, none⟩ = some (.int .i64 T1) := ⟨cell_below hHeld.1 nal1, cell_below hHeld.2 nal1⟩
  have HG8 := Lib.hid (HG7.out.keep nal1)
  have HB8 := Lib.hid (HB7.out.trans (nal1.mono HB7.out.size))
  have HNW := Lib.hid (show (W7.alloc (Obj.cells #[.int .i64 P1, .int .i64 T1] 2)).ownsRow w.heap.size 2 1 (.slice (some ⟨W7.heap.size, 0, none⟩) 2 2) 2 [.int .i64 P1, .int .i64 T1] from World.ownsRow_lit W7 #[.int .i64 P1, .int .i64 T1] 2 HB7.out.size (by unfold maxLen; omega) rfl)
  clear nal1
  clear hHeld
  refine hK.out _ _ HSX (fun hHeld => ?_)
  clear hK K HSX
  (try simp only [Act.put, List.getElem_toArray, List.getElem_cons_zero, List.getElem_cons_succ, List.setIfInBounds_toArray, List.set_cons_zero, List.set_cons_succ])
  refine' wpAnyH_take (i := 15) (v := _) rfl (by kernel_rfl) (by kernel_rfl) (by kernel_rfl) (fun _ _ _ h => h) (Or.inl ⟨by rfl, ?_⟩) hHeld ?_
  rotate_left
  · intro w hSw
    (try dsimp only at hSw)
    go_simp
    try with_reducible rfl
  (try simp only [Act.put, List.getElem_toArray, List.getElem_cons_zero, List.getElem_cons_succ, List.setIfInBounds_toArray, List.set_cons_zero, List.set_cons_succ])
  have g_0 := HG8.out.c 0 _ rfl
  have hs0 := row_set HG8.out 0 (by simp) (.int .i64 3)
  have g_1 : ((W7.alloc (Obj.cells #[.int .i64 P1, .int .i64 T1] 2)).setCell ⟨g, 0, none⟩ (.int .i64 3)).cell? ⟨g, 1, none⟩ = some (.int .i64 0) := hs0.c 1 _ rfl
  have g_1' := HG8.out.c 1 _ rfl
  have g_z := HG8.out.fz
  have gg : (W7.alloc (Obj.cells #[.int .i64 P1, .int .i64 T1] 2)).grownBy (((W7.alloc (Obj.cells #[.int .i64 P1, .int .i64 T1] 2)).setCell ⟨g, 0, none⟩ (.int .i64 3)).setCell ⟨g, 1, none⟩ (.int .i64 (P1 + 1))) (some g) := grown_trans (grown_cell _ g 0 (.int .i64 3)) (grown_cell _ g 1 (.int .i64 (P1 + 1)))
  have HSX : (((W7.alloc (Obj.cells #[.int .i64 P1, .int .i64 T1] 2)).setCell ⟨g, 0, none⟩ (.int .i64 3)).setCell ⟨g, 1, none⟩ (.int .i64 (P1 + 1))).cell? ⟨q, 7, none⟩ = some (.int .i64 P1) ∧ (((W7.alloc (Obj.cells #[.int .i64 P1, .int .i64 T1] 2)).setCell ⟨g, 0, none⟩ (.int .i64 3)).setCell ⟨g, 1, none⟩ (.int .i64 (P1 + 1))).cell? ⟨q, 8, none⟩ = some (.int .i64 T1) := ⟨cell_grown hHeld.1 gg (fun e => HGQ.out (Option.some.inj e).symm), cell_grown hHeld.2 gg (fun e => HGQ.out (Option.some.inj e).symm)⟩
  have HGG := Lib.hid gg
  clear gg
  refine wpAnyH_ready (rs := [16]) (by kernel_rfl) (by simp) ?_
  refine AllReadyH.cons rfl (fun K hK => ?_) AllReadyH.nil
  go_simp
  clear hHeld
  refine hK.out _ _ HSX (fun hHeld => ?_)
  clear hK K HSX
  (try simp only [Act.put, List.getElem_toArray, List.getElem_cons_zero, List.getElem_cons_succ, List.setIfInBounds_toArray, List.set_cons_zero, List.set_cons_succ])
  refine' wpAnyH_take (i := 17) (v := _) rfl (by kernel_rfl) (by kernel_rfl) (by kernel_rfl) (fun _ _ _ h => h) (Or.inl ⟨by rfl, ?_⟩) hHeld ?_
  rotate_left
  · intro w hSw
    (try dsimp only at hSw)
    go_simp
    try with_reducible rfl
  (try simp only [Act.put, List.getElem_toArray, List.getElem_cons_zero, List.getElem_cons_succ, List.setIfInBounds_toArray, List.set_cons_zero, List.set_cons_succ])
  refine wpAnyH_done (by kernel_rfl) ?_ _
  (try simp only [Act.put, List.getElem_toArray, List.getElem_cons_zero, List.getElem_cons_succ, List.setIfInBounds_toArray, List.set_cons_zero, List.set_cons_succ])
  clear hHeld g_0 g_1 g_1' g_z hs0
  go_wp2_with fail
  have hs := HG8.out.setRow [.int .i64 3, .int .i64 (P1 + 1)] rfl
  have y0 : (((W7.alloc (Obj.cells #[.int .i64 P1, .int .i64 T1] 2)).setCell ⟨g, 0, none⟩ (.int .i64 3)).setCell ⟨g, 1, none⟩ (.int .i64 (P1 + 1))).cell? ⟨g, 0, none⟩ = some (.int .i64 3) := hs.c 0 _ rfl
  have y1 : (((W7.alloc (Obj.cells #[.int .i64 P1, .int .i64 T1] 2)).setCell ⟨g, 0, none⟩ (.int .i64 3)).setCell ⟨g, 1, none⟩ (.int .i64 (P1 + 1))).cell? ⟨g, 1, none⟩ = some (.int .i64 (P1 + 1)) := hs.c 1 _ rfl
  (try simp only [Exit.inBlock, Exit.then])
  refine bodyPost_ret (by simp [results, Tryd.results11, go_sem, y0, y1]; try rfl) rfl ?_
  rw [← HS.out]
  exact ⟨_, rfl, HNW.out.kept HGG.out (.inr (by have := HG7.out.lt; simp [Value.ownBlock]; omega)), HB8.out.grown HGG.out (by have := HB8.out.size; omega) (fun z e => by cases e; have h3 := HGW.out; omega)⟩
end Go.Proofs.YthaigchklogjlaaDoor
