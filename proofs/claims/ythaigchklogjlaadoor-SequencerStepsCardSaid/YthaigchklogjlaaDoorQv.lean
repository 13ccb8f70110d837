/- Contracts of Step and Check of the program for any arguments. -/
import Derived.Test.YthaigchklogjlaaDoorQt
import Derived.Test.YthaigchklogjlaaDoorQk
import Derived.Test.YthaigchklogjlaaDoorQh
namespace Go.Proofs.YthaigchklogjlaaDoor
open Go.RowKit Go.Shelf

set_option linter.unusedVariables false
set_option linter.unusedSimpArgs false
/-- the error of Step -/
def stpE (b : Int) (lo : Int) (m : Nat) (ps st : List Int) (vs : List VD) (V : Bool) (dt : Int) : Int :=
  if b ≠ 0 then b else if inR 1 dt 86400 = false ∨ vs.length ≠ m then 1 else if V = false then 11 else if resB lo (ps.getD 0 0) st = false then 8 else 0
/-- the answer of Step: its state newly made, its output -/
def StpA (w' : World) (E : Int) (S : Int × Int) (v : Value) (k n : Int) : Prop :=
  (E ≠ 0 → v = .slice none 0 0 ∧ k = 0 ∧ n = 0) ∧ (E = 0 → k = 3 ∧ n = S.1 + 1 ∧ ∃ a c, v = .slice a 2 c ∧ InS w' a 2 1 (flat iL [S.1, S.2]))
theorem stpE_zero {b lo : Int} {m : Nat} {ps st : List Int} {vs : List VD} {V : Bool} {dt : Int} (h : stpE b lo m ps st vs V dt = 0) : b = 0 ∧ inR 1 dt 86400 = true ∧ vs.length = m ∧ V = true ∧ resB lo (ps.getD 0 0) st = true := by
  unfold stpE at h
  split at h
  · rename_i h1; exact absurd h h1
  · rename_i h1
    split at h
    · omega
    · rename_i h2
      split at h
      · omega
      · rename_i h3
        split at h
        · omega
        · rename_i h4
          refine ⟨by omega, ?_, ?_, ?_, ?_⟩
          · cases hx : inR 1 dt 86400 with
            | true => rfl
            | false => exact absurd (.inl hx) h2
          · by_cases hx : vs.length = m
            · exact hx
            · exact absurd (.inr hx) h2
          · cases V with
            | true => rfl
            | false => exact absurd rfl h3
          · cases hx : resB lo (ps.getD 0 0) st with
            | true => rfl
            | false => exact absurd hx h4
theorem resB_at {lo L : Int} {st : List Int} (h : resB lo L st = true) : ∃ P T, st = [P, T] ∧ (0 ≤ P ∧ P ≤ L) ∧ (lo ≤ T ∧ T ≤ 6311433599) := by
  unfold resB at h
  split at h
  · rename_i a c
    rw [Bool.and_eq_true] at h
    exact ⟨_, _, rfl, inR_le' h.1, inR_le' h.2⟩
  · cases h
theorem fit_u {k n : Int} (h : fitQ ⟨#[85]⟩ k n = true) : k = 1 ∧ -1000000000000 ≤ n ∧ n ≤ 1000000000000 := by
  rw [fitQ_u, Bool.and_eq_true, decide_eq_true_eq] at h
  exact ⟨h.1, inR_le' h.2⟩
theorem fit_bin {k n : Int} (h : fitQ ⟨#[98, 105, 110, 97, 114, 121]⟩ k n = true) : k = 2 ∧ (n = 0 ∨ n = 1) := by
  rw [fitQ_bin, Bool.and_eq_true, decide_eq_true_eq] at h
  have := inR_le' h.2
  exact ⟨h.1, by omega⟩
set_option maxHeartbeats 8000000 in
set_option maxRecDepth 100000 in
theorem step_stage_any (pa sa va : Option Addr) (pc sc vc : Nat) (ps st : List Int) (vs : List VD) (F V : Bool) (dt : Int) (w : World) (hm : MaxAt w) (hps : InS w pa ps.length 1 (flat iL ps)) (hst : InS w sa st.length 1 (flat iL st)) (hvs : InS w va vs.length 2 (flat vdL vs))
    (hF : F = true ↔ ∀ (k : Nat) (x : BndD) (y : Int), ([⟨⟨#[115, 116, 97, 103, 101, 115]⟩, 1, 15, 1⟩, ⟨⟨#[117, 112]⟩, (-1000000000000), 1000000000000, 0⟩, ⟨⟨#[100, 111, 119, 110]⟩, (-1000000000000), 1000000000000, 0⟩, ⟨⟨#[117, 112, 100, 101, 108, 97, 121]⟩, 0, 86400, 0⟩, ⟨⟨#[100, 111, 119, 110, 100, 101, 108, 97, 121]⟩, 0, 86400, 0⟩] : List BndD)[k]? = some x → ps[k]? = some y → inR x.lo y x.hi = true) (hV : V = true ↔ ∀ (k : Nat) (x : PortD) (y : VD), ([⟨⟨#[97]⟩, ⟨#[85]⟩⟩] : List PortD)[k]? = some x → vs[k]? = some y → fitQ x.ty y.k y.n = true) :
    Calls Tryd.prog 11 #[.string ⟨#[115, 116, 97, 103, 101]⟩, .slice pa ps.length pc, .slice sa st.length sc, .slice va vs.length vc, .int .i64 dt] w fun e w' => ∃ v k n, e = .returned (.tuple #[v, .agg #[.int .i64 k, .int .i64 n], .int .i64 (stpE (begE [⟨⟨#[115, 116, 97, 103, 101, 115]⟩, 1, 15, 1⟩, ⟨⟨#[117, 112]⟩, (-1000000000000), 1000000000000, 0⟩, ⟨⟨#[100, 111, 119, 110]⟩, (-1000000000000), 1000000000000, 0⟩, ⟨⟨#[117, 112, 100, 101, 108, 97, 121]⟩, 0, 86400, 0⟩, ⟨⟨#[100, 111, 119, 110, 100, 101, 108, 97, 121]⟩, 0, 86400, 0⟩] ps F) (-6311433599) 1 ps st vs V dt)]) ∧ StpA w' (stpE (begE [⟨⟨#[115, 116, 97, 103, 101, 115]⟩, 1, 15, 1⟩, ⟨⟨#[117, 112]⟩, (-1000000000000), 1000000000000, 0⟩, ⟨⟨#[100, 111, 119, 110]⟩, (-1000000000000), 1000000000000, 0⟩, ⟨⟨#[117, 112, 100, 101, 108, 97, 121]⟩, 0, 86400, 0⟩, ⟨⟨#[100, 111, 119, 110, 100, 101, 108, 97, 121]⟩, 0, 86400, 0⟩] ps F) (-6311433599) 1 ps st vs V dt) (stageS (ps.getD 0 0) (ps.getD 1 0) (ps.getD 2 0) (ps.getD 3 0) (ps.getD 4 0) (vs.getD 0 ⟨0, 0⟩).n dt (st.getD 0 0) (st.getD 1 0)) v k n ∧ Below w.heap.size w w' := by
  by_cases hall : stpE (begE [⟨⟨#[115, 116, 97, 103, 101, 115]⟩, 1, 15, 1⟩, ⟨⟨#[117, 112]⟩, (-1000000000000), 1000000000000, 0⟩, ⟨⟨#[100, 111, 119, 110]⟩, (-1000000000000), 1000000000000, 0⟩, ⟨⟨#[117, 112, 100, 101, 108, 97, 121]⟩, 0, 86400, 0⟩, ⟨⟨#[100, 111, 119, 110, 100, 101, 108, 97, 121]⟩, 0, 86400, 0⟩] ps F) (-6311433599) 1 ps st vs V dt = 0
  · have hz0 := stpE_zero hall
    obtain ⟨hbe, htm, hvl, hV1, hre⟩ := hz0
    have hz := begE_zero' hbe
    obtain ⟨L, up, dn, ud, dd, rfl⟩ : ∃ x0 x1 x2 x3 x4, ps = [x0, x1, x2, x3, x4] := by
      match ps, hz.1 with
      | [x0, x1, x2, x3, x4], _ => exact ⟨x0, x1, x2, x3, x4, rfl⟩
    have hr0 := inR_le' (hF.1 hz.2 0 _ _ rfl rfl)
    have hr1 := inR_le' (hF.1 hz.2 1 _ _ rfl rfl)
    have hr2 := inR_le' (hF.1 hz.2 2 _ _ rfl rfl)
    have hr3 := inR_le' (hF.1 hz.2 3 _ _ rfl rfl)
    have hr4 := inR_le' (hF.1 hz.2 4 _ _ rfl rfl)
    simp only at hr0 hr1 hr2 hr3 hr4
    obtain ⟨P, T, rfl, hP, hT⟩ := resB_at hre
    have hdt := inR_le' htm
    obtain ⟨⟨k0, n0⟩, rfl⟩ : ∃ x, vs = [x] := by
      match vs, hvl with
      | [x], _ => exact ⟨x, rfl⟩
    obtain ⟨rfl, hd⟩ := fit_u (hV.1 hV1 0 _ _ rfl rfl)
    have hp : 1 ≤ L ∧ L ≤ 15 ∧ -1000000000000 ≤ up ∧ up ≤ 1000000000000 ∧ -1000000000000 ≤ dn ∧ dn ≤ 1000000000000 ∧ 0 ≤ ud ∧ ud ≤ 86400 ∧ 0 ≤ dd ∧ dd ≤ 86400 := by omega
    have ks := step_stage L up dn ud dd n0 P T dt pa sa va pc sc vc w hm hp hd hP hT hdt hps hst hvs
    refine Calls.mono ks ?_
    rintro e w2 ⟨v, rfl, hown, hb⟩
    obtain ⟨a9, c9, rfl, i9⟩ := ins_own hown
    refine ⟨_, _, _, (by rw [hall]; rfl), ⟨fun h => absurd hall h, fun _ => ⟨rfl, rfl, a9, c9, rfl, i9⟩⟩, hb⟩
  · have HBD := Lib.hid hall
    have KB := Lib.hid (fun (W : World) (hb : Below w.heap.size w W) => begin_stage pa pc ps F W (hm.keep hb) (hps.keep hb) hF)
    have KT := Lib.hid (fun (W : World) => time_any dt W)
    have HVS := Lib.hid hvs
    have HST := Lib.hid hst
    have HPS := Lib.hid hps
    have HV := Lib.hid hV
    have HF := Lib.hid hF
    obtain ⟨N, hN⟩ : ∃ N, N = ps.length := ⟨_, rfl⟩
    obtain ⟨M, hM⟩ : ∃ M, M = st.length := ⟨_, rfl⟩
    obtain ⟨K, hK⟩ : ∃ M, M = vs.length := ⟨_, rfl⟩
    obtain ⟨E0, hE⟩ : ∃ x, x = begE [⟨⟨#[115, 116, 97, 103, 101, 115]⟩, 1, 15, 1⟩, ⟨⟨#[117, 112]⟩, (-1000000000000), 1000000000000, 0⟩, ⟨⟨#[100, 111, 119, 110]⟩, (-1000000000000), 1000000000000, 0⟩, ⟨⟨#[117, 112, 100, 101, 108, 97, 121]⟩, 0, 86400, 0⟩, ⟨⟨#[100, 111, 119, 110, 100, 101, 108, 97, 121]⟩, 0, 86400, 0⟩] ps F := ⟨_, rfl⟩
    have HNL := Lib.hid hN
    have HML := Lib.hid hM
    have HKL := Lib.hid hK
    have HE := Lib.hid hE
    have k63 : K ≤ 9223372036854775807 := by rw [hK]; exact hvs.2.1
    rw [← hE] at HBD ⊢
    rw [← hN, ← hE] at KB
    rw [← hN, ← hM, ← hK]
    obtain ⟨W1, g, hW1, hg1, RG, B1, sz1⟩ := box1 w #[.int .i64 0, .int .i64 0] 27
    have HG1 := Lib.hid RG
    have HB1 := Lib.hid B1
    have HGW := Lib.hid (show g = w.heap.size from hg1)
    have HGL := Lib.hid (show w.heap.size ≤ g by omega)
    have HW1 := Lib.hid (show w.heap.size + 1 ≤ W1.heap.size by omega)
    clear hm hps hst hvs hF hV hN hM hK hE hall RG B1 sz1
    by_cases hE0 : E0 = 0
    · subst hE0
      have hz := begE_zero' HE.out.symm
      obtain ⟨L, up, dn, ud, dd, rfl⟩ : ∃ x0 x1 x2 x3 x4, ps = [x0, x1, x2, x3, x4] := by
        match ps, hz.1 with
        | [x0, x1, x2, x3, x4], _ => exact ⟨x0, x1, x2, x3, x4, rfl⟩
      obtain rfl : N = 5 := HNL.out
      obtain ⟨pb, po, rfl, hpl, hpc⟩ := (show InS w pa 5 1 (flat iL [L, up, dn, ud, dd]) from HPS.out).at (xs := [L, up, dn, ud, dd]) iL_len (by simp)
      have p0 : w.cell? ⟨pb, po, none⟩ = some (.int .i64 L) := by have h := hpc 0 _ rfl 0 _ rfl; simpa using h
      have HP0 := Lib.hid p0
      have HSQ := Lib.hid (show ∀ b o, sa = some ⟨b, o, none⟩ → 0 < M → b < w.heap.size from fun b o e h => by
        obtain ⟨b2, o2, e2, hl, hc⟩ := HST.out.at iL_len (by have := HML.out; omega)
        rw [e2] at e
        injection e with e
        injection e with e1 e2
        rw [← e1]; exact hl)
      clear hz hpl hpc p0
      go_enter Tryd.func11, Tryd.ntmps11
      go_upto_region 1 with fail
      rw [← hW1]
      try rw [← hg1]
      clear hW1 hg1
      go_wp2_with fail
      refine (KB.out W1 HB1.out).mono ?_
      rintro e w2 ⟨R, rfl, hso, hb⟩
      have HB2 := Lib.hid (HB1.out.trans (hb.mono HB1.out.size))
      have HG2 := Lib.hid (HG1.out.keep hb)
      try rw [← HE.out] at hso
      obtain ⟨q, v1, v3, v5, a2, c2, rfl, hq, hrow, hil⟩ := hso (by first | rfl | trivial)
      have HQ := Lib.hid (show W1.heap.size ≤ q from hq)
      have HR2 := Lib.hid hrow
      have HI2 := Lib.hid hil
      have r2 := hrow.c 2 _ rfl
      clear hso hb hq hrow hil
      go_wp2_with fail
      refine (KT.out _).mono ?_
      rintro e w3 ⟨rfl, rfl⟩
      obtain ⟨TM, hTM⟩ : ∃ x, x = inR 1 dt 86400 := ⟨_, rfl⟩
      have HTM := Lib.hid hTM
      rw [← hTM]
      clear hTM
      cases TM
      · have g_0 := HG2.out.c 0 _ rfl
        have g_1 := HG2.out.c 1 _ rfl
        have g_z := HG2.out.fz
        go_wp2_with fail
        have hs := HG2.out.setRow [.int .i64 0, .int .i64 0] rfl
        have hB := set_below HB2.out HGL.out [.int .i64 0, .int .i64 0]
        have y0 : ((w2.setCell ⟨g, 0, none⟩ (.int .i64 0)).setCell ⟨g, 1, none⟩ (.int .i64 0)).cell? ⟨g, 0, none⟩ = some (.int .i64 0) := hs.c 0 _ rfl
        have y1 : ((w2.setCell ⟨g, 0, none⟩ (.int .i64 0)).setCell ⟨g, 1, none⟩ (.int .i64 0)).cell? ⟨g, 1, none⟩ = some (.int .i64 0) := hs.c 1 _ rfl
        (try simp only [Exit.inBlock, Exit.then])
        refine bodyPost_ret (by simp [results, Tryd.results11, go_sem, y0, y1]; try rfl) rfl ?_
        have hEE : (1 : Int) = stpE 0 (-6311433599) 1 [L, up, dn, ud, dd] st vs V dt := by unfold stpE; rw [if_neg (fun h => h rfl), if_pos (.inl HTM.out.symm)]
        rw [← hEE]
        exact ⟨_, _, _, rfl, ⟨fun _ => ⟨rfl, rfl, rfl⟩, fun h => absurd h (by decide)⟩, hB⟩
      · by_cases hK1 : K = 1
        · subst hK1
          go_wp2_with fail
          have kn := numbers_any q (.string ⟨#[115, 116, 97, 103, 101]⟩) v1 v3 (.int .i64 2) v5 (.slice (some ⟨pb, po, none⟩) 5 pc) (.int .i64 0) (.int .i64 0) a2 c2 [⟨⟨#[97]⟩, ⟨#[85]⟩⟩] vs va vc V w2 HR2.out HI2.out (HVS.out.keep HB2.out) HKL.out.symm (by rw [← HKL.out]; decide) (by intro x hx; simp at hx; subst hx; exact .inr rfl) HV.out
          rw [← HKL.out] at kn
          refine Calls.mono kn ?_
          rintro e w4 ⟨v, rfl, ho, hb⟩
          have HR4 := Lib.hid (HR2.out.keep hb)
          have HG4 := Lib.hid (HG2.out.keep hb)
          have HB4 := Lib.hid (HB2.out.trans (hb.mono HB2.out.size))
          clear kn hb r2
          have HNV := Lib.hid (show V = true → ∃ ib ic, v = .slice (some ⟨ib, 0, none⟩) 1 ic from fun h => by
            obtain ⟨ib, ic, rfl, _⟩ := own_cells (ho h) (by decide)
            exact ⟨ib, ic, rfl⟩)
          clear ho
          cases V
          · have g_0 := HG4.out.c 0 _ rfl
            have g_1 := HG4.out.c 1 _ rfl
            have g_z := HG4.out.fz
            go_wp2_with fail
            have hs := HG4.out.setRow [.int .i64 0, .int .i64 0] rfl
            have hB := set_below HB4.out HGL.out [.int .i64 0, .int .i64 0]
            have y0 : ((w4.setCell ⟨g, 0, none⟩ (.int .i64 0)).setCell ⟨g, 1, none⟩ (.int .i64 0)).cell? ⟨g, 0, none⟩ = some (.int .i64 0) := hs.c 0 _ rfl
            have y1 : ((w4.setCell ⟨g, 0, none⟩ (.int .i64 0)).setCell ⟨g, 1, none⟩ (.int .i64 0)).cell? ⟨g, 1, none⟩ = some (.int .i64 0) := hs.c 1 _ rfl
            (try simp only [Exit.inBlock, Exit.then])
            refine bodyPost_ret (by simp [results, Tryd.results11, go_sem, y0, y1]; try rfl) rfl ?_
            have hEE : (11 : Int) = stpE 0 (-6311433599) 1 [L, up, dn, ud, dd] st vs false dt := by unfold stpE; rw [if_neg (fun h => h rfl), if_neg (fun h => h.elim (fun h => by rw [← HTM.out] at h; cases h) (fun h => h (by rw [← HKL.out]))), if_pos rfl]
            rw [← hEE]
            exact ⟨_, _, _, rfl, ⟨fun _ => ⟨rfl, rfl, rfl⟩, fun h => absurd h (by decide)⟩, hB⟩
          · obtain ⟨ib, ic, rfl⟩ := HNV.out rfl
            have hRB : resB (-6311433599) L st = false := by
              cases h : resB (-6311433599) L st with
              | false => rfl
              | true => exact absurd (show stpE 0 (-6311433599) 1 [L, up, dn, ud, dd] st vs true dt = 0 by unfold stpE; rw [if_neg (fun h => h rfl), if_neg (fun h => h.elim (fun h => by rw [← HTM.out] at h; cases h) (fun h => h (by rw [← HKL.out]))), if_neg (by decide), if_neg (show ¬ resB (-6311433599) ([L, up, dn, ud, dd].getD 0 0) st = false by show ¬ resB (-6311433599) L st = false; rw [h]; decide)]) HBD.out
            have HRB := Lib.hid hRB
            clear hRB
            go_wp2_with fail
            have kr := resume_stage q pb po pc v1 (.slice a2 1 c2) v3 v5 L sa sc st w4 HR4.out (cell_below HP0.out HB4.out) (HST.out.keep HB4.out) (fun b o e hbq => by have h1 := HSQ.out b o e (by rw [HML.out]; exact hbq); have h2 := HQ.out; have h3 := HW1.out; omega)
            rw [resE_no HRB.out, ← HML.out] at kr
            refine Calls.mono kr ?_
            rintro e w5 ⟨rfl, hrow, hg⟩
            have HG5 := Lib.hid (row_grown HG4.out hg (fun e => by injection e with e; have h1 := HQ.out; have h2 := HW1.out; have h3 := HGW.out; omega))
            have HB5 := Lib.hid (HB4.out.grown hg (by have := HB4.out.size; omega) (fun z e => by cases e; have h1 := HQ.out; have h2 := HW1.out; omega))
            clear kr hrow hg
            have g_0 := HG5.out.c 0 _ rfl
            have g_1 := HG5.out.c 1 _ rfl
            have g_z := HG5.out.fz
            go_wp2_with fail
            have hs := HG5.out.setRow [.int .i64 0, .int .i64 0] rfl
            have hB := set_below HB5.out HGL.out [.int .i64 0, .int .i64 0]
            have y0 : ((w5.setCell ⟨g, 0, none⟩ (.int .i64 0)).setCell ⟨g, 1, none⟩ (.int .i64 0)).cell? ⟨g, 0, none⟩ = some (.int .i64 0) := hs.c 0 _ rfl
            have y1 : ((w5.setCell ⟨g, 0, none⟩ (.int .i64 0)).setCell ⟨g, 1, none⟩ (.int .i64 0)).cell? ⟨g, 1, none⟩ = some (.int .i64 0) := hs.c 1 _ rfl
            (try simp only [Exit.inBlock, Exit.then])
            refine bodyPost_ret (by simp [results, Tryd.results11, go_sem, y0, y1]; try rfl) rfl ?_
            have hEE : (8 : Int) = stpE 0 (-6311433599) 1 [L, up, dn, ud, dd] st vs true dt := by unfold stpE; rw [if_neg (fun h => h rfl), if_neg (fun h => h.elim (fun h => by rw [← HTM.out] at h; cases h) (fun h => h (by rw [← HKL.out]))), if_neg (by decide), if_pos (show resB (-6311433599) ([L, up, dn, ud, dd].getD 0 0) st = false from HRB.out)]
            rw [← hEE]
            exact ⟨_, _, _, rfl, ⟨fun _ => ⟨rfl, rfl, rfl⟩, fun h => absurd h (by decide)⟩, hB⟩
        · have hK2 : ¬ ((K : Int) = 1) := by omega
          have HK1 := Lib.hid hK1
          clear hK1
          have g_0 := HG2.out.c 0 _ rfl
          have g_1 := HG2.out.c 1 _ rfl
          have g_z := HG2.out.fz
          go_wp2_with fail
          have hs := HG2.out.setRow [.int .i64 0, .int .i64 0] rfl
          have hB := set_below HB2.out HGL.out [.int .i64 0, .int .i64 0]
          have y0 : ((w2.setCell ⟨g, 0, none⟩ (.int .i64 0)).setCell ⟨g, 1, none⟩ (.int .i64 0)).cell? ⟨g, 0, none⟩ = some (.int .i64 0) := hs.c 0 _ rfl
          have y1 : ((w2.setCell ⟨g, 0, none⟩ (.int .i64 0)).setCell ⟨g, 1, none⟩ (.int .i64 0)).cell? ⟨g, 1, none⟩ = some (.int .i64 0) := hs.c 1 _ rfl
          (try simp only [Exit.inBlock, Exit.then])
          refine bodyPost_ret (by simp [results, Tryd.results11, go_sem, y0, y1]; try rfl) rfl ?_
          have hEE : (1 : Int) = stpE 0 (-6311433599) 1 [L, up, dn, ud, dd] st vs V dt := by unfold stpE; rw [if_neg (fun h => h rfl), if_pos (.inr (fun h => HK1.out (by rw [HKL.out, h])))]
          rw [← hEE]
          exact ⟨_, _, _, rfl, ⟨fun _ => ⟨rfl, rfl, rfl⟩, fun h => absurd h (by decide)⟩, hB⟩
    · have e1 : (E0 == 0) = false := by rw [beq_eq_false_iff_ne]; exact hE0
      have e2 : (E0 != 0) = true := by rw [bne, e1]; rfl
      go_enter Tryd.func11, Tryd.ntmps11
      go_upto_region 1 with fail
      rw [← hW1]
      try rw [← hg1]
      clear hW1 hg1
      go_wp2_with fail
      refine (KB.out W1 HB1.out).mono ?_
      rintro e w2 ⟨R, rfl, hso, hb⟩
      have HB2 := Lib.hid (HB1.out.trans (hb.mono HB1.out.size))
      have HG2 := Lib.hid (HG1.out.keep hb)
      clear hso hb
      have g_0 := HG2.out.c 0 _ rfl
      have g_1 := HG2.out.c 1 _ rfl
      have g_z := HG2.out.fz
      go_wp2_with fail
      have hs := HG2.out.setRow [.int .i64 0, .int .i64 0] rfl
      have hB := set_below HB2.out HGL.out [.int .i64 0, .int .i64 0]
      have y0 : ((w2.setCell ⟨g, 0, none⟩ (.int .i64 0)).setCell ⟨g, 1, none⟩ (.int .i64 0)).cell? ⟨g, 0, none⟩ = some (.int .i64 0) := hs.c 0 _ rfl
      have y1 : ((w2.setCell ⟨g, 0, none⟩ (.int .i64 0)).setCell ⟨g, 1, none⟩ (.int .i64 0)).cell? ⟨g, 1, none⟩ = some (.int .i64 0) := hs.c 1 _ rfl
      (try simp only [Exit.inBlock, Exit.then])
      refine bodyPost_ret (by simp [results, Tryd.results11, go_sem, y0, y1]; try rfl) rfl ?_
      have hEE : E0 = stpE E0 (-6311433599) 1 ps st vs V dt := by unfold stpE; rw [if_pos hE0]
      rw [← hEE]
      exact ⟨_, _, _, rfl, ⟨fun _ => ⟨rfl, rfl, rfl⟩, fun h => absurd h hE0⟩, hB⟩
set_option maxHeartbeats 8000000 in
set_option maxRecDepth 100000 in
theorem step_steps_any (pa sa va : Option Addr) (pc sc vc : Nat) (ps st : List Int) (vs : List VD) (F V : Bool) (dt : Int) (w : World) (hm : MaxAt w) (hps : InS w pa ps.length 1 (flat iL ps)) (hst : InS w sa st.length 1 (flat iL st)) (hvs : InS w va vs.length 2 (flat vdL vs))
    (hF : F = true ↔ ∀ (k : Nat) (x : BndD) (y : Int), ([⟨⟨#[99, 111, 117, 110, 116]⟩, 1, 15, 1⟩, ⟨⟨#[108, 101, 97, 115, 116]⟩, 0, 86400, 0⟩] : List BndD)[k]? = some x → ps[k]? = some y → inR x.lo y x.hi = true) (hV : V = true ↔ ∀ (k : Nat) (x : PortD) (y : VD), ([⟨⟨#[103, 111]⟩, ⟨#[98, 105, 110, 97, 114, 121]⟩⟩, ⟨⟨#[110, 101, 120, 116]⟩, ⟨#[98, 105, 110, 97, 114, 121]⟩⟩] : List PortD)[k]? = some x → vs[k]? = some y → fitQ x.ty y.k y.n = true) :
    Calls Tryd.prog 11 #[.string ⟨#[115, 116, 101, 112, 115]⟩, .slice pa ps.length pc, .slice sa st.length sc, .slice va vs.length vc, .int .i64 dt] w fun e w' => ∃ v k n, e = .returned (.tuple #[v, .agg #[.int .i64 k, .int .i64 n], .int .i64 (stpE (begE [⟨⟨#[99, 111, 117, 110, 116]⟩, 1, 15, 1⟩, ⟨⟨#[108, 101, 97, 115, 116]⟩, 0, 86400, 0⟩] ps F) 0 2 ps st vs V dt)]) ∧ StpA w' (stpE (begE [⟨⟨#[99, 111, 117, 110, 116]⟩, 1, 15, 1⟩, ⟨⟨#[108, 101, 97, 115, 116]⟩, 0, 86400, 0⟩] ps F) 0 2 ps st vs V dt) (stepsS (ps.getD 0 0) (ps.getD 1 0) ((vs.getD 0 ⟨0, 0⟩).n == 1) ((vs.getD 1 ⟨0, 0⟩).n == 1) dt (st.getD 0 0) (st.getD 1 0)) v k n ∧ Below w.heap.size w w' := by
  by_cases hall : stpE (begE [⟨⟨#[99, 111, 117, 110, 116]⟩, 1, 15, 1⟩, ⟨⟨#[108, 101, 97, 115, 116]⟩, 0, 86400, 0⟩] ps F) 0 2 ps st vs V dt = 0
  · have hz0 := stpE_zero hall
    obtain ⟨hbe, htm, hvl, hV1, hre⟩ := hz0
    have hz := begE_zero2 hbe
    obtain ⟨L, least, rfl⟩ : ∃ x0 x1, ps = [x0, x1] := by
      match ps, hz.1 with
      | [x0, x1], _ => exact ⟨x0, x1, rfl⟩
    have hr0 := inR_le' (hF.1 hz.2 0 _ _ rfl rfl)
    have hr1 := inR_le' (hF.1 hz.2 1 _ _ rfl rfl)
    simp only at hr0 hr1
    obtain ⟨P, T, rfl, hP, hT⟩ := resB_at hre
    have hdt := inR_le' htm
    obtain ⟨⟨k0, n0⟩, ⟨k1, n1⟩, rfl⟩ : ∃ x y, vs = [x, y] := by
      match vs, hvl with
      | [x, y], _ => exact ⟨x, y, rfl⟩
    obtain ⟨rfl, hd0⟩ := fit_bin (hV.1 hV1 0 _ _ rfl rfl)
    obtain ⟨rfl, hd1⟩ := fit_bin (hV.1 hV1 1 _ _ rfl rfl)
    have hp : 1 ≤ L ∧ L ≤ 15 ∧ 0 ≤ least ∧ least ≤ 86400 := by omega
    have ks := step_steps L least n0 n1 P T dt pa sa va pc sc vc w hm hp ⟨hd0, hd1⟩ hP hT hdt hps hst hvs
    refine Calls.mono ks ?_
    rintro e w2 ⟨v, rfl, hown, hb⟩
    obtain ⟨a9, c9, rfl, i9⟩ := ins_own hown
    refine ⟨_, _, _, (by rw [hall]; rfl), ⟨fun h => absurd hall h, fun _ => ⟨rfl, rfl, a9, c9, rfl, i9⟩⟩, hb⟩
  · have HBD := Lib.hid hall
    have KB := Lib.hid (fun (W : World) (hb : Below w.heap.size w W) => begin_steps pa pc ps F W (hm.keep hb) (hps.keep hb) hF)
    have KT := Lib.hid (fun (W : World) => time_any dt W)
    have HVS := Lib.hid hvs
    have HST := Lib.hid hst
    have HPS := Lib.hid hps
    have HV := Lib.hid hV
    have HF := Lib.hid hF
    obtain ⟨N, hN⟩ : ∃ N, N = ps.length := ⟨_, rfl⟩
    obtain ⟨M, hM⟩ : ∃ M, M = st.length := ⟨_, rfl⟩
    obtain ⟨K, hK⟩ : ∃ M, M = vs.length := ⟨_, rfl⟩
    obtain ⟨E0, hE⟩ : ∃ x, x = begE [⟨⟨#[99, 111, 117, 110, 116]⟩, 1, 15, 1⟩, ⟨⟨#[108, 101, 97, 115, 116]⟩, 0, 86400, 0⟩] ps F := ⟨_, rfl⟩
    have HNL := Lib.hid hN
    have HML := Lib.hid hM
    have HKL := Lib.hid hK
    have HE := Lib.hid hE
    have k63 : K ≤ 9223372036854775807 := by rw [hK]; exact hvs.2.1
    rw [← hE] at HBD ⊢
    rw [← hN, ← hE] at KB
    rw [← hN, ← hM, ← hK]
    obtain ⟨W1, g, hW1, hg1, RG, B1, sz1⟩ := box1 w #[.int .i64 0, .int .i64 0] 27
    have HG1 := Lib.hid RG
    have HB1 := Lib.hid B1
    have HGW := Lib.hid (show g = w.heap.size from hg1)
    have HGL := Lib.hid (show w.heap.size ≤ g by omega)
    have HW1 := Lib.hid (show w.heap.size + 1 ≤ W1.heap.size by omega)
    clear hm hps hst hvs hF hV hN hM hK hE hall RG B1 sz1
    by_cases hE0 : E0 = 0
    · subst hE0
      have hz := begE_zero2 HE.out.symm
      obtain ⟨L, least, rfl⟩ : ∃ x0 x1, ps = [x0, x1] := by
        match ps, hz.1 with
        | [x0, x1], _ => exact ⟨x0, x1, rfl⟩
      obtain rfl : N = 2 := HNL.out
      obtain ⟨pb, po, rfl, hpl, hpc⟩ := (show InS w pa 2 1 (flat iL [L, least]) from HPS.out).at (xs := [L, least]) iL_len (by simp)
      have p0 : w.cell? ⟨pb, po, none⟩ = some (.int .i64 L) := by have h := hpc 0 _ rfl 0 _ rfl; simpa using h
      have HP0 := Lib.hid p0
      have HSQ := Lib.hid (show ∀ b o, sa = some ⟨b, o, none⟩ → 0 < M → b < w.heap.size from fun b o e h => by
        obtain ⟨b2, o2, e2, hl, hc⟩ := HST.out.at iL_len (by have := HML.out; omega)
        rw [e2] at e
        injection e with e
        injection e with e1 e2
        rw [← e1]; exact hl)
      clear hz hpl hpc p0
      go_enter Tryd.func11, Tryd.ntmps11
      go_upto_region 1 with fail
      rw [← hW1]
      try rw [← hg1]
      clear hW1 hg1
      go_wp2_with fail
      refine (KB.out W1 HB1.out).mono ?_
      rintro e w2 ⟨R, rfl, hso, hb⟩
      have HB2 := Lib.hid (HB1.out.trans (hb.mono HB1.out.size))
      have HG2 := Lib.hid (HG1.out.keep hb)
      try rw [← HE.out] at hso
      obtain ⟨q, v1, v3, v5, a2, c2, rfl, hq, hrow, hil⟩ := hso (by first | rfl | trivial)
      have HQ := Lib.hid (show W1.heap.size ≤ q from hq)
      have HR2 := Lib.hid hrow
      have HI2 := Lib.hid hil
      have r2 := hrow.c 2 _ rfl
      clear hso hb hq hrow hil
      go_wp2_with fail
      refine (KT.out _).mono ?_
      rintro e w3 ⟨rfl, rfl⟩
      obtain ⟨TM, hTM⟩ : ∃ x, x = inR 1 dt 86400 := ⟨_, rfl⟩
      have HTM := Lib.hid hTM
      rw [← hTM]
      clear hTM
      cases TM
      · have g_0 := HG2.out.c 0 _ rfl
        have g_1 := HG2.out.c 1 _ rfl
        have g_z := HG2.out.fz
        go_wp2_with fail
        have hs := HG2.out.setRow [.int .i64 0, .int .i64 0] rfl
        have hB := set_below HB2.out HGL.out [.int .i64 0, .int .i64 0]
        have y0 : ((w2.setCell ⟨g, 0, none⟩ (.int .i64 0)).setCell ⟨g, 1, none⟩ (.int .i64 0)).cell? ⟨g, 0, none⟩ = some (.int .i64 0) := hs.c 0 _ rfl
        have y1 : ((w2.setCell ⟨g, 0, none⟩ (.int .i64 0)).setCell ⟨g, 1, none⟩ (.int .i64 0)).cell? ⟨g, 1, none⟩ = some (.int .i64 0) := hs.c 1 _ rfl
        (try simp only [Exit.inBlock, Exit.then])
        refine bodyPost_ret (by simp [results, Tryd.results11, go_sem, y0, y1]; try rfl) rfl ?_
        have hEE : (1 : Int) = stpE 0 0 2 [L, least] st vs V dt := by unfold stpE; rw [if_neg (fun h => h rfl), if_pos (.inl HTM.out.symm)]
        rw [← hEE]
        exact ⟨_, _, _, rfl, ⟨fun _ => ⟨rfl, rfl, rfl⟩, fun h => absurd h (by decide)⟩, hB⟩
      · by_cases hK1 : K = 2
        · subst hK1
          go_wp2_with fail
          have kn := numbers_any q (.string ⟨#[115, 116, 101, 112, 115]⟩) v1 v3 (.int .i64 2) v5 (.slice (some ⟨pb, po, none⟩) 2 pc) (.int .i64 0) (.int .i64 0) a2 c2 [⟨⟨#[103, 111]⟩, ⟨#[98, 105, 110, 97, 114, 121]⟩⟩, ⟨⟨#[110, 101, 120, 116]⟩, ⟨#[98, 105, 110, 97, 114, 121]⟩⟩] vs va vc V w2 HR2.out HI2.out (HVS.out.keep HB2.out) HKL.out.symm (by rw [← HKL.out]; decide) (by intro x hx; simp at hx; rcases hx with rfl | rfl <;> exact .inl rfl) HV.out
          rw [← HKL.out] at kn
          refine Calls.mono kn ?_
          rintro e w4 ⟨v, rfl, ho, hb⟩
          have HR4 := Lib.hid (HR2.out.keep hb)
          have HG4 := Lib.hid (HG2.out.keep hb)
          have HB4 := Lib.hid (HB2.out.trans (hb.mono HB2.out.size))
          clear kn hb r2
          have HNV := Lib.hid (show V = true → ∃ ib ic, v = .slice (some ⟨ib, 0, none⟩) 2 ic from fun h => by
            obtain ⟨ib, ic, rfl, _⟩ := own_cells (ho h) (by decide)
            exact ⟨ib, ic, rfl⟩)
          clear ho
          cases V
          · have g_0 := HG4.out.c 0 _ rfl
            have g_1 := HG4.out.c 1 _ rfl
            have g_z := HG4.out.fz
            go_wp2_with fail
            have hs := HG4.out.setRow [.int .i64 0, .int .i64 0] rfl
            have hB := set_below HB4.out HGL.out [.int .i64 0, .int .i64 0]
            have y0 : ((w4.setCell ⟨g, 0, none⟩ (.int .i64 0)).setCell ⟨g, 1, none⟩ (.int .i64 0)).cell? ⟨g, 0, none⟩ = some (.int .i64 0) := hs.c 0 _ rfl
            have y1 : ((w4.setCell ⟨g, 0, none⟩ (.int .i64 0)).setCell ⟨g, 1, none⟩ (.int .i64 0)).cell? ⟨g, 1, none⟩ = some (.int .i64 0) := hs.c 1 _ rfl
            (try simp only [Exit.inBlock, Exit.then])
            refine bodyPost_ret (by simp [results, Tryd.results11, go_sem, y0, y1]; try rfl) rfl ?_
            have hEE : (11 : Int) = stpE 0 0 2 [L, least] st vs false dt := by unfold stpE; rw [if_neg (fun h => h rfl), if_neg (fun h => h.elim (fun h => by rw [← HTM.out] at h; cases h) (fun h => h (by rw [← HKL.out]))), if_pos rfl]
            rw [← hEE]
            exact ⟨_, _, _, rfl, ⟨fun _ => ⟨rfl, rfl, rfl⟩, fun h => absurd h (by decide)⟩, hB⟩
          · obtain ⟨ib, ic, rfl⟩ := HNV.out rfl
            have hRB : resB 0 L st = false := by
              cases h : resB 0 L st with
              | false => rfl
              | true => exact absurd (show stpE 0 0 2 [L, least] st vs true dt = 0 by unfold stpE; rw [if_neg (fun h => h rfl), if_neg (fun h => h.elim (fun h => by rw [← HTM.out] at h; cases h) (fun h => h (by rw [← HKL.out]))), if_neg (by decide), if_neg (show ¬ resB 0 ([L, least].getD 0 0) st = false by show ¬ resB 0 L st = false; rw [h]; decide)]) HBD.out
            have HRB := Lib.hid hRB
            clear hRB
            go_wp2_with fail
            have kr := resume_steps q pb po pc v1 (.slice a2 2 c2) v3 v5 L sa sc st w4 HR4.out (cell_below HP0.out HB4.out) (HST.out.keep HB4.out) (fun b o e hbq => by have h1 := HSQ.out b o e (by rw [HML.out]; exact hbq); have h2 := HQ.out; have h3 := HW1.out; omega)
            rw [resE_no HRB.out, ← HML.out] at kr
            refine Calls.mono kr ?_
            rintro e w5 ⟨rfl, hrow, hg⟩
            have HG5 := Lib.hid (row_grown HG4.out hg (fun e => by injection e with e; have h1 := HQ.out; have h2 := HW1.out; have h3 := HGW.out; omega))
            have HB5 := Lib.hid (HB4.out.grown hg (by have := HB4.out.size; omega) (fun z e => by cases e; have h1 := HQ.out; have h2 := HW1.out; omega))
            clear kr hrow hg
            have g_0 := HG5.out.c 0 _ rfl
            have g_1 := HG5.out.c 1 _ rfl
            have g_z := HG5.out.fz
            go_wp2_with fail
            have hs := HG5.out.setRow [.int .i64 0, .int .i64 0] rfl
            have hB := set_below HB5.out HGL.out [.int .i64 0, .int .i64 0]
            have y0 : ((w5.setCell ⟨g, 0, none⟩ (.int .i64 0)).setCell ⟨g, 1, none⟩ (.int .i64 0)).cell? ⟨g, 0, none⟩ = some (.int .i64 0) := hs.c 0 _ rfl
            have y1 : ((w5.setCell ⟨g, 0, none⟩ (.int .i64 0)).setCell ⟨g, 1, none⟩ (.int .i64 0)).cell? ⟨g, 1, none⟩ = some (.int .i64 0) := hs.c 1 _ rfl
            (try simp only [Exit.inBlock, Exit.then])
            refine bodyPost_ret (by simp [results, Tryd.results11, go_sem, y0, y1]; try rfl) rfl ?_
            have hEE : (8 : Int) = stpE 0 0 2 [L, least] st vs true dt := by unfold stpE; rw [if_neg (fun h => h rfl), if_neg (fun h => h.elim (fun h => by rw [← HTM.out] at h; cases h) (fun h => h (by rw [← HKL.out]))), if_neg (by decide), if_pos (show resB 0 ([L, least].getD 0 0) st = false from HRB.out)]
            rw [← hEE]
            exact ⟨_, _, _, rfl, ⟨fun _ => ⟨rfl, rfl, rfl⟩, fun h => absurd h (by decide)⟩, hB⟩
        · have hK2 : ¬ ((K : Int) = 2) := by omega
          have HK1 := Lib.hid hK1
          clear hK1
          have g_0 := HG2.out.c 0 _ rfl
          have g_1 := HG2.out.c 1 _ rfl
          have g_z := HG2.out.fz
          go_wp2_with fail
          have hs := HG2.out.setRow [.int .i64 0, .int .i64 0] rfl
          have hB := set_below HB2.out HGL.out [.int .i64 0, .int .i64 0]
          have y0 : ((w2.setCell ⟨g, 0, none⟩ (.int .i64 0)).setCell ⟨g, 1, none⟩ (.int .i64 0)).cell? ⟨g, 0, none⟩ = some (.int .i64 0) := hs.c 0 _ rfl
          have y1 : ((w2.setCell ⟨g, 0, none⟩ (.int .i64 0)).setCell ⟨g, 1, none⟩ (.int .i64 0)).cell? ⟨g, 1, none⟩ = some (.int .i64 0) := hs.c 1 _ rfl
          (try simp only [Exit.inBlock, Exit.then])
          refine bodyPost_ret (by simp [results, Tryd.results11, go_sem, y0, y1]; try rfl) rfl ?_
          have hEE : (1 : Int) = stpE 0 0 2 [L, least] st vs V dt := by unfold stpE; rw [if_neg (fun h => h rfl), if_pos (.inr (fun h => HK1.out (by rw [HKL.out, h])))]
          rw [← hEE]
          exact ⟨_, _, _, rfl, ⟨fun _ => ⟨rfl, rfl, rfl⟩, fun h => absurd h (by decide)⟩, hB⟩
    · have e1 : (E0 == 0) = false := by rw [beq_eq_false_iff_ne]; exact hE0
      have e2 : (E0 != 0) = true := by rw [bne, e1]; rfl
      go_enter Tryd.func11, Tryd.ntmps11
      go_upto_region 1 with fail
      rw [← hW1]
      try rw [← hg1]
      clear hW1 hg1
      go_wp2_with fail
      refine (KB.out W1 HB1.out).mono ?_
      rintro e w2 ⟨R, rfl, hso, hb⟩
      have HB2 := Lib.hid (HB1.out.trans (hb.mono HB1.out.size))
      have HG2 := Lib.hid (HG1.out.keep hb)
      clear hso hb
      have g_0 := HG2.out.c 0 _ rfl
      have g_1 := HG2.out.c 1 _ rfl
      have g_z := HG2.out.fz
      go_wp2_with fail
      have hs := HG2.out.setRow [.int .i64 0, .int .i64 0] rfl
      have hB := set_below HB2.out HGL.out [.int .i64 0, .int .i64 0]
      have y0 : ((w2.setCell ⟨g, 0, none⟩ (.int .i64 0)).setCell ⟨g, 1, none⟩ (.int .i64 0)).cell? ⟨g, 0, none⟩ = some (.int .i64 0) := hs.c 0 _ rfl
      have y1 : ((w2.setCell ⟨g, 0, none⟩ (.int .i64 0)).setCell ⟨g, 1, none⟩ (.int .i64 0)).cell? ⟨g, 1, none⟩ = some (.int .i64 0) := hs.c 1 _ rfl
      (try simp only [Exit.inBlock, Exit.then])
      refine bodyPost_ret (by simp [results, Tryd.results11, go_sem, y0, y1]; try rfl) rfl ?_
      have hEE : E0 = stpE E0 0 2 ps st vs V dt := by unfold stpE; rw [if_pos hE0]
      rw [← hEE]
      exact ⟨_, _, _, rfl, ⟨fun _ => ⟨rfl, rfl, rfl⟩, fun h => absurd h hE0⟩, hB⟩
theorem begin_other (s : ByteArray) (h1 : ¬ s = ⟨#[115, 116, 97, 103, 101]⟩) (h2 : ¬ s = ⟨#[115, 116, 101, 112, 115]⟩) (v : Value) (w : World) : Calls Tryd.prog 23 #[.string s, v] w fun e w' => e = .returned (.tuple #[.pointer none, .int .i64 3]) ∧ Below w.heap.size w w' := by
  have e1 : (s.toList == [115, 116, 97, 103, 101]) = false := by have h := eqs_no h1; rw [toList_eq ⟨#[115, 116, 97, 103, 101]⟩] at h; exact h
  have e2 : (s.toList == [115, 116, 101, 112, 115]) = false := by have h := eqs_no h2; rw [toList_eq ⟨#[115, 116, 101, 112, 115]⟩] at h; exact h
  clear h1 h2
  go_enter Tryd.func23, Tryd.ntmps23
  go_wp2_with fail
  go_ret2
  exact ⟨rfl, Below.refl _ _⟩
theorem check_other (s : ByteArray) (h1 : ¬ s = ⟨#[115, 116, 97, 103, 101]⟩) (h2 : ¬ s = ⟨#[115, 116, 101, 112, 115]⟩) (a : Option Addr) (n c : Nat) (w : World) : Calls Tryd.prog 14 #[.string s, .slice a n c] w fun e w' => e = .returned (.int .i64 3) ∧ Below w.heap.size w w' := by
  have KB := Lib.hid (begin_other s h1 h2 (.slice a n c) w)
  clear h1 h2
  go_enter Tryd.func14, Tryd.ntmps14
  go_wp2_with fail
  refine KB.out.mono ?_
  rintro e w2 ⟨rfl, hb⟩
  go_wp2_with fail
  go_ret
  exact ⟨rfl, hb⟩
theorem step_other (s : ByteArray) (h1 : ¬ s = ⟨#[115, 116, 97, 103, 101]⟩) (h2 : ¬ s = ⟨#[115, 116, 101, 112, 115]⟩) (pa sa va : Option Addr) (pn pc sn sc vn vc : Nat) (dt : Int) (w : World) : Calls Tryd.prog 11 #[.string s, .slice pa pn pc, .slice sa sn sc, .slice va vn vc, .int .i64 dt] w fun e w' => ∃ v k n, e = .returned (.tuple #[v, .agg #[.int .i64 k, .int .i64 n], .int .i64 3]) ∧ StpA w' 3 (0, 0) v k n ∧ Below w.heap.size w w' := by
  obtain ⟨W1, g, hW1, hg1, RG, B1, sz1⟩ := box1 w #[.int .i64 0, .int .i64 0] 27
  have KB := Lib.hid (fun W => begin_other s h1 h2 (.slice pa pn pc) W)
  have HG1 := Lib.hid RG
  have HB1 := Lib.hid B1
  have HGL := Lib.hid (show w.heap.size ≤ g by omega)
  clear h1 h2 RG B1 sz1
  go_enter Tryd.func11, Tryd.ntmps11
  go_upto_region 1 with fail
  rw [← hW1]
  try rw [← hg1]
  clear hW1 hg1
  go_wp2_with fail
  refine (KB.out W1).mono ?_
  rintro e w2 ⟨rfl, hb⟩
  have HB2 := Lib.hid (HB1.out.trans (hb.mono HB1.out.size))
  have HG2 := Lib.hid (HG1.out.keep hb)
  clear hb
  have g_0 := HG2.out.c 0 _ rfl
  have g_1 := HG2.out.c 1 _ rfl
  have g_z := HG2.out.fz
  go_wp2_with fail
  have hs := HG2.out.setRow [.int .i64 0, .int .i64 0] rfl
  have hB := set_below HB2.out HGL.out [.int .i64 0, .int .i64 0]
  have y0 : ((w2.setCell ⟨g, 0, none⟩ (.int .i64 0)).setCell ⟨g, 1, none⟩ (.int .i64 0)).cell? ⟨g, 0, none⟩ = some (.int .i64 0) := hs.c 0 _ rfl
  have y1 : ((w2.setCell ⟨g, 0, none⟩ (.int .i64 0)).setCell ⟨g, 1, none⟩ (.int .i64 0)).cell? ⟨g, 1, none⟩ = some (.int .i64 0) := hs.c 1 _ rfl
  (try simp only [Exit.inBlock, Exit.then])
  refine bodyPost_ret (by simp [results, Tryd.results11, go_sem, y0, y1]; try rfl) rfl ?_
  exact ⟨_, _, _, rfl, ⟨fun _ => ⟨rfl, rfl, rfl⟩, fun h => absurd h (by decide)⟩, hB⟩
end Go.Proofs.YthaigchklogjlaaDoor
