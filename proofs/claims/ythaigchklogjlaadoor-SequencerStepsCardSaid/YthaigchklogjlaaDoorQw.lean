/- Contract of plenumref21.Step for any arguments. -/
import Derived.Test.YthaigchklogjlaaDoorQv
import Derived.Deep.QuietTactic
import Derived.BigQuiet
namespace Go.Proofs.YthaigchklogjlaaDoor
open Go.RowKit Go.Shelf

set_option linter.unusedVariables false
set_option linter.unusedSimpArgs false
set_option maxHeartbeats 8000000 in
set_option maxRecDepth 100000 in
theorem rstep_stage_any (pa sa va : Option Addr) (pc sc vc : Nat) (ps st : List Int) (vs : List VD) (F V : Bool) (dt : Int) (w : World) (hps : InS w pa ps.length 1 (flat iL ps)) (hst : InS w sa st.length 1 (flat iL st)) (hvs : InS w va vs.length 2 (flat vdL vs))
    (hF : F = true ↔ ∀ (k : Nat) (x : BndD) (y : Int), ([⟨⟨#[115, 116, 97, 103, 101, 115]⟩, 1, 15, 1⟩, ⟨⟨#[117, 112]⟩, (-1000000000000), 1000000000000, 0⟩, ⟨⟨#[100, 111, 119, 110]⟩, (-1000000000000), 1000000000000, 0⟩, ⟨⟨#[117, 112, 100, 101, 108, 97, 121]⟩, 0, 86400, 0⟩, ⟨⟨#[100, 111, 119, 110, 100, 101, 108, 97, 121]⟩, 0, 86400, 0⟩] : List BndD)[k]? = some x → ps[k]? = some y → inR x.lo y x.hi = true) (hV : V = true ↔ ∀ (k : Nat) (x : PortD) (y : VD), ([⟨⟨#[97]⟩, ⟨#[85]⟩⟩] : List PortD)[k]? = some x → vs[k]? = some y → fitQ x.ty y.k y.n = true) :
    Calls Tryd.prog 12 #[.string ⟨#[115, 116, 97, 103, 101]⟩, .slice pa ps.length pc, .slice sa st.length sc, .slice va vs.length vc, .int .i64 dt] w fun e w' => ∃ v k n, e = .returned (.tuple #[v, .agg #[.int .i64 k, .int .i64 n], .int .i64 (stpE (begE [⟨⟨#[115, 116, 97, 103, 101, 115]⟩, 1, 15, 1⟩, ⟨⟨#[117, 112]⟩, (-1000000000000), 1000000000000, 0⟩, ⟨⟨#[100, 111, 119, 110]⟩, (-1000000000000), 1000000000000, 0⟩, ⟨⟨#[117, 112, 100, 101, 108, 97, 121]⟩, 0, 86400, 0⟩, ⟨⟨#[100, 111, 119, 110, 100, 101, 108, 97, 121]⟩, 0, 86400, 0⟩] ps F) (-6311433599) 1 ps st vs V dt)]) ∧ StpA w' (stpE (begE [⟨⟨#[115, 116, 97, 103, 101, 115]⟩, 1, 15, 1⟩, ⟨⟨#[117, 112]⟩, (-1000000000000), 1000000000000, 0⟩, ⟨⟨#[100, 111, 119, 110]⟩, (-1000000000000), 1000000000000, 0⟩, ⟨⟨#[117, 112, 100, 101, 108, 97, 121]⟩, 0, 86400, 0⟩, ⟨⟨#[100, 111, 119, 110, 100, 101, 108, 97, 121]⟩, 0, 86400, 0⟩] ps F) (-6311433599) 1 ps st vs V dt) (stageS (ps.getD 0 0) (ps.getD 1 0) (ps.getD 2 0) (ps.getD 3 0) (ps.getD 4 0) (vs.getD 0 ⟨0, 0⟩).n dt (st.getD 0 0) (st.getD 1 0)) v k n ∧ Below w.heap.size w w' := by
  have KC := Lib.hid (fun (W : World) (hb : Below w.heap.size w W) => rcheck_stage pa pc ps F W (hps.keep hb) hF)
  have KT := Lib.hid (fun (W : World) => rtime_any dt W)
  have HVS := Lib.hid hvs
  have HST := Lib.hid hst
  have HPS := Lib.hid hps
  have HV := Lib.hid hV
  have HF := Lib.hid hF
  obtain ⟨N, hN⟩ : ∃ N, N = ps.length := ⟨_, rfl⟩
  obtain ⟨M, hM⟩ : ∃ M, M = st.length := ⟨_, rfl⟩
  obtain ⟨K, hK⟩ : ∃ M, M = vs.length := ⟨_, rfl⟩
  obtain ⟨E0, hE⟩ : ∃ x, x = begE [⟨⟨#[115, 116, 97, 103, 101, 115]⟩, 1, 15, 1⟩, ⟨⟨#[117, 112]⟩, (-1000000000000), 1000000000000, 0⟩, ⟨⟨#[100, 111, 119, 110]⟩, (-1000000000000), 1000000000000, 0⟩, ⟨⟨#[117, 112, 100, 101, 108, 97, 121]⟩, 0, 86400, 0⟩, ⟨⟨#[100, 111, 119, 110, 100, 101, 108, 97, 121]⟩, 0, 86400, 0⟩] ps F := ⟨_, rfl⟩
  have HNL := Lib.hid hN
  have HML := Lib.hid hM
  have HKL := Lib.hid hK
  have HE := Lib.hid hE
  have k63 : K ≤ 9223372036854775807 := by rw [hK]; exact hvs.2.1
  rw [← hE] at KC ⊢
  rw [← hN] at KC
  rw [← hN, ← hM, ← hK]
  obtain ⟨W1, g, hW1, hg1, RG, B1, sz1⟩ := box1 w #[.int .i64 0, .int .i64 0] 27
  have HG1 := Lib.hid RG
  have HB1 := Lib.hid B1
  have HGW := Lib.hid (show g = w.heap.size from hg1)
  have HGL := Lib.hid (show w.heap.size ≤ g by omega)
  clear hps hst hvs hF hV hN hM hK hE RG B1 sz1
  by_cases hE0 : E0 = 0
  · subst hE0
    have hz := begE_zero' HE.out.symm
    obtain ⟨L, up, dn, ud, dd, rfl⟩ : ∃ x0 x1 x2 x3 x4, ps = [x0, x1, x2, x3, x4] := by
      match ps, hz.1 with
      | [x0, x1, x2, x3, x4], _ => exact ⟨x0, x1, x2, x3, x4, rfl⟩
    have hr0 := inR_le' (HF.out.1 hz.2 0 _ _ rfl rfl)
    have hr1 := inR_le' (HF.out.1 hz.2 1 _ _ rfl rfl)
    have hr2 := inR_le' (HF.out.1 hz.2 2 _ _ rfl rfl)
    have hr3 := inR_le' (HF.out.1 hz.2 3 _ _ rfl rfl)
    have hr4 := inR_le' (HF.out.1 hz.2 4 _ _ rfl rfl)
    simp only at hr0 hr1 hr2 hr3 hr4
    obtain rfl : N = 5 := HNL.out
    obtain ⟨pb, po, rfl, hpl, hpc⟩ := (show InS w pa 5 1 (flat iL [L, up, dn, ud, dd]) from HPS.out).at (xs := [L, up, dn, ud, dd]) iL_len (by simp)
    have p0 : w.cell? ⟨pb, po, none⟩ = some (.int .i64 L) := by have h := hpc 0 _ rfl 0 _ rfl; simpa using h
    have p1 : w.cell? ⟨pb, po + 1, none⟩ = some (.int .i64 up) := by have h := hpc 1 _ rfl 0 _ rfl; simpa using h
    have p2 : w.cell? ⟨pb, po + 2, none⟩ = some (.int .i64 dn) := by have h := hpc 2 _ rfl 0 _ rfl; simpa using h
    have p3 : w.cell? ⟨pb, po + 3, none⟩ = some (.int .i64 ud) := by have h := hpc 3 _ rfl 0 _ rfl; simpa using h
    have p4 : w.cell? ⟨pb, po + 4, none⟩ = some (.int .i64 dd) := by have h := hpc 4 _ rfl 0 _ rfl; simpa using h
    have HPC := Lib.hid (And.intro p0 (And.intro p1 (And.intro p2 (And.intro p3 p4))))
    have HPR := Lib.hid (show 1 ≤ L ∧ L ≤ 15 ∧ 0 ≤ ud ∧ ud ≤ 86400 ∧ 0 ≤ dd ∧ dd ≤ 86400 by omega)
    clear hz hpl hpc p0 p1 p2 p3 p4 hr0 hr1 hr2 hr3 hr4
    go_enter Tryd.func12, Tryd.ntmps12
    go_upto_region 1 with fail
    rw [← hW1]
    try rw [← hg1]
    clear hW1 hg1
    go_wp2_with fail
    refine (KC.out W1 HB1.out).mono ?_
    rintro e w2 ⟨rfl, hb⟩
    have HB2 := Lib.hid (HB1.out.trans (hb.mono HB1.out.size))
    have HG2 := Lib.hid (HG1.out.keep hb)
    clear hb
    obtain ⟨W4, kb0, kb, hW4, hkb0, hkb, R40, R4, B4, sz4⟩ := box2 w2 #[.int .i64 2, .int .i64 2] 3 #[.int .i64 1] 3
    have HKD := Lib.hid R4
    have HB4 := Lib.hid (HB2.out.trans (B4.mono HB2.out.size))
    have HG4 := Lib.hid (HG2.out.keep B4)
    clear R40 R4 B4 sz4
    go_upto_region 7 with fail
    rw [← hW4]
    try rw [← hkb]
    try rw [← hkb0]
    clear hW4 hkb hkb0
    go_wp2_with fail
    refine (KT.out W4).mono ?_
    rintro e w5 ⟨rfl, rfl⟩
    obtain ⟨TM, hTM⟩ : ∃ x, x = inR 1 dt 86400 := ⟨_, rfl⟩
    have HTM := Lib.hid hTM
    rw [← hTM]
    clear hTM
    cases TM
    · have g_0 := HG4.out.c 0 _ rfl
      have g_1 := HG4.out.c 1 _ rfl
      have g_z := HG4.out.fz
      go_wp2_with fail
      have hs := HG4.out.setRow [.int .i64 0, .int .i64 0] rfl
      have hB := set_below HB4.out HGL.out [.int .i64 0, .int .i64 0]
      have y0 : ((W4.setCell ⟨g, 0, none⟩ (.int .i64 0)).setCell ⟨g, 1, none⟩ (.int .i64 0)).cell? ⟨g, 0, none⟩ = some (.int .i64 0) := hs.c 0 _ rfl
      have y1 : ((W4.setCell ⟨g, 0, none⟩ (.int .i64 0)).setCell ⟨g, 1, none⟩ (.int .i64 0)).cell? ⟨g, 1, none⟩ = some (.int .i64 0) := hs.c 1 _ rfl
      (try simp only [Exit.inBlock, Exit.then])
      refine bodyPost_ret (by simp [results, Tryd.results12, go_sem, y0, y1]; try rfl) rfl ?_
      have hEE : (1 : Int) = stpE 0 (-6311433599) 1 [L, up, dn, ud, dd] st vs V dt := by unfold stpE; rw [if_neg (fun h => h rfl), if_pos (.inl HTM.out.symm)]
      rw [← hEE]
      exact ⟨_, _, _, rfl, ⟨fun _ => ⟨rfl, rfl, rfl⟩, fun h => absurd h (by decide)⟩, hB⟩
    · by_cases hK1 : K = 1
      · subst hK1
        have HDT := Lib.hid (inR_le' HTM.out.symm)
        go_wp2_with fail
        go_loopw [15] (fun i wr => ∃ j : Nat, j ≤ 1 ∧ i = .int .i64 j ∧ Hid (RowAt wr g [.int .i64 0, .int .i64 0] ∧ Below w.heap.size w wr ∧ Below W4.heap.size W4 wr ∧ ∀ q x y, q < j → ([⟨⟨#[97]⟩, ⟨#[85]⟩⟩] : List PortD)[q]? = some x → vs[q]? = some y → fitQ x.ty y.k y.n = true)) (fun i _ => 1 - (intOf i).toNat)
        case atStart => exact ⟨0, Nat.zero_le _, rfl, Lib.hid ⟨HG4.out, HB4.out, Below.refl _ _, fun q x y h => by omega⟩⟩
        case round =>
          obtain ⟨j, hj, rfl, hH⟩ := hrel
          have HGR := Lib.hid hH.out.1
          have HBR := Lib.hid hH.out.2.1
          have HBW := Lib.hid hH.out.2.2.1
          have HAL := Lib.hid hH.out.2.2.2
          clear hH
          by_cases hlt : j < 1
          · obtain ⟨ab, ao, eab, hal, hac⟩ := (show InS wr va vs.length 2 (flat vdL vs) from HVS.out.keep HBR.out).at vdL_len (by have := HKL.out; omega)
            subst eab
            obtain ⟨y, hy⟩ : ∃ x, vs[j]? = some x := ⟨_, List.getElem?_eq_getElem (by have := HKL.out; omega)⟩
            have l0 := hac j _ hy 0 _ rfl
            have l1 := hac j _ hy 1 _ rfl
            rw [Nat.add_zero] at l0
            have HYY := Lib.hid hy
            obtain ⟨yk, yn⟩ := y
            have k1 : (0 : Int) ≤ (j : Int) := by omega
            have k2 : (j : Int) < 1 := by omega
            have HXL := Lib.hid (show ∃ nmx, ([⟨⟨#[97]⟩, ⟨#[85]⟩⟩] : List PortD)[j]? = some ⟨nmx, ⟨#[85]⟩⟩ from by
              have h : j = 0 := by omega
              rcases h with rfl <;> exact ⟨_, rfl⟩)
            have mk : wr.cell? ⟨kb, j, none⟩ = some (.int .i64 1) := by
              have h : j = 0 := by omega
              rcases h with rfl
              · exact cell_below (HKD.out.c 0 _ rfl) HBW.out
            have HC := Lib.hid (show wr.cell? ⟨ab, ao + j * 2, none⟩ = some (.int .i64 yk) ∧ wr.cell? ⟨ab, ao + j * 2 + 1, none⟩ = some (.int .i64 yn) ∧ wr.cell? ⟨kb, j, none⟩ = some (.int .i64 1) from ⟨l0, l1, mk⟩)
            clear hy hac mk
            go_wp2_with fail
            refine wp_region_held_drew (S := fun w' => w'.cell? ⟨ab, ao + j * 2, none⟩ = some (.int .i64 yk) ∧ w'.cell? ⟨ab, ao + j * 2 + 1, none⟩ = some (.int .i64 yn) ∧ w'.cell? ⟨kb, j, none⟩ = some (.int .i64 1)) (by kernel_rfl) HC.out (fun hHeld => ?_)
            refine' wpAnyH_take (i := 0) (v := _) rfl (by kernel_rfl) (by kernel_rfl) (by kernel_rfl) (fun _ _ _ h => h) (Or.inl ⟨by rfl, ?_⟩) hHeld ?_
            rotate_left
            · intro w hSw
              (try dsimp only at hSw)
              go_simp
              try with_reducible rfl
            (try simp only [Act.put, List.getElem_toArray, List.getElem_cons_zero, List.getElem_cons_succ, List.setIfInBounds_toArray, List.set_cons_zero, List.set_cons_succ])
            refine' wpAnyH_take (i := 1) (v := _) rfl (by kernel_rfl) (by kernel_rfl) (by kernel_rfl) (fun _ _ _ h => h) (Or.inl ⟨by rfl, ?_⟩) hHeld ?_
            rotate_left
            · intro w hSw
              (try dsimp only at hSw)
              go_simp
              try with_reducible rfl
            (try simp only [Act.put, List.getElem_toArray, List.getElem_cons_zero, List.getElem_cons_succ, List.setIfInBounds_toArray, List.set_cons_zero, List.set_cons_succ])
            refine' wpAnyH_take (i := 2) (v := _) rfl (by kernel_rfl) (by kernel_rfl) (by kernel_rfl) (fun _ _ _ h => h) (Or.inl ⟨by rfl, ?_⟩) hHeld ?_
            rotate_left
            · intro w hSw
              (try dsimp only at hSw)
              go_simp
              try with_reducible rfl
            (try simp only [Act.put, List.getElem_toArray, List.getElem_cons_zero, List.getElem_cons_succ, List.setIfInBounds_toArray, List.set_cons_zero, List.set_cons_succ])
            refine' wpAnyH_take (i := 3) (v := _) rfl (by kernel_rfl) (by kernel_rfl) (by kernel_rfl) (fun _ _ _ h => h) (Or.inl ⟨by rfl, ?_⟩) hHeld ?_
            rotate_left
            · intro w hSw
              (try dsimp only at hSw)
              go_simp
              try with_reducible rfl
            (try simp only [Act.put, List.getElem_toArray, List.getElem_cons_zero, List.getElem_cons_succ, List.setIfInBounds_toArray, List.set_cons_zero, List.set_cons_succ])
            refine' wpAnyH_take (i := 4) (v := _) rfl (by kernel_rfl) (by kernel_rfl) (by kernel_rfl) (fun _ _ _ h => h) (Or.inl ⟨by rfl, ?_⟩) hHeld ?_
            rotate_left
            · intro w hSw
              (try dsimp only at hSw)
              go_simp
              try with_reducible rfl
            (try simp only [Act.put, List.getElem_toArray, List.getElem_cons_zero, List.getElem_cons_succ, List.setIfInBounds_toArray, List.set_cons_zero, List.set_cons_succ])
            refine' wpAnyH_take (i := 5) (v := _) rfl (by kernel_rfl) (by kernel_rfl) (by kernel_rfl) (fun _ _ _ h => h) (Or.inl ⟨by rfl, ?_⟩) hHeld ?_
            rotate_left
            · intro w hSw
              (try dsimp only at hSw)
              go_simp
              try with_reducible rfl
            (try simp only [Act.put, List.getElem_toArray, List.getElem_cons_zero, List.getElem_cons_succ, List.setIfInBounds_toArray, List.set_cons_zero, List.set_cons_succ])
            refine' wpAnyH_take (i := 6) (v := _) rfl (by kernel_rfl) (by kernel_rfl) (by kernel_rfl) (fun _ _ _ h => h) (Or.inl ⟨by rfl, ?_⟩) hHeld ?_
            rotate_left
            · intro w hSw
              (try dsimp only at hSw)
              go_simp
              try with_reducible rfl
            (try simp only [Act.put, List.getElem_toArray, List.getElem_cons_zero, List.getElem_cons_succ, List.setIfInBounds_toArray, List.set_cons_zero, List.set_cons_succ])
            refine' wpAnyH_take (i := 7) (v := _) rfl (by kernel_rfl) (by kernel_rfl) (by kernel_rfl) (fun _ _ _ h => h) (Or.inl ⟨by rfl, ?_⟩) hHeld ?_
            rotate_left
            · intro w hSw
              (try dsimp only at hSw)
              go_simp
              try with_reducible rfl
            (try simp only [Act.put, List.getElem_toArray, List.getElem_cons_zero, List.getElem_cons_succ, List.setIfInBounds_toArray, List.set_cons_zero, List.set_cons_succ])
            refine wpAnyH_ready (rs := [8]) (by kernel_rfl) (by simp) ?_
            refine AllReadyH.cons rfl (fun K hK => ?_) AllReadyH.nil
            go_simp
            refine (rpossible_u _ _ _).mono ?_
            rintro e x1 ⟨rfl, hb2⟩
            have hbx : Below wr.heap.size wr x1 := (by first | exact hb2 | exact (Below.refl wr.heap.size wr).drew.trans hb2)
            have HSX : x1.cell? ⟨ab, ao + j * 2, none⟩ = some (.int .i64 yk) ∧ x1.cell? ⟨ab, ao + j * 2 + 1, none⟩ = some (.int .i64 yn) ∧ x1.cell? ⟨kb, j, none⟩ = some (.int .i64 1) := ⟨cell_below HC.out.1 hbx, cell_below HC.out.2.1 hbx, cell_below HC.out.2.2 hbx⟩
            clear hb2
            (try go_simp)
            clear hHeld
            refine hK.out _ _ HSX (fun hHeld => ?_)
            clear hK K HSX
            (try simp only [Act.put, List.getElem_toArray, List.getElem_cons_zero, List.getElem_cons_succ, List.setIfInBounds_toArray, List.set_cons_zero, List.set_cons_succ])
            refine' wpAnyH_take (i := 9) (v := _) rfl (by kernel_rfl) (by kernel_rfl) (by kernel_rfl) (fun _ _ _ h => h) (Or.inl ⟨by rfl, ?_⟩) hHeld ?_
            rotate_left
            · intro w hSw
              (try dsimp only at hSw)
              go_simp
              try with_reducible rfl
            (try simp only [Act.put, List.getElem_toArray, List.getElem_cons_zero, List.getElem_cons_succ, List.setIfInBounds_toArray, List.set_cons_zero, List.set_cons_succ])
            refine wpAnyH_done (by kernel_rfl) ?_ _
            (try simp only [Act.put, List.getElem_toArray, List.getElem_cons_zero, List.getElem_cons_succ, List.setIfInBounds_toArray, List.set_cons_zero, List.set_cons_succ])
            clear hHeld HC
            obtain ⟨FB, hFB⟩ : ∃ x, x = fitQ ⟨#[85]⟩ yk yn := ⟨_, rfl⟩
            rw [← hFB]
            have HFB := Lib.hid hFB
            have HBX := Lib.hid (HBR.out.trans (hbx.mono HBR.out.size))
            have HBY := Lib.hid (HBW.out.trans (hbx.mono HBW.out.size))
            have HGX := Lib.hid (HGR.out.keep hbx)
            clear hFB l0 l1 hbx
            cases FB
            · have hVV : V = false := by
                cases hVc : V with
                | false => rfl
                | true =>
                  obtain ⟨nmx, hx⟩ := HXL.out
                  have h := HV.out.1 hVc j _ _ hx HYY.out
                  have h2 := HFB.out
                  rw [show fitQ ⟨#[85]⟩ yk yn = true from h] at h2
                  cases h2
              have g_0 := HGX.out.c 0 _ rfl
              have g_1 := HGX.out.c 1 _ rfl
              have g_z := HGX.out.fz
              go_wp2_with fail
              have hs := HGX.out.setRow [.int .i64 0, .int .i64 0] rfl
              have hB := set_below HBX.out HGL.out [.int .i64 0, .int .i64 0]
              have y0 : ((x1.setCell ⟨g, 0, none⟩ (.int .i64 0)).setCell ⟨g, 1, none⟩ (.int .i64 0)).cell? ⟨g, 0, none⟩ = some (.int .i64 0) := hs.c 0 _ rfl
              have y1 : ((x1.setCell ⟨g, 0, none⟩ (.int .i64 0)).setCell ⟨g, 1, none⟩ (.int .i64 0)).cell? ⟨g, 1, none⟩ = some (.int .i64 0) := hs.c 1 _ rfl
              (try simp only [Exit.inBlock, Exit.then])
              refine bodyPost_ret (by simp [results, Tryd.results12, go_sem, y0, y1]; try rfl) rfl ?_
              have hEE : (11 : Int) = stpE 0 (-6311433599) 1 [L, up, dn, ud, dd] st vs V dt := by unfold stpE; rw [if_neg (fun h => h rfl), if_neg (fun h => h.elim (fun h => by rw [← HTM.out] at h; cases h) (fun h => h (by rw [← HKL.out]))), if_pos hVV]
              rw [← hEE]
              exact ⟨_, _, _, rfl, ⟨fun _ => ⟨rfl, rfl, rfl⟩, fun h => absurd h (by decide)⟩, hB⟩
            · have HN2 := Lib.hid (show ∀ q x y, q < j + 1 → ([⟨⟨#[97]⟩, ⟨#[85]⟩⟩] : List PortD)[q]? = some x → vs[q]? = some y → fitQ x.ty y.k y.n = true from fun q x y hq hx hy => by
                by_cases hqj : q = j
                · subst hqj
                  obtain ⟨nmx, hx2⟩ := HXL.out
                  rw [hx2] at hx
                  rw [HYY.out] at hy
                  cases hx
                  cases hy
                  exact HFB.out.symm
                · exact HAL.out q x y (by omega) hx hy)
              go_wp2_with fail
              go_roundw
              case rel => exact ⟨j + 1, by omega, by go_num, Lib.hid ⟨HGX.out, HBX.out, HBY.out, HN2.out⟩⟩
              case measure => (simp [intOf]) <;> omega
          · obtain rfl : j = 1 := by omega
            have HV1 := Lib.hid (show V = true from HV.out.2 (fun k x y hx hy => HAL.out k x y (by have := (List.getElem?_eq_some_iff.1 hx).1; simpa using this) hx hy))
            have KS := Lib.hid (fun (W : World) (hb : Below w.heap.size w W) => rstate_stage pb po 5 pc (by decide) L sa sc st W (cell_below HPC.out.1 hb) (HST.out.keep hb))
            rw [← HML.out] at KS
            obtain ⟨RB, hRB⟩ : ∃ x, x = resB (-6311433599) L st := ⟨_, rfl⟩
            rw [← hRB] at KS
            have HRB := Lib.hid hRB
            clear hRB
            go_wp2_with fail
            refine (KS.out wr HBR.out).mono ?_
            rintro e wS ⟨rfl, hb⟩
            have HBS := Lib.hid (HBR.out.trans (hb.mono HBR.out.size))
            have HGS := Lib.hid (HGR.out.keep hb)
            clear hb KS
            cases RB
            · have g_0 := HGS.out.c 0 _ rfl
              have g_1 := HGS.out.c 1 _ rfl
              have g_z := HGS.out.fz
              go_wp2_with fail
              have hs := HGS.out.setRow [.int .i64 0, .int .i64 0] rfl
              have hB := set_below HBS.out HGL.out [.int .i64 0, .int .i64 0]
              have y0 : ((wS.setCell ⟨g, 0, none⟩ (.int .i64 0)).setCell ⟨g, 1, none⟩ (.int .i64 0)).cell? ⟨g, 0, none⟩ = some (.int .i64 0) := hs.c 0 _ rfl
              have y1 : ((wS.setCell ⟨g, 0, none⟩ (.int .i64 0)).setCell ⟨g, 1, none⟩ (.int .i64 0)).cell? ⟨g, 1, none⟩ = some (.int .i64 0) := hs.c 1 _ rfl
              (try simp only [Exit.inBlock, Exit.then])
              refine bodyPost_ret (by simp [results, Tryd.results12, go_sem, y0, y1]; try rfl) rfl ?_
              have hEE : (8 : Int) = stpE 0 (-6311433599) 1 [L, up, dn, ud, dd] st vs V dt := by unfold stpE; rw [if_neg (fun h => h rfl), if_neg (fun h => h.elim (fun h => by rw [← HTM.out] at h; cases h) (fun h => h (by rw [← HKL.out]))), if_neg (show ¬ V = false by rw [HV1.out]; decide), if_pos (show resB (-6311433599) ([L, up, dn, ud, dd].getD 0 0) st = false from HRB.out.symm)]
              rw [← hEE]
              exact ⟨_, _, _, rfl, ⟨fun _ => ⟨rfl, rfl, rfl⟩, fun h => absurd h (by decide)⟩, hB⟩
            · obtain ⟨P, T, rfl, hP, hT⟩ := resB_at HRB.out.symm
              obtain rfl : M = 2 := HML.out
              obtain ⟨sb, so, rfl, hsl, hsc⟩ := (show InS wS sa 2 1 (flat iL [P, T]) from HST.out.keep HBS.out).at (xs := [P, T]) iL_len (by simp)
              have s0 : wS.cell? ⟨sb, so, none⟩ = some (.int .i64 P) := by have h := hsc 0 _ rfl 0 _ rfl; simpa using h
              have s1 : wS.cell? ⟨sb, so + 1, none⟩ = some (.int .i64 T) := by have h := hsc 1 _ rfl 0 _ rfl; simpa using h
              obtain ⟨⟨vk0, vn0⟩, rfl⟩ : ∃ y0, vs = [y0] := by
                match vs, HKL.out with
                | [y0], _ => exact ⟨y0, rfl⟩
              obtain ⟨ab, ao, eab, hal, hac⟩ := (show InS wS va 1 2 (flat vdL [⟨vk0, vn0⟩]) from HVS.out.keep HBS.out).at (xs := [⟨vk0, vn0⟩]) vdL_len (by simp)
              subst eab
              have n0 : wS.cell? ⟨ab, ao + 1, none⟩ = some (.int .i64 vn0) := by have h := hac 0 _ rfl 1 _ rfl; simpa using h
              have hbn := stage_keep L up dn ud dd vn0 dt P T hP hT (by have := HPR.out; omega) (by have := HPR.out; omega) HDT.out
              have ks := rstage_any L up dn ud dd vn0 dt P T pb po pc sb so sc wS (by have := HPR.out; omega) (by have := HPR.out; omega) HDT.out (by have := HPR.out; omega) hT (cell_below HPC.out.1 HBS.out) (cell_below HPC.out.2.1 HBS.out) (cell_below HPC.out.2.2.1 HBS.out) (cell_below HPC.out.2.2.2.1 HBS.out) (cell_below HPC.out.2.2.2.2 HBS.out) s0 s1
              obtain ⟨⟨S1, S2⟩, hS⟩ : ∃ x, x = stageS L up dn ud dd vn0 dt P T := ⟨_, rfl⟩
              rw [← hS] at ks hbn
              simp only at hbn
              have HS := Lib.hid hS
              have KSS := Lib.hid ks
              have hLL := HPR.out
              clear ks hS hsl hsc hal hac s0 s1 hP hT
              go_wp2_with fail
              refine KSS.out.mono ?_
              rintro e w8 ⟨g2, rfl, hg2, hr8, hb8⟩
              clear KSS n0
              have HB8 := Lib.hid (HBS.out.trans (hb8.mono HBS.out.size))
              have HG8 := Lib.hid (HGS.out.keep hb8)
              have HR8 := Lib.hid hr8
              have HGG2 := Lib.hid (show g ≠ g2 by have h1 := HGS.out.lt; omega)
              have hSb := hr8.c 0 _ rfl
              clear hr8 hb8
              have e1 : IntKind.i64.wrap (S1 + 1) = S1 + 1 := IntWalk.i64_in _ (by omega)
              have HC := Lib.hid (show w8.cell? ⟨g2, 0, none⟩ = some (.int .i64 S1) from hSb)
              clear hSb
              go_wp2_with fail
              refine wp_region_held_drew (S := fun w' => w'.cell? ⟨g2, 0, none⟩ = some (.int .i64 S1)) (by kernel_rfl) HC.out (fun hHeld => ?_)
              have hdr : Below w8.heap.size w8 w8.drew := (Below.refl _ _).drew
              have HG9 := Lib.hid (HG8.out.keep hdr)
              have HR9 := Lib.hid (HR8.out.keep hdr)
              have HB9 := Lib.hid (HB8.out.trans (hdr.mono HB8.out.size))
              obtain ⟨W9, hW9⟩ : ∃ x, x = w8.drew := ⟨_, rfl⟩
              rw [← hW9] at HG9 HR9 HB9 hHeld ⊢
              clear hW9 hdr HC
              refine' wpAnyH_take (i := 0) (v := _) rfl (by kernel_rfl) (by kernel_rfl) (by kernel_rfl) (fun _ _ _ h => h) (Or.inl ⟨by rfl, ?_⟩) hHeld ?_
              rotate_left
              · intro w hSw
                (try dsimp only at hSw)
                go_simp
                try with_reducible rfl
              (try simp only [Act.put, List.getElem_toArray, List.getElem_cons_zero, List.getElem_cons_succ, List.setIfInBounds_toArray, List.set_cons_zero, List.set_cons_succ])
              refine' wpAnyH_take (i := 1) (v := _) rfl (by kernel_rfl) (by kernel_rfl) (by kernel_rfl) (fun _ _ _ h => h) (Or.inl ⟨by rfl, ?_⟩) hHeld ?_
              rotate_left
              · intro w hSw
                (try dsimp only at hSw)
                go_simp
                try with_reducible rfl
              (try simp only [Act.put, List.getElem_toArray, List.getElem_cons_zero, List.getElem_cons_succ, List.setIfInBounds_toArray, List.set_cons_zero, List.set_cons_succ])
              refine' wpAnyH_take (i := 2) (v := _) rfl (by kernel_rfl) (by kernel_rfl) (by kernel_rfl) (fun _ _ _ h => h) (Or.inl ⟨by rfl, ?_⟩) hHeld ?_
              rotate_left
              · intro w hSw
                (try dsimp only at hSw)
                go_simp
                try with_reducible rfl
              (try simp only [Act.put, List.getElem_toArray, List.getElem_cons_zero, List.getElem_cons_succ, List.setIfInBounds_toArray, List.set_cons_zero, List.set_cons_succ])
              refine' wpAnyH_take (i := 3) (v := _) rfl (by kernel_rfl) (by kernel_rfl) (by kernel_rfl) (fun _ _ _ h => h) (Or.inl ⟨by rfl, ?_⟩) hHeld ?_
              rotate_left
              · intro w hSw
                (try dsimp only at hSw)
                go_simp
                try with_reducible rfl
              (try simp only [Act.put, List.getElem_toArray, List.getElem_cons_zero, List.getElem_cons_succ, List.setIfInBounds_toArray, List.set_cons_zero, List.set_cons_succ])
              refine' wpAnyH_take (i := 4) (v := _) rfl (by kernel_rfl) (by kernel_rfl) (by kernel_rfl) (fun _ _ _ h => h) (Or.inl ⟨by rfl, ?_⟩) hHeld ?_
              rotate_left
              · intro w hSw
                (try dsimp only at hSw)
                go_simp
                try with_reducible rfl
              (try simp only [Act.put, List.getElem_toArray, List.getElem_cons_zero, List.getElem_cons_succ, List.setIfInBounds_toArray, List.set_cons_zero, List.set_cons_succ])
              refine' wpAnyH_take (i := 5) (v := _) rfl (by kernel_rfl) (by kernel_rfl) (by kernel_rfl) (fun _ _ _ h => h) (Or.inl ⟨by rfl, ?_⟩) hHeld ?_
              rotate_left
              · intro w hSw
                (try dsimp only at hSw)
                go_simp
                try with_reducible rfl
              (try simp only [Act.put, List.getElem_toArray, List.getElem_cons_zero, List.getElem_cons_succ, List.setIfInBounds_toArray, List.set_cons_zero, List.set_cons_succ])
              refine' wpAnyH_take (i := 6) (v := _) rfl (by kernel_rfl) (by kernel_rfl) (by kernel_rfl) (fun _ _ _ h => h) (Or.inl ⟨by rfl, ?_⟩) hHeld ?_
              rotate_left
              · intro w hSw
                (try dsimp only at hSw)
                go_simp
                try with_reducible rfl
              (try simp only [Act.put, List.getElem_toArray, List.getElem_cons_zero, List.getElem_cons_succ, List.setIfInBounds_toArray, List.set_cons_zero, List.set_cons_succ])
              have g_0 := HG9.out.c 0 _ rfl
              have hs0 := row_set HG9.out 0 (by simp) (.int .i64 3)
              have g_1 : (W9.setCell ⟨g, 0, none⟩ (.int .i64 3)).cell? ⟨g, 1, none⟩ = some (.int .i64 0) := hs0.c 1 _ rfl
              have g_1' := HG9.out.c 1 _ rfl
              have g_z := HG9.out.fz
              have gg : W9.grownBy ((W9.setCell ⟨g, 0, none⟩ (.int .i64 3)).setCell ⟨g, 1, none⟩ (.int .i64 (S1 + 1))) (some g) := grown_trans (grown_cell _ g 0 (.int .i64 3)) (grown_cell _ g 1 (.int .i64 (S1 + 1)))
              have HSX : ((W9.setCell ⟨g, 0, none⟩ (.int .i64 3)).setCell ⟨g, 1, none⟩ (.int .i64 (S1 + 1))).cell? ⟨g2, 0, none⟩ = some (.int .i64 S1) := cell_grown hHeld gg (fun e => HGG2.out (Option.some.inj e).symm)
              have HGG := Lib.hid gg
              clear gg
              refine wpAnyH_ready (rs := [7]) (by kernel_rfl) (by simp) ?_
              refine AllReadyH.cons rfl (fun K hK => ?_) AllReadyH.nil
              go_simp
              clear hHeld
              refine hK.out _ _ HSX (fun hHeld => ?_)
              clear hK K HSX
              (try simp only [Act.put, List.getElem_toArray, List.getElem_cons_zero, List.getElem_cons_succ, List.setIfInBounds_toArray, List.set_cons_zero, List.set_cons_succ])
              refine' wpAnyH_take (i := 8) (v := _) rfl (by kernel_rfl) (by kernel_rfl) (by kernel_rfl) (fun _ _ _ h => h) (Or.inl ⟨by rfl, ?_⟩) hHeld ?_
              rotate_left
              · intro w hSw
                (try dsimp only at hSw)
                go_simp
                try with_reducible rfl
              (try simp only [Act.put, List.getElem_toArray, List.getElem_cons_zero, List.getElem_cons_succ, List.setIfInBounds_toArray, List.set_cons_zero, List.set_cons_succ])
              refine wpAnyH_done (by kernel_rfl) ?_ _
              (try simp only [Act.put, List.getElem_toArray, List.getElem_cons_zero, List.getElem_cons_succ, List.setIfInBounds_toArray, List.set_cons_zero, List.set_cons_succ])
              clear hHeld g_0 g_1 g_1' g_z hs0
              go_wp2_with fail
              have hs := HG9.out.setRow [.int .i64 3, .int .i64 (S1 + 1)] rfl
              have y0 : ((W9.setCell ⟨g, 0, none⟩ (.int .i64 3)).setCell ⟨g, 1, none⟩ (.int .i64 (S1 + 1))).cell? ⟨g, 0, none⟩ = some (.int .i64 3) := hs.c 0 _ rfl
              have y1 : ((W9.setCell ⟨g, 0, none⟩ (.int .i64 3)).setCell ⟨g, 1, none⟩ (.int .i64 (S1 + 1))).cell? ⟨g, 1, none⟩ = some (.int .i64 (S1 + 1)) := hs.c 1 _ rfl
              (try simp only [Exit.inBlock, Exit.then])
              refine bodyPost_ret (by simp [results, Tryd.results12, go_sem, y0, y1]; try rfl) rfl ?_
              have hEE : (0 : Int) = stpE 0 (-6311433599) 1 [L, up, dn, ud, dd] [P, T] [⟨vk0, vn0⟩] V dt := by unfold stpE; rw [if_neg (fun h => h rfl), if_neg (fun h => h.elim (fun h => by rw [← HTM.out] at h; cases h) (fun h => h (by rw [← HKL.out]))), if_neg (show ¬ V = false by rw [HV1.out]; decide), if_neg (show ¬ resB (-6311433599) ([L, up, dn, ud, dd].getD 0 0) [P, T] = false by show ¬ resB (-6311433599) L [P, T] = false; rw [← HRB.out]; decide)]
              rw [← hEE]
              have hIN : InS ((W9.setCell ⟨g, 0, none⟩ (.int .i64 3)).setCell ⟨g, 1, none⟩ (.int .i64 (S1 + 1))) (some ⟨g2, 0, none⟩) 2 1 (flat iL [S1, S2]) := ins_row (xs := [S1, S2]) (by simp) (row_grown HR9.out HGG.out (fun e => HGG2.out (Option.some.inj e).symm))
              refine ⟨_, _, _, rfl, ⟨fun h => absurd rfl h, fun _ => ⟨rfl, ?_, _, _, rfl, ?_⟩⟩, HB9.out.grown HGG.out (by have := HB9.out.size; omega) (fun z e => by cases e; exact HGL.out)⟩
              · show S1 + 1 = (stageS L up dn ud dd vn0 dt P T).1 + 1
                rw [show stageS L up dn ud dd vn0 dt P T = _ from HS.out.symm]
              · show InS _ _ 2 1 (flat iL [(stageS L up dn ud dd vn0 dt P T).1, (stageS L up dn ud dd vn0 dt P T).2])
                rw [show stageS L up dn ud dd vn0 dt P T = _ from HS.out.symm]
                exact hIN
      · have hK2 : ¬ ((K : Int) = 1) := by omega
        have HK1 := Lib.hid hK1
        clear hK1
        have g_0 := HG4.out.c 0 _ rfl
        have g_1 := HG4.out.c 1 _ rfl
        have g_z := HG4.out.fz
        go_wp2_with fail
        have hs := HG4.out.setRow [.int .i64 0, .int .i64 0] rfl
        have hB := set_below HB4.out HGL.out [.int .i64 0, .int .i64 0]
        have y0 : ((W4.setCell ⟨g, 0, none⟩ (.int .i64 0)).setCell ⟨g, 1, none⟩ (.int .i64 0)).cell? ⟨g, 0, none⟩ = some (.int .i64 0) := hs.c 0 _ rfl
        have y1 : ((W4.setCell ⟨g, 0, none⟩ (.int .i64 0)).setCell ⟨g, 1, none⟩ (.int .i64 0)).cell? ⟨g, 1, none⟩ = some (.int .i64 0) := hs.c 1 _ rfl
        (try simp only [Exit.inBlock, Exit.then])
        refine bodyPost_ret (by simp [results, Tryd.results12, go_sem, y0, y1]; try rfl) rfl ?_
        have hEE : (1 : Int) = stpE 0 (-6311433599) 1 [L, up, dn, ud, dd] st vs V dt := by unfold stpE; rw [if_neg (fun h => h rfl), if_pos (.inr (fun h => HK1.out (by rw [HKL.out, h])))]
        rw [← hEE]
        exact ⟨_, _, _, rfl, ⟨fun _ => ⟨rfl, rfl, rfl⟩, fun h => absurd h (by decide)⟩, hB⟩
  · have e1 : (E0 == 0) = false := by rw [beq_eq_false_iff_ne]; exact hE0
    have e2 : (E0 != 0) = true := by rw [bne, e1]; rfl
    go_enter Tryd.func12, Tryd.ntmps12
    go_upto_region 1 with fail
    rw [← hW1]
    try rw [← hg1]
    clear hW1 hg1
    go_wp2_with fail
    refine (KC.out W1 HB1.out).mono ?_
    rintro e w2 ⟨rfl, hb⟩
    have HB2 := Lib.hid (HB1.out.trans (hb.mono HB1.out.size))
    have HG2 := Lib.hid (HG1.out.keep hb)
    clear hb
    have g_0 := HG2.out.c 0 _ rfl
    have g_1 := HG2.out.c 1 _ rfl
    have g_z := HG2.out.fz
    go_wp2_with fail
    have hs := HG2.out.setRow [.int .i64 0, .int .i64 0] rfl
    have hB := set_below HB2.out HGL.out [.int .i64 0, .int .i64 0]
    have y0 : ((w2.setCell ⟨g, 0, none⟩ (.int .i64 0)).setCell ⟨g, 1, none⟩ (.int .i64 0)).cell? ⟨g, 0, none⟩ = some (.int .i64 0) := hs.c 0 _ rfl
    have y1 : ((w2.setCell ⟨g, 0, none⟩ (.int .i64 0)).setCell ⟨g, 1, none⟩ (.int .i64 0)).cell? ⟨g, 1, none⟩ = some (.int .i64 0) := hs.c 1 _ rfl
    (try simp only [Exit.inBlock, Exit.then])
    refine bodyPost_ret (by simp [results, Tryd.results12, go_sem, y0, y1]; try rfl) rfl ?_
    have hEE : E0 = stpE E0 (-6311433599) 1 ps st vs V dt := by unfold stpE; rw [if_pos hE0]
    rw [← hEE]
    exact ⟨_, _, _, rfl, ⟨fun _ => ⟨rfl, rfl, rfl⟩, fun h => absurd h hE0⟩, hB⟩
set_option maxHeartbeats 8000000 in
set_option maxRecDepth 100000 in
theorem rstep_steps_any (pa sa va : Option Addr) (pc sc vc : Nat) (ps st : List Int) (vs : List VD) (F V : Bool) (dt : Int) (w : World) (hps : InS w pa ps.length 1 (flat iL ps)) (hst : InS w sa st.length 1 (flat iL st)) (hvs : InS w va vs.length 2 (flat vdL vs))
    (hF : F = true ↔ ∀ (k : Nat) (x : BndD) (y : Int), ([⟨⟨#[99, 111, 117, 110, 116]⟩, 1, 15, 1⟩, ⟨⟨#[108, 101, 97, 115, 116]⟩, 0, 86400, 0⟩] : List BndD)[k]? = some x → ps[k]? = some y → inR x.lo y x.hi = true) (hV : V = true ↔ ∀ (k : Nat) (x : PortD) (y : VD), ([⟨⟨#[103, 111]⟩, ⟨#[98, 105, 110, 97, 114, 121]⟩⟩, ⟨⟨#[110, 101, 120, 116]⟩, ⟨#[98, 105, 110, 97, 114, 121]⟩⟩] : List PortD)[k]? = some x → vs[k]? = some y → fitQ x.ty y.k y.n = true) :
    Calls Tryd.prog 12 #[.string ⟨#[115, 116, 101, 112, 115]⟩, .slice pa ps.length pc, .slice sa st.length sc, .slice va vs.length vc, .int .i64 dt] w fun e w' => ∃ v k n, e = .returned (.tuple #[v, .agg #[.int .i64 k, .int .i64 n], .int .i64 (stpE (begE [⟨⟨#[99, 111, 117, 110, 116]⟩, 1, 15, 1⟩, ⟨⟨#[108, 101, 97, 115, 116]⟩, 0, 86400, 0⟩] ps F) 0 2 ps st vs V dt)]) ∧ StpA w' (stpE (begE [⟨⟨#[99, 111, 117, 110, 116]⟩, 1, 15, 1⟩, ⟨⟨#[108, 101, 97, 115, 116]⟩, 0, 86400, 0⟩] ps F) 0 2 ps st vs V dt) (stepsS (ps.getD 0 0) (ps.getD 1 0) ((vs.getD 0 ⟨0, 0⟩).n == 1) ((vs.getD 1 ⟨0, 0⟩).n == 1) dt (st.getD 0 0) (st.getD 1 0)) v k n ∧ Below w.heap.size w w' := by
  have KC := Lib.hid (fun (W : World) (hb : Below w.heap.size w W) => rcheck_steps pa pc ps F W (hps.keep hb) hF)
  have KT := Lib.hid (fun (W : World) => rtime_any dt W)
  have HVS := Lib.hid hvs
  have HST := Lib.hid hst
  have HPS := Lib.hid hps
  have HV := Lib.hid hV
  have HF := Lib.hid hF
  obtain ⟨N, hN⟩ : ∃ N, N = ps.length := ⟨_, rfl⟩
  obtain ⟨M, hM⟩ : ∃ M, M = st.length := ⟨_, rfl⟩
  obtain ⟨K, hK⟩ : ∃ M, M = vs.length := ⟨_, rfl⟩
  obtain ⟨E0, hE⟩ : ∃ x, x = begE [⟨⟨#[99, 111, 117, 110, 116]⟩, 1, 15, 1⟩, ⟨⟨#[108, 101, 97, 115, 116]⟩, 0, 86400, 0⟩] ps F := ⟨_, rfl⟩
  have HNL := Lib.hid hN
  have HML := Lib.hid hM
  have HKL := Lib.hid hK
  have HE := Lib.hid hE
  have k63 : K ≤ 9223372036854775807 := by rw [hK]; exact hvs.2.1
  rw [← hE] at KC ⊢
  rw [← hN] at KC
  rw [← hN, ← hM, ← hK]
  obtain ⟨W1, g, hW1, hg1, RG, B1, sz1⟩ := box1 w #[.int .i64 0, .int .i64 0] 27
  have HG1 := Lib.hid RG
  have HB1 := Lib.hid B1
  have HGW := Lib.hid (show g = w.heap.size from hg1)
  have HGL := Lib.hid (show w.heap.size ≤ g by omega)
  clear hps hst hvs hF hV hN hM hK hE RG B1 sz1
  by_cases hE0 : E0 = 0
  · subst hE0
    have hz := begE_zero2 HE.out.symm
    obtain ⟨L, least, rfl⟩ : ∃ x0 x1, ps = [x0, x1] := by
      match ps, hz.1 with
      | [x0, x1], _ => exact ⟨x0, x1, rfl⟩
    have hr0 := inR_le' (HF.out.1 hz.2 0 _ _ rfl rfl)
    have hr1 := inR_le' (HF.out.1 hz.2 1 _ _ rfl rfl)
    simp only at hr0 hr1
    obtain rfl : N = 2 := HNL.out
    obtain ⟨pb, po, rfl, hpl, hpc⟩ := (show InS w pa 2 1 (flat iL [L, least]) from HPS.out).at (xs := [L, least]) iL_len (by simp)
    have p0 : w.cell? ⟨pb, po, none⟩ = some (.int .i64 L) := by have h := hpc 0 _ rfl 0 _ rfl; simpa using h
    have p1 : w.cell? ⟨pb, po + 1, none⟩ = some (.int .i64 least) := by have h := hpc 1 _ rfl 0 _ rfl; simpa using h
    have HPC := Lib.hid (And.intro p0 p1)
    have HPR := Lib.hid (show 1 ≤ L ∧ L ≤ 15 ∧ 0 ≤ least ∧ least ≤ 86400 by omega)
    clear hz hpl hpc p0 p1 hr0 hr1
    go_enter Tryd.func12, Tryd.ntmps12
    go_upto_region 1 with fail
    rw [← hW1]
    try rw [← hg1]
    clear hW1 hg1
    go_wp2_with fail
    refine (KC.out W1 HB1.out).mono ?_
    rintro e w2 ⟨rfl, hb⟩
    have HB2 := Lib.hid (HB1.out.trans (hb.mono HB1.out.size))
    have HG2 := Lib.hid (HG1.out.keep hb)
    clear hb
    obtain ⟨W4, kb, hW4, hkb, R4, B4, sz4⟩ := box1 w2 #[.int .i64 2, .int .i64 2] 3
    have HKD := Lib.hid R4
    have HB4 := Lib.hid (HB2.out.trans (B4.mono HB2.out.size))
    have HG4 := Lib.hid (HG2.out.keep B4)
    clear R4 B4 sz4
    go_upto_region 7 with fail
    rw [← hW4]
    try rw [← hkb]

    clear hW4 hkb
    go_wp2_with fail
    refine (KT.out W4).mono ?_
    rintro e w5 ⟨rfl, rfl⟩
    obtain ⟨TM, hTM⟩ : ∃ x, x = inR 1 dt 86400 := ⟨_, rfl⟩
    have HTM := Lib.hid hTM
    rw [← hTM]
    clear hTM
    cases TM
    · have g_0 := HG4.out.c 0 _ rfl
      have g_1 := HG4.out.c 1 _ rfl
      have g_z := HG4.out.fz
      go_wp2_with fail
      have hs := HG4.out.setRow [.int .i64 0, .int .i64 0] rfl
      have hB := set_below HB4.out HGL.out [.int .i64 0, .int .i64 0]
      have y0 : ((W4.setCell ⟨g, 0, none⟩ (.int .i64 0)).setCell ⟨g, 1, none⟩ (.int .i64 0)).cell? ⟨g, 0, none⟩ = some (.int .i64 0) := hs.c 0 _ rfl
      have y1 : ((W4.setCell ⟨g, 0, none⟩ (.int .i64 0)).setCell ⟨g, 1, none⟩ (.int .i64 0)).cell? ⟨g, 1, none⟩ = some (.int .i64 0) := hs.c 1 _ rfl
      (try simp only [Exit.inBlock, Exit.then])
      refine bodyPost_ret (by simp [results, Tryd.results12, go_sem, y0, y1]; try rfl) rfl ?_
      have hEE : (1 : Int) = stpE 0 0 2 [L, least] st vs V dt := by unfold stpE; rw [if_neg (fun h => h rfl), if_pos (.inl HTM.out.symm)]
      rw [← hEE]
      exact ⟨_, _, _, rfl, ⟨fun _ => ⟨rfl, rfl, rfl⟩, fun h => absurd h (by decide)⟩, hB⟩
    · by_cases hK1 : K = 2
      · subst hK1
        have HDT := Lib.hid (inR_le' HTM.out.symm)
        go_wp2_with fail
        go_loopw [15] (fun i wr => ∃ j : Nat, j ≤ 2 ∧ i = .int .i64 j ∧ Hid (RowAt wr g [.int .i64 0, .int .i64 0] ∧ Below w.heap.size w wr ∧ Below W4.heap.size W4 wr ∧ ∀ q x y, q < j → ([⟨⟨#[103, 111]⟩, ⟨#[98, 105, 110, 97, 114, 121]⟩⟩, ⟨⟨#[110, 101, 120, 116]⟩, ⟨#[98, 105, 110, 97, 114, 121]⟩⟩] : List PortD)[q]? = some x → vs[q]? = some y → fitQ x.ty y.k y.n = true)) (fun i _ => 2 - (intOf i).toNat)
        case atStart => exact ⟨0, Nat.zero_le _, rfl, Lib.hid ⟨HG4.out, HB4.out, Below.refl _ _, fun q x y h => by omega⟩⟩
        case round =>
          obtain ⟨j, hj, rfl, hH⟩ := hrel
          have HGR := Lib.hid hH.out.1
          have HBR := Lib.hid hH.out.2.1
          have HBW := Lib.hid hH.out.2.2.1
          have HAL := Lib.hid hH.out.2.2.2
          clear hH
          by_cases hlt : j < 2
          · obtain ⟨ab, ao, eab, hal, hac⟩ := (show InS wr va vs.length 2 (flat vdL vs) from HVS.out.keep HBR.out).at vdL_len (by have := HKL.out; omega)
            subst eab
            obtain ⟨y, hy⟩ : ∃ x, vs[j]? = some x := ⟨_, List.getElem?_eq_getElem (by have := HKL.out; omega)⟩
            have l0 := hac j _ hy 0 _ rfl
            have l1 := hac j _ hy 1 _ rfl
            rw [Nat.add_zero] at l0
            have HYY := Lib.hid hy
            obtain ⟨yk, yn⟩ := y
            have k1 : (0 : Int) ≤ (j : Int) := by omega
            have k2 : (j : Int) < 2 := by omega
            have HXL := Lib.hid (show ∃ nmx, ([⟨⟨#[103, 111]⟩, ⟨#[98, 105, 110, 97, 114, 121]⟩⟩, ⟨⟨#[110, 101, 120, 116]⟩, ⟨#[98, 105, 110, 97, 114, 121]⟩⟩] : List PortD)[j]? = some ⟨nmx, ⟨#[98, 105, 110, 97, 114, 121]⟩⟩ from by
              have h : j = 0 ∨ j = 1 := by omega
              rcases h with rfl | rfl <;> exact ⟨_, rfl⟩)
            have mk : wr.cell? ⟨kb, j, none⟩ = some (.int .i64 2) := by
              have h : j = 0 ∨ j = 1 := by omega
              rcases h with rfl | rfl
              · exact cell_below (HKD.out.c 0 _ rfl) HBW.out
              · exact cell_below (HKD.out.c 1 _ rfl) HBW.out
            have HC := Lib.hid (show wr.cell? ⟨ab, ao + j * 2, none⟩ = some (.int .i64 yk) ∧ wr.cell? ⟨ab, ao + j * 2 + 1, none⟩ = some (.int .i64 yn) ∧ wr.cell? ⟨kb, j, none⟩ = some (.int .i64 2) from ⟨l0, l1, mk⟩)
            clear hy hac mk
            go_wp2_with fail
            refine wp_region_held_drew (S := fun w' => w'.cell? ⟨ab, ao + j * 2, none⟩ = some (.int .i64 yk) ∧ w'.cell? ⟨ab, ao + j * 2 + 1, none⟩ = some (.int .i64 yn) ∧ w'.cell? ⟨kb, j, none⟩ = some (.int .i64 2)) (by kernel_rfl) HC.out (fun hHeld => ?_)
            refine' wpAnyH_take (i := 0) (v := _) rfl (by kernel_rfl) (by kernel_rfl) (by kernel_rfl) (fun _ _ _ h => h) (Or.inl ⟨by rfl, ?_⟩) hHeld ?_
            rotate_left
            · intro w hSw
              (try dsimp only at hSw)
              go_simp
              try with_reducible rfl
            (try simp only [Act.put, List.getElem_toArray, List.getElem_cons_zero, List.getElem_cons_succ, List.setIfInBounds_toArray, List.set_cons_zero, List.set_cons_succ])
            refine' wpAnyH_take (i := 1) (v := _) rfl (by kernel_rfl) (by kernel_rfl) (by kernel_rfl) (fun _ _ _ h => h) (Or.inl ⟨by rfl, ?_⟩) hHeld ?_
            rotate_left
            · intro w hSw
              (try dsimp only at hSw)
              go_simp
              try with_reducible rfl
            (try simp only [Act.put, List.getElem_toArray, List.getElem_cons_zero, List.getElem_cons_succ, List.setIfInBounds_toArray, List.set_cons_zero, List.set_cons_succ])
            refine' wpAnyH_take (i := 2) (v := _) rfl (by kernel_rfl) (by kernel_rfl) (by kernel_rfl) (fun _ _ _ h => h) (Or.inl ⟨by rfl, ?_⟩) hHeld ?_
            rotate_left
            · intro w hSw
              (try dsimp only at hSw)
              go_simp
              try with_reducible rfl
            (try simp only [Act.put, List.getElem_toArray, List.getElem_cons_zero, List.getElem_cons_succ, List.setIfInBounds_toArray, List.set_cons_zero, List.set_cons_succ])
            refine' wpAnyH_take (i := 3) (v := _) rfl (by kernel_rfl) (by kernel_rfl) (by kernel_rfl) (fun _ _ _ h => h) (Or.inl ⟨by rfl, ?_⟩) hHeld ?_
            rotate_left
            · intro w hSw
              (try dsimp only at hSw)
              go_simp
              try with_reducible rfl
            (try simp only [Act.put, List.getElem_toArray, List.getElem_cons_zero, List.getElem_cons_succ, List.setIfInBounds_toArray, List.set_cons_zero, List.set_cons_succ])
            refine' wpAnyH_take (i := 4) (v := _) rfl (by kernel_rfl) (by kernel_rfl) (by kernel_rfl) (fun _ _ _ h => h) (Or.inl ⟨by rfl, ?_⟩) hHeld ?_
            rotate_left
            · intro w hSw
              (try dsimp only at hSw)
              go_simp
              try with_reducible rfl
            (try simp only [Act.put, List.getElem_toArray, List.getElem_cons_zero, List.getElem_cons_succ, List.setIfInBounds_toArray, List.set_cons_zero, List.set_cons_succ])
            refine' wpAnyH_take (i := 5) (v := _) rfl (by kernel_rfl) (by kernel_rfl) (by kernel_rfl) (fun _ _ _ h => h) (Or.inl ⟨by rfl, ?_⟩) hHeld ?_
            rotate_left
            · intro w hSw
              (try dsimp only at hSw)
              go_simp
              try with_reducible rfl
            (try simp only [Act.put, List.getElem_toArray, List.getElem_cons_zero, List.getElem_cons_succ, List.setIfInBounds_toArray, List.set_cons_zero, List.set_cons_succ])
            refine' wpAnyH_take (i := 6) (v := _) rfl (by kernel_rfl) (by kernel_rfl) (by kernel_rfl) (fun _ _ _ h => h) (Or.inl ⟨by rfl, ?_⟩) hHeld ?_
            rotate_left
            · intro w hSw
              (try dsimp only at hSw)
              go_simp
              try with_reducible rfl
            (try simp only [Act.put, List.getElem_toArray, List.getElem_cons_zero, List.getElem_cons_succ, List.setIfInBounds_toArray, List.set_cons_zero, List.set_cons_succ])
            refine' wpAnyH_take (i := 7) (v := _) rfl (by kernel_rfl) (by kernel_rfl) (by kernel_rfl) (fun _ _ _ h => h) (Or.inl ⟨by rfl, ?_⟩) hHeld ?_
            rotate_left
            · intro w hSw
              (try dsimp only at hSw)
              go_simp
              try with_reducible rfl
            (try simp only [Act.put, List.getElem_toArray, List.getElem_cons_zero, List.getElem_cons_succ, List.setIfInBounds_toArray, List.set_cons_zero, List.set_cons_succ])
            refine wpAnyH_ready (rs := [8]) (by kernel_rfl) (by simp) ?_
            refine AllReadyH.cons rfl (fun K hK => ?_) AllReadyH.nil
            go_simp
            refine (rpossible_bin _ _ _).mono ?_
            rintro e x1 ⟨rfl, hb2⟩
            have hbx : Below wr.heap.size wr x1 := (by first | exact hb2 | exact (Below.refl wr.heap.size wr).drew.trans hb2)
            have HSX : x1.cell? ⟨ab, ao + j * 2, none⟩ = some (.int .i64 yk) ∧ x1.cell? ⟨ab, ao + j * 2 + 1, none⟩ = some (.int .i64 yn) ∧ x1.cell? ⟨kb, j, none⟩ = some (.int .i64 2) := ⟨cell_below HC.out.1 hbx, cell_below HC.out.2.1 hbx, cell_below HC.out.2.2 hbx⟩
            clear hb2
            (try go_simp)
            clear hHeld
            refine hK.out _ _ HSX (fun hHeld => ?_)
            clear hK K HSX
            (try simp only [Act.put, List.getElem_toArray, List.getElem_cons_zero, List.getElem_cons_succ, List.setIfInBounds_toArray, List.set_cons_zero, List.set_cons_succ])
            refine' wpAnyH_take (i := 9) (v := _) rfl (by kernel_rfl) (by kernel_rfl) (by kernel_rfl) (fun _ _ _ h => h) (Or.inl ⟨by rfl, ?_⟩) hHeld ?_
            rotate_left
            · intro w hSw
              (try dsimp only at hSw)
              go_simp
              try with_reducible rfl
            (try simp only [Act.put, List.getElem_toArray, List.getElem_cons_zero, List.getElem_cons_succ, List.setIfInBounds_toArray, List.set_cons_zero, List.set_cons_succ])
            refine wpAnyH_done (by kernel_rfl) ?_ _
            (try simp only [Act.put, List.getElem_toArray, List.getElem_cons_zero, List.getElem_cons_succ, List.setIfInBounds_toArray, List.set_cons_zero, List.set_cons_succ])
            clear hHeld HC
            obtain ⟨FB, hFB⟩ : ∃ x, x = fitQ ⟨#[98, 105, 110, 97, 114, 121]⟩ yk yn := ⟨_, rfl⟩
            rw [← hFB]
            have HFB := Lib.hid hFB
            have HBX := Lib.hid (HBR.out.trans (hbx.mono HBR.out.size))
            have HBY := Lib.hid (HBW.out.trans (hbx.mono HBW.out.size))
            have HGX := Lib.hid (HGR.out.keep hbx)
            clear hFB l0 l1 hbx
            cases FB
            · have hVV : V = false := by
                cases hVc : V with
                | false => rfl
                | true =>
                  obtain ⟨nmx, hx⟩ := HXL.out
                  have h := HV.out.1 hVc j _ _ hx HYY.out
                  have h2 := HFB.out
                  rw [show fitQ ⟨#[98, 105, 110, 97, 114, 121]⟩ yk yn = true from h] at h2
                  cases h2
              have g_0 := HGX.out.c 0 _ rfl
              have g_1 := HGX.out.c 1 _ rfl
              have g_z := HGX.out.fz
              go_wp2_with fail
              have hs := HGX.out.setRow [.int .i64 0, .int .i64 0] rfl
              have hB := set_below HBX.out HGL.out [.int .i64 0, .int .i64 0]
              have y0 : ((x1.setCell ⟨g, 0, none⟩ (.int .i64 0)).setCell ⟨g, 1, none⟩ (.int .i64 0)).cell? ⟨g, 0, none⟩ = some (.int .i64 0) := hs.c 0 _ rfl
              have y1 : ((x1.setCell ⟨g, 0, none⟩ (.int .i64 0)).setCell ⟨g, 1, none⟩ (.int .i64 0)).cell? ⟨g, 1, none⟩ = some (.int .i64 0) := hs.c 1 _ rfl
              (try simp only [Exit.inBlock, Exit.then])
              refine bodyPost_ret (by simp [results, Tryd.results12, go_sem, y0, y1]; try rfl) rfl ?_
              have hEE : (11 : Int) = stpE 0 0 2 [L, least] st vs V dt := by unfold stpE; rw [if_neg (fun h => h rfl), if_neg (fun h => h.elim (fun h => by rw [← HTM.out] at h; cases h) (fun h => h (by rw [← HKL.out]))), if_pos hVV]
              rw [← hEE]
              exact ⟨_, _, _, rfl, ⟨fun _ => ⟨rfl, rfl, rfl⟩, fun h => absurd h (by decide)⟩, hB⟩
            · have HN2 := Lib.hid (show ∀ q x y, q < j + 1 → ([⟨⟨#[103, 111]⟩, ⟨#[98, 105, 110, 97, 114, 121]⟩⟩, ⟨⟨#[110, 101, 120, 116]⟩, ⟨#[98, 105, 110, 97, 114, 121]⟩⟩] : List PortD)[q]? = some x → vs[q]? = some y → fitQ x.ty y.k y.n = true from fun q x y hq hx hy => by
                by_cases hqj : q = j
                · subst hqj
                  obtain ⟨nmx, hx2⟩ := HXL.out
                  rw [hx2] at hx
                  rw [HYY.out] at hy
                  cases hx
                  cases hy
                  exact HFB.out.symm
                · exact HAL.out q x y (by omega) hx hy)
              go_wp2_with fail
              go_roundw
              case rel => exact ⟨j + 1, by omega, by go_num, Lib.hid ⟨HGX.out, HBX.out, HBY.out, HN2.out⟩⟩
              case measure => (simp [intOf]) <;> omega
          · obtain rfl : j = 2 := by omega
            have HV1 := Lib.hid (show V = true from HV.out.2 (fun k x y hx hy => HAL.out k x y (by have := (List.getElem?_eq_some_iff.1 hx).1; simpa using this) hx hy))
            have KS := Lib.hid (fun (W : World) (hb : Below w.heap.size w W) => rstate_steps pb po 2 pc (by decide) L sa sc st W (cell_below HPC.out.1 hb) (HST.out.keep hb))
            rw [← HML.out] at KS
            obtain ⟨RB, hRB⟩ : ∃ x, x = resB 0 L st := ⟨_, rfl⟩
            rw [← hRB] at KS
            have HRB := Lib.hid hRB
            clear hRB
            go_wp2_with fail
            refine (KS.out wr HBR.out).mono ?_
            rintro e wS ⟨rfl, hb⟩
            have HBS := Lib.hid (HBR.out.trans (hb.mono HBR.out.size))
            have HGS := Lib.hid (HGR.out.keep hb)
            clear hb KS
            cases RB
            · have g_0 := HGS.out.c 0 _ rfl
              have g_1 := HGS.out.c 1 _ rfl
              have g_z := HGS.out.fz
              go_wp2_with fail
              have hs := HGS.out.setRow [.int .i64 0, .int .i64 0] rfl
              have hB := set_below HBS.out HGL.out [.int .i64 0, .int .i64 0]
              have y0 : ((wS.setCell ⟨g, 0, none⟩ (.int .i64 0)).setCell ⟨g, 1, none⟩ (.int .i64 0)).cell? ⟨g, 0, none⟩ = some (.int .i64 0) := hs.c 0 _ rfl
              have y1 : ((wS.setCell ⟨g, 0, none⟩ (.int .i64 0)).setCell ⟨g, 1, none⟩ (.int .i64 0)).cell? ⟨g, 1, none⟩ = some (.int .i64 0) := hs.c 1 _ rfl
              (try simp only [Exit.inBlock, Exit.then])
              refine bodyPost_ret (by simp [results, Tryd.results12, go_sem, y0, y1]; try rfl) rfl ?_
              have hEE : (8 : Int) = stpE 0 0 2 [L, least] st vs V dt := by unfold stpE; rw [if_neg (fun h => h rfl), if_neg (fun h => h.elim (fun h => by rw [← HTM.out] at h; cases h) (fun h => h (by rw [← HKL.out]))), if_neg (show ¬ V = false by rw [HV1.out]; decide), if_pos (show resB 0 ([L, least].getD 0 0) st = false from HRB.out.symm)]
              rw [← hEE]
              exact ⟨_, _, _, rfl, ⟨fun _ => ⟨rfl, rfl, rfl⟩, fun h => absurd h (by decide)⟩, hB⟩
            · obtain ⟨P, T, rfl, hP, hT⟩ := resB_at HRB.out.symm
              obtain rfl : M = 2 := HML.out
              obtain ⟨sb, so, rfl, hsl, hsc⟩ := (show InS wS sa 2 1 (flat iL [P, T]) from HST.out.keep HBS.out).at (xs := [P, T]) iL_len (by simp)
              have s0 : wS.cell? ⟨sb, so, none⟩ = some (.int .i64 P) := by have h := hsc 0 _ rfl 0 _ rfl; simpa using h
              have s1 : wS.cell? ⟨sb, so + 1, none⟩ = some (.int .i64 T) := by have h := hsc 1 _ rfl 0 _ rfl; simpa using h
              obtain ⟨⟨vk0, vn0⟩, ⟨vk1, vn1⟩, rfl⟩ : ∃ y0 y1, vs = [y0, y1] := by
                match vs, HKL.out with
                | [y0, y1], _ => exact ⟨y0, y1, rfl⟩
              obtain ⟨ab, ao, eab, hal, hac⟩ := (show InS wS va 2 2 (flat vdL [⟨vk0, vn0⟩, ⟨vk1, vn1⟩]) from HVS.out.keep HBS.out).at (xs := [⟨vk0, vn0⟩, ⟨vk1, vn1⟩]) vdL_len (by simp)
              subst eab
              have n0 : wS.cell? ⟨ab, ao + 1, none⟩ = some (.int .i64 vn0) := by have h := hac 0 _ rfl 1 _ rfl; simpa using h
              have n1 : wS.cell? ⟨ab, ao + 3, none⟩ = some (.int .i64 vn1) := by have h := hac 1 _ rfl 1 _ rfl; simpa using h
              have hbn := steps_keep L least dt P T (by have := HPR.out; omega) hP hT HDT.out.1 (vn0 == 1) (vn1 == 1)
              have HN01 := Lib.hid (show wS.cell? ⟨ab, ao + 1, none⟩ = some (.int .i64 vn0) ∧ wS.cell? ⟨ab, ao + 3, none⟩ = some (.int .i64 vn1) from ⟨n0, n1⟩)
              have HS01 := Lib.hid (And.intro s0 s1)
              have hPk := hP
              have hTk := hT
              have KSS := Lib.hid (fun (W : World) (hb : Below wS.heap.size wS W) => rsteps_any L least dt P T (vn0 == 1) (vn1 == 1) pb po pc sb so sc W HDT.out (by have := HPR.out; omega) hTk (cell_below HPC.out.1 (HBS.out.trans (hb.mono HBS.out.size))) (cell_below HPC.out.2 (HBS.out.trans (hb.mono HBS.out.size))) (cell_below HS01.out.1 hb) (cell_below HS01.out.2 hb))
              obtain ⟨⟨S1, S2⟩, hS⟩ : ∃ x, x = stepsS L least (vn0 == 1) (vn1 == 1) dt P T := ⟨_, rfl⟩
              rw [← hS] at KSS hbn
              simp only at hbn
              have HS := Lib.hid hS
              have hLL := HPR.out
              clear hS hsl hsc hal hac s0 s1 hP hT hPk hTk n0 n1
              go_wp2_with fail
              refine wp_region_held_drew (S := fun w' => w'.cell? ⟨ab, ao + 1, none⟩ = some (.int .i64 vn0) ∧ w'.cell? ⟨ab, ao + 3, none⟩ = some (.int .i64 vn1)) (by kernel_rfl) HN01.out (fun hHeld => ?_)
              refine' wpAnyH_take (i := 0) (v := _) rfl (by kernel_rfl) (by kernel_rfl) (by kernel_rfl) (fun _ _ _ h => h) (Or.inl ⟨by rfl, ?_⟩) hHeld ?_
              rotate_left
              · intro w hSw
                (try dsimp only at hSw)
                go_simp
                try with_reducible rfl
              (try simp only [Act.put, List.getElem_toArray, List.getElem_cons_zero, List.getElem_cons_succ, List.setIfInBounds_toArray, List.set_cons_zero, List.set_cons_succ])
              refine' wpAnyH_take (i := 1) (v := _) rfl (by kernel_rfl) (by kernel_rfl) (by kernel_rfl) (fun _ _ _ h => h) (Or.inl ⟨by rfl, ?_⟩) hHeld ?_
              rotate_left
              · intro w hSw
                (try dsimp only at hSw)
                go_simp
                try with_reducible rfl
              (try simp only [Act.put, List.getElem_toArray, List.getElem_cons_zero, List.getElem_cons_succ, List.setIfInBounds_toArray, List.set_cons_zero, List.set_cons_succ])
              refine' wpAnyH_take (i := 2) (v := _) rfl (by kernel_rfl) (by kernel_rfl) (by kernel_rfl) (fun _ _ _ h => h) (Or.inl ⟨by rfl, ?_⟩) hHeld ?_
              rotate_left
              · intro w hSw
                (try dsimp only at hSw)
                go_simp
                try with_reducible rfl
              (try simp only [Act.put, List.getElem_toArray, List.getElem_cons_zero, List.getElem_cons_succ, List.setIfInBounds_toArray, List.set_cons_zero, List.set_cons_succ])
              refine' wpAnyH_take (i := 3) (v := _) rfl (by kernel_rfl) (by kernel_rfl) (by kernel_rfl) (fun _ _ _ h => h) (Or.inl ⟨by rfl, ?_⟩) hHeld ?_
              rotate_left
              · intro w hSw
                (try dsimp only at hSw)
                go_simp
                try with_reducible rfl
              (try simp only [Act.put, List.getElem_toArray, List.getElem_cons_zero, List.getElem_cons_succ, List.setIfInBounds_toArray, List.set_cons_zero, List.set_cons_succ])
              refine' wpAnyH_take (i := 4) (v := _) rfl (by kernel_rfl) (by kernel_rfl) (by kernel_rfl) (fun _ _ _ h => h) (Or.inl ⟨by rfl, ?_⟩) hHeld ?_
              rotate_left
              · intro w hSw
                (try dsimp only at hSw)
                go_simp
                try with_reducible rfl
              (try simp only [Act.put, List.getElem_toArray, List.getElem_cons_zero, List.getElem_cons_succ, List.setIfInBounds_toArray, List.set_cons_zero, List.set_cons_succ])
              refine' wpAnyH_take (i := 5) (v := _) rfl (by kernel_rfl) (by kernel_rfl) (by kernel_rfl) (fun _ _ _ h => h) (Or.inl ⟨by rfl, ?_⟩) hHeld ?_
              rotate_left
              · intro w hSw
                (try dsimp only at hSw)
                go_simp
                try with_reducible rfl
              (try simp only [Act.put, List.getElem_toArray, List.getElem_cons_zero, List.getElem_cons_succ, List.setIfInBounds_toArray, List.set_cons_zero, List.set_cons_succ])
              refine' wpAnyH_take (i := 6) (v := _) rfl (by kernel_rfl) (by kernel_rfl) (by kernel_rfl) (fun _ _ _ h => h) (Or.inl ⟨by rfl, ?_⟩) hHeld ?_
              rotate_left
              · intro w hSw
                (try dsimp only at hSw)
                go_simp
                try with_reducible rfl
              (try simp only [Act.put, List.getElem_toArray, List.getElem_cons_zero, List.getElem_cons_succ, List.setIfInBounds_toArray, List.set_cons_zero, List.set_cons_succ])
              refine' wpAnyH_take (i := 7) (v := _) rfl (by kernel_rfl) (by kernel_rfl) (by kernel_rfl) (fun _ _ _ h => h) (Or.inl ⟨by rfl, ?_⟩) hHeld ?_
              rotate_left
              · intro w hSw
                (try dsimp only at hSw)
                go_simp
                try with_reducible rfl
              (try simp only [Act.put, List.getElem_toArray, List.getElem_cons_zero, List.getElem_cons_succ, List.setIfInBounds_toArray, List.set_cons_zero, List.set_cons_succ])
              refine' wpAnyH_take (i := 8) (v := _) rfl (by kernel_rfl) (by kernel_rfl) (by kernel_rfl) (fun _ _ _ h => h) (Or.inl ⟨by rfl, ?_⟩) hHeld ?_
              rotate_left
              · intro w hSw
                (try dsimp only at hSw)
                go_simp
                try with_reducible rfl
              (try simp only [Act.put, List.getElem_toArray, List.getElem_cons_zero, List.getElem_cons_succ, List.setIfInBounds_toArray, List.set_cons_zero, List.set_cons_succ])
              refine' wpAnyH_take (i := 9) (v := _) rfl (by kernel_rfl) (by kernel_rfl) (by kernel_rfl) (fun _ _ _ h => h) (Or.inl ⟨by rfl, ?_⟩) hHeld ?_
              rotate_left
              · intro w hSw
                (try dsimp only at hSw)
                go_simp
                try with_reducible rfl
              (try simp only [Act.put, List.getElem_toArray, List.getElem_cons_zero, List.getElem_cons_succ, List.setIfInBounds_toArray, List.set_cons_zero, List.set_cons_succ])
              refine' wpAnyH_take (i := 10) (v := _) rfl (by kernel_rfl) (by kernel_rfl) (by kernel_rfl) (fun _ _ _ h => h) (Or.inl ⟨by rfl, ?_⟩) hHeld ?_
              rotate_left
              · intro w hSw
                (try dsimp only at hSw)
                go_simp
                try with_reducible rfl
              (try simp only [Act.put, List.getElem_toArray, List.getElem_cons_zero, List.getElem_cons_succ, List.setIfInBounds_toArray, List.set_cons_zero, List.set_cons_succ])
              refine' wpAnyH_take (i := 11) (v := _) rfl (by kernel_rfl) (by kernel_rfl) (by kernel_rfl) (fun _ _ _ h => h) (Or.inl ⟨by rfl, ?_⟩) hHeld ?_
              rotate_left
              · intro w hSw
                (try dsimp only at hSw)
                go_simp
                try with_reducible rfl
              (try simp only [Act.put, List.getElem_toArray, List.getElem_cons_zero, List.getElem_cons_succ, List.setIfInBounds_toArray, List.set_cons_zero, List.set_cons_succ])
              refine' wpAnyH_take (i := 12) (v := _) rfl (by kernel_rfl) (by kernel_rfl) (by kernel_rfl) (fun _ _ _ h => h) (Or.inl ⟨by rfl, ?_⟩) hHeld ?_
              rotate_left
              · intro w hSw
                (try dsimp only at hSw)
                go_simp
                try with_reducible rfl
              (try simp only [Act.put, List.getElem_toArray, List.getElem_cons_zero, List.getElem_cons_succ, List.setIfInBounds_toArray, List.set_cons_zero, List.set_cons_succ])
              refine wpAnyH_ready (rs := [13]) (by kernel_rfl) (by simp) ?_
              refine AllReadyH.cons rfl (fun K hK => ?_) AllReadyH.nil
              go_simp
              refine Calls.mono (KSS.out _ (by first | exact Below.refl _ _ | exact (Below.refl _ _).drew)) ?_
              rintro e w8 ⟨g2, rfl, hg2, hr8, hb2⟩
              have hb8 : Below wS.heap.size wS w8 := (by first | exact hb2 | exact (Below.refl wS.heap.size wS).drew.trans hb2)
              have HSX : w8.cell? ⟨ab, ao + 1, none⟩ = some (.int .i64 vn0) ∧ w8.cell? ⟨ab, ao + 3, none⟩ = some (.int .i64 vn1) := ⟨cell_below HN01.out.1 hb8, cell_below HN01.out.2 hb8⟩
              have hg2' : wS.heap.size ≤ g2 := hg2
              clear hb2
              (try go_simp)
              clear hHeld
              refine hK.out _ _ HSX (fun hHeld => ?_)
              clear hK K HSX
              (try simp only [Act.put, List.getElem_toArray, List.getElem_cons_zero, List.getElem_cons_succ, List.setIfInBounds_toArray, List.set_cons_zero, List.set_cons_succ])
              refine' wpAnyH_take (i := 14) (v := _) rfl (by kernel_rfl) (by kernel_rfl) (by kernel_rfl) (fun _ _ _ h => h) (Or.inl ⟨by rfl, ?_⟩) hHeld ?_
              rotate_left
              · intro w hSw
                (try dsimp only at hSw)
                go_simp
                try with_reducible rfl
              (try simp only [Act.put, List.getElem_toArray, List.getElem_cons_zero, List.getElem_cons_succ, List.setIfInBounds_toArray, List.set_cons_zero, List.set_cons_succ])
              refine wpAnyH_done (by kernel_rfl) ?_ _
              (try simp only [Act.put, List.getElem_toArray, List.getElem_cons_zero, List.getElem_cons_succ, List.setIfInBounds_toArray, List.set_cons_zero, List.set_cons_succ])
              clear hHeld KSS hg2
              have hg2 := hg2'
              have HB8 := Lib.hid (HBS.out.trans (hb8.mono HBS.out.size))
              have HG8 := Lib.hid (HGS.out.keep hb8)
              have HR8 := Lib.hid hr8
              have HGG2 := Lib.hid (show g ≠ g2 by have h1 := HGS.out.lt; omega)
              have hSb := hr8.c 0 _ rfl
              clear hr8 hb8
              have e1 : IntKind.i64.wrap (S1 + 1) = S1 + 1 := IntWalk.i64_in _ (by omega)
              have HC := Lib.hid (show w8.cell? ⟨g2, 0, none⟩ = some (.int .i64 S1) from hSb)
              clear hSb
              go_wp2_with fail
              refine wp_region_held_drew (S := fun w' => w'.cell? ⟨g2, 0, none⟩ = some (.int .i64 S1)) (by kernel_rfl) HC.out (fun hHeld => ?_)
              have hdr : Below w8.heap.size w8 w8.drew := (Below.refl _ _).drew
              have HG9 := Lib.hid (HG8.out.keep hdr)
              have HR9 := Lib.hid (HR8.out.keep hdr)
              have HB9 := Lib.hid (HB8.out.trans (hdr.mono HB8.out.size))
              obtain ⟨W9, hW9⟩ : ∃ x, x = w8.drew := ⟨_, rfl⟩
              rw [← hW9] at HG9 HR9 HB9 hHeld ⊢
              clear hW9 hdr HC
              refine' wpAnyH_take (i := 0) (v := _) rfl (by kernel_rfl) (by kernel_rfl) (by kernel_rfl) (fun _ _ _ h => h) (Or.inl ⟨by rfl, ?_⟩) hHeld ?_
              rotate_left
              · intro w hSw
                (try dsimp only at hSw)
                go_simp
                try with_reducible rfl
              (try simp only [Act.put, List.getElem_toArray, List.getElem_cons_zero, List.getElem_cons_succ, List.setIfInBounds_toArray, List.set_cons_zero, List.set_cons_succ])
              refine' wpAnyH_take (i := 1) (v := _) rfl (by kernel_rfl) (by kernel_rfl) (by kernel_rfl) (fun _ _ _ h => h) (Or.inl ⟨by rfl, ?_⟩) hHeld ?_
              rotate_left
              · intro w hSw
                (try dsimp only at hSw)
                go_simp
                try with_reducible rfl
              (try simp only [Act.put, List.getElem_toArray, List.getElem_cons_zero, List.getElem_cons_succ, List.setIfInBounds_toArray, List.set_cons_zero, List.set_cons_succ])
              refine' wpAnyH_take (i := 2) (v := _) rfl (by kernel_rfl) (by kernel_rfl) (by kernel_rfl) (fun _ _ _ h => h) (Or.inl ⟨by rfl, ?_⟩) hHeld ?_
              rotate_left
              · intro w hSw
                (try dsimp only at hSw)
                go_simp
                try with_reducible rfl
              (try simp only [Act.put, List.getElem_toArray, List.getElem_cons_zero, List.getElem_cons_succ, List.setIfInBounds_toArray, List.set_cons_zero, List.set_cons_succ])
              refine' wpAnyH_take (i := 3) (v := _) rfl (by kernel_rfl) (by kernel_rfl) (by kernel_rfl) (fun _ _ _ h => h) (Or.inl ⟨by rfl, ?_⟩) hHeld ?_
              rotate_left
              · intro w hSw
                (try dsimp only at hSw)
                go_simp
                try with_reducible rfl
              (try simp only [Act.put, List.getElem_toArray, List.getElem_cons_zero, List.getElem_cons_succ, List.setIfInBounds_toArray, List.set_cons_zero, List.set_cons_succ])
              refine' wpAnyH_take (i := 4) (v := _) rfl (by kernel_rfl) (by kernel_rfl) (by kernel_rfl) (fun _ _ _ h => h) (Or.inl ⟨by rfl, ?_⟩) hHeld ?_
              rotate_left
              · intro w hSw
                (try dsimp only at hSw)
                go_simp
                try with_reducible rfl
              (try simp only [Act.put, List.getElem_toArray, List.getElem_cons_zero, List.getElem_cons_succ, List.setIfInBounds_toArray, List.set_cons_zero, List.set_cons_succ])
              refine' wpAnyH_take (i := 5) (v := _) rfl (by kernel_rfl) (by kernel_rfl) (by kernel_rfl) (fun _ _ _ h => h) (Or.inl ⟨by rfl, ?_⟩) hHeld ?_
              rotate_left
              · intro w hSw
                (try dsimp only at hSw)
                go_simp
                try with_reducible rfl
              (try simp only [Act.put, List.getElem_toArray, List.getElem_cons_zero, List.getElem_cons_succ, List.setIfInBounds_toArray, List.set_cons_zero, List.set_cons_succ])
              refine' wpAnyH_take (i := 6) (v := _) rfl (by kernel_rfl) (by kernel_rfl) (by kernel_rfl) (fun _ _ _ h => h) (Or.inl ⟨by rfl, ?_⟩) hHeld ?_
              rotate_left
              · intro w hSw
                (try dsimp only at hSw)
                go_simp
                try with_reducible rfl
              (try simp only [Act.put, List.getElem_toArray, List.getElem_cons_zero, List.getElem_cons_succ, List.setIfInBounds_toArray, List.set_cons_zero, List.set_cons_succ])
              have g_0 := HG9.out.c 0 _ rfl
              have hs0 := row_set HG9.out 0 (by simp) (.int .i64 3)
              have g_1 : (W9.setCell ⟨g, 0, none⟩ (.int .i64 3)).cell? ⟨g, 1, none⟩ = some (.int .i64 0) := hs0.c 1 _ rfl
              have g_1' := HG9.out.c 1 _ rfl
              have g_z := HG9.out.fz
              have gg : W9.grownBy ((W9.setCell ⟨g, 0, none⟩ (.int .i64 3)).setCell ⟨g, 1, none⟩ (.int .i64 (S1 + 1))) (some g) := grown_trans (grown_cell _ g 0 (.int .i64 3)) (grown_cell _ g 1 (.int .i64 (S1 + 1)))
              have HSX : ((W9.setCell ⟨g, 0, none⟩ (.int .i64 3)).setCell ⟨g, 1, none⟩ (.int .i64 (S1 + 1))).cell? ⟨g2, 0, none⟩ = some (.int .i64 S1) := cell_grown hHeld gg (fun e => HGG2.out (Option.some.inj e).symm)
              have HGG := Lib.hid gg
              clear gg
              refine wpAnyH_ready (rs := [7]) (by kernel_rfl) (by simp) ?_
              refine AllReadyH.cons rfl (fun K hK => ?_) AllReadyH.nil
              go_simp
              clear hHeld
              refine hK.out _ _ HSX (fun hHeld => ?_)
              clear hK K HSX
              (try simp only [Act.put, List.getElem_toArray, List.getElem_cons_zero, List.getElem_cons_succ, List.setIfInBounds_toArray, List.set_cons_zero, List.set_cons_succ])
              refine' wpAnyH_take (i := 8) (v := _) rfl (by kernel_rfl) (by kernel_rfl) (by kernel_rfl) (fun _ _ _ h => h) (Or.inl ⟨by rfl, ?_⟩) hHeld ?_
              rotate_left
              · intro w hSw
                (try dsimp only at hSw)
                go_simp
                try with_reducible rfl
              (try simp only [Act.put, List.getElem_toArray, List.getElem_cons_zero, List.getElem_cons_succ, List.setIfInBounds_toArray, List.set_cons_zero, List.set_cons_succ])
              refine wpAnyH_done (by kernel_rfl) ?_ _
              (try simp only [Act.put, List.getElem_toArray, List.getElem_cons_zero, List.getElem_cons_succ, List.setIfInBounds_toArray, List.set_cons_zero, List.set_cons_succ])
              clear hHeld g_0 g_1 g_1' g_z hs0
              go_wp2_with fail
              have hs := HG9.out.setRow [.int .i64 3, .int .i64 (S1 + 1)] rfl
              have y0 : ((W9.setCell ⟨g, 0, none⟩ (.int .i64 3)).setCell ⟨g, 1, none⟩ (.int .i64 (S1 + 1))).cell? ⟨g, 0, none⟩ = some (.int .i64 3) := hs.c 0 _ rfl
              have y1 : ((W9.setCell ⟨g, 0, none⟩ (.int .i64 3)).setCell ⟨g, 1, none⟩ (.int .i64 (S1 + 1))).cell? ⟨g, 1, none⟩ = some (.int .i64 (S1 + 1)) := hs.c 1 _ rfl
              (try simp only [Exit.inBlock, Exit.then])
              refine bodyPost_ret (by simp [results, Tryd.results12, go_sem, y0, y1]; try rfl) rfl ?_
              have hEE : (0 : Int) = stpE 0 0 2 [L, least] [P, T] [⟨vk0, vn0⟩, ⟨vk1, vn1⟩] V dt := by unfold stpE; rw [if_neg (fun h => h rfl), if_neg (fun h => h.elim (fun h => by rw [← HTM.out] at h; cases h) (fun h => h (by rw [← HKL.out]))), if_neg (show ¬ V = false by rw [HV1.out]; decide), if_neg (show ¬ resB 0 ([L, least].getD 0 0) [P, T] = false by show ¬ resB 0 L [P, T] = false; rw [← HRB.out]; decide)]
              rw [← hEE]
              have hIN : InS ((W9.setCell ⟨g, 0, none⟩ (.int .i64 3)).setCell ⟨g, 1, none⟩ (.int .i64 (S1 + 1))) (some ⟨g2, 0, none⟩) 2 1 (flat iL [S1, S2]) := ins_row (xs := [S1, S2]) (by simp) (row_grown HR9.out HGG.out (fun e => HGG2.out (Option.some.inj e).symm))
              refine ⟨_, _, _, rfl, ⟨fun h => absurd rfl h, fun _ => ⟨rfl, ?_, _, _, rfl, ?_⟩⟩, HB9.out.grown HGG.out (by have := HB9.out.size; omega) (fun z e => by cases e; exact HGL.out)⟩
              · show S1 + 1 = (stepsS L least (vn0 == 1) (vn1 == 1) dt P T).1 + 1
                rw [show stepsS L least (vn0 == 1) (vn1 == 1) dt P T = _ from HS.out.symm]
              · show InS _ _ 2 1 (flat iL [(stepsS L least (vn0 == 1) (vn1 == 1) dt P T).1, (stepsS L least (vn0 == 1) (vn1 == 1) dt P T).2])
                rw [show stepsS L least (vn0 == 1) (vn1 == 1) dt P T = _ from HS.out.symm]
                exact hIN
      · have hK2 : ¬ ((K : Int) = 2) := by omega
        have HK1 := Lib.hid hK1
        clear hK1
        have g_0 := HG4.out.c 0 _ rfl
        have g_1 := HG4.out.c 1 _ rfl
        have g_z := HG4.out.fz
        go_wp2_with fail
        have hs := HG4.out.setRow [.int .i64 0, .int .i64 0] rfl
        have hB := set_below HB4.out HGL.out [.int .i64 0, .int .i64 0]
        have y0 : ((W4.setCell ⟨g, 0, none⟩ (.int .i64 0)).setCell ⟨g, 1, none⟩ (.int .i64 0)).cell? ⟨g, 0, none⟩ = some (.int .i64 0) := hs.c 0 _ rfl
        have y1 : ((W4.setCell ⟨g, 0, none⟩ (.int .i64 0)).setCell ⟨g, 1, none⟩ (.int .i64 0)).cell? ⟨g, 1, none⟩ = some (.int .i64 0) := hs.c 1 _ rfl
        (try simp only [Exit.inBlock, Exit.then])
        refine bodyPost_ret (by simp [results, Tryd.results12, go_sem, y0, y1]; try rfl) rfl ?_
        have hEE : (1 : Int) = stpE 0 0 2 [L, least] st vs V dt := by unfold stpE; rw [if_neg (fun h => h rfl), if_pos (.inr (fun h => HK1.out (by rw [HKL.out, h])))]
        rw [← hEE]
        exact ⟨_, _, _, rfl, ⟨fun _ => ⟨rfl, rfl, rfl⟩, fun h => absurd h (by decide)⟩, hB⟩
  · have e1 : (E0 == 0) = false := by rw [beq_eq_false_iff_ne]; exact hE0
    have e2 : (E0 != 0) = true := by rw [bne, e1]; rfl
    go_enter Tryd.func12, Tryd.ntmps12
    go_upto_region 1 with fail
    rw [← hW1]
    try rw [← hg1]
    clear hW1 hg1
    go_wp2_with fail
    refine (KC.out W1 HB1.out).mono ?_
    rintro e w2 ⟨rfl, hb⟩
    have HB2 := Lib.hid (HB1.out.trans (hb.mono HB1.out.size))
    have HG2 := Lib.hid (HG1.out.keep hb)
    clear hb
    have g_0 := HG2.out.c 0 _ rfl
    have g_1 := HG2.out.c 1 _ rfl
    have g_z := HG2.out.fz
    go_wp2_with fail
    have hs := HG2.out.setRow [.int .i64 0, .int .i64 0] rfl
    have hB := set_below HB2.out HGL.out [.int .i64 0, .int .i64 0]
    have y0 : ((w2.setCell ⟨g, 0, none⟩ (.int .i64 0)).setCell ⟨g, 1, none⟩ (.int .i64 0)).cell? ⟨g, 0, none⟩ = some (.int .i64 0) := hs.c 0 _ rfl
    have y1 : ((w2.setCell ⟨g, 0, none⟩ (.int .i64 0)).setCell ⟨g, 1, none⟩ (.int .i64 0)).cell? ⟨g, 1, none⟩ = some (.int .i64 0) := hs.c 1 _ rfl
    (try simp only [Exit.inBlock, Exit.then])
    refine bodyPost_ret (by simp [results, Tryd.results12, go_sem, y0, y1]; try rfl) rfl ?_
    have hEE : E0 = stpE E0 0 2 ps st vs V dt := by unfold stpE; rw [if_pos hE0]
    rw [← hEE]
    exact ⟨_, _, _, rfl, ⟨fun _ => ⟨rfl, rfl, rfl⟩, fun h => absurd h hE0⟩, hB⟩
theorem rstep_other (s : ByteArray) (h1 : ¬ s = ⟨#[115, 116, 97, 103, 101]⟩) (h2 : ¬ s = ⟨#[115, 116, 101, 112, 115]⟩) (pa sa va : Option Addr) (pn pc sn sc vn vc : Nat) (dt : Int) (w : World) : Calls Tryd.prog 12 #[.string s, .slice pa pn pc, .slice sa sn sc, .slice va vn vc, .int .i64 dt] w fun e w' => ∃ v k n, e = .returned (.tuple #[v, .agg #[.int .i64 k, .int .i64 n], .int .i64 3]) ∧ StpA w' 3 (0, 0) v k n ∧ Below w.heap.size w w' := by
  obtain ⟨W1, g, hW1, hg1, RG, B1, sz1⟩ := box1 w #[.int .i64 0, .int .i64 0] 27
  have KB := Lib.hid (fun W => rcheck_other s h1 h2 (.slice pa pn pc) W)
  have HG1 := Lib.hid RG
  have HB1 := Lib.hid B1
  have HGL := Lib.hid (show w.heap.size ≤ g by omega)
  clear h1 h2 RG B1 sz1
  go_enter Tryd.func12, Tryd.ntmps12
  go_upto_region 1 with fail
  rw [← hW1]
  try rw [← hg1]
  clear hW1 hg1
  go_wp2_with fail
  refine (KB.out W1).mono ?_
  rintro e w2 ⟨rfl, hb⟩
  have HB2 := Lib.hid (HB1.out.trans (hb.mono HB1.out.size))
  have HG2 := Lib.hid (HG1.out.keep hb)
  clear hb
  have g_0 := HG2.out.c 0 _ rfl
  have g_1 := HG2.out.c 1 _ rfl
  have g_z := HG2.out.fz
  go_wp2_with fail
  have hs := HG2.out.setRow [.int .i64 0, .int .i64 0] rfl
  have hB := set_below HB2.out HGL.out [.int .i64 0, .int .i64 0]
  have y0 : ((w2.setCell ⟨g, 0, none⟩ (.int .i64 0)).setCell ⟨g, 1, none⟩ (.int .i64 0)).cell? ⟨g, 0, none⟩ = some (.int .i64 0) := hs.c 0 _ rfl
  have y1 : ((w2.setCell ⟨g, 0, none⟩ (.int .i64 0)).setCell ⟨g, 1, none⟩ (.int .i64 0)).cell? ⟨g, 1, none⟩ = some (.int .i64 0) := hs.c 1 _ rfl
  (try simp only [Exit.inBlock, Exit.then])
  refine bodyPost_ret (by simp [results, Tryd.results12, go_sem, y0, y1]; try rfl) rfl ?_
  exact ⟨_, _, _, rfl, ⟨fun _ => ⟨rfl, rfl, rfl⟩, fun h => absurd h (by decide)⟩, hB⟩
end Go.Proofs.YthaigchklogjlaaDoor
