/- Contract of run of the laws of sequencer. -/
import Derived.Test.YthaigchklogjlaaDoorQj
namespace Go.Proofs.YthaigchklogjlaaDoor
open Go.RowKit Go.Shelf

set_option linter.unusedVariables false
set_option linter.unusedSimpArgs false
theorem stage_keep (L up dn ud dd d dt P T : Int) (hP : 0 ≤ P ∧ P ≤ L) (hT : -6311433599 ≤ T ∧ T ≤ 6311433599) (hu : 0 ≤ ud ∧ ud ≤ 86400) (hd : 0 ≤ dd ∧ dd ≤ 86400) (hdt : 1 ≤ dt ∧ dt ≤ 86400) : 0 ≤ (stageS L up dn ud dd d dt P T).1 ∧ (stageS L up dn ud dd d dt P T).1 ≤ L ∧ -6311433599 ≤ (stageS L up dn ud dd d dt P T).2 ∧ (stageS L up dn ud dd d dt P T).2 ≤ 6311433599 := by
  unfold stageS
  (repeat' split) <;> refine ⟨?_, ?_, ?_, ?_⟩ <;> dsimp only <;> omega
theorem ins_grown1 {w w' : World} {g n sz : Nat} {L : List Value} {o : Option Nat} (h : InS w (some ⟨g, 0, none⟩) n sz L) (hg : w.grownBy w' o) (hne : some g ≠ o) : InS w' (some ⟨g, 0, none⟩) n sz L := by
  obtain ⟨h1, h2, h3⟩ := h
  refine ⟨h1, h2, ?_⟩
  rcases h3 with h3 | ⟨b, off, e, hlt, hc⟩
  · exact .inl h3
  · refine .inr ⟨b, off, e, Nat.lt_of_lt_of_le hlt hg.size, fun j u hu => ?_⟩
    injection e with e
    injection e with e1 e2
    subst e1
    exact (World.cell?_of_block (hg.block _ hlt hne)).trans (hc j u hu)
/-- the states of a run -/
def runS (L up dn ud dd dt : Int) (ds : List Int) (P T : Int) : Nat → Int × Int
  | 0 => (P, T)
  | k + 1 => stageS L up dn ud dd (ds.getD k 0) dt (runS L up dn ud dd dt ds P T k).1 (runS L up dn ud dd dt ds P T k).2
def runO (L up dn ud dd dt : Int) (ds : List Int) (P T : Int) : List Int := (List.range ds.length).map fun k => (runS L up dn ud dd dt ds P T (k + 1)).1
theorem runS_keep (L up dn ud dd dt : Int) (ds : List Int) (P T : Int) (hP : 0 ≤ P ∧ P ≤ L) (hT : -6311433599 ≤ T ∧ T ≤ 6311433599) (hu : 0 ≤ ud ∧ ud ≤ 86400) (hd : 0 ≤ dd ∧ dd ≤ 86400) (hdt : 1 ≤ dt ∧ dt ≤ 86400) : ∀ k, 0 ≤ (runS L up dn ud dd dt ds P T k).1 ∧ (runS L up dn ud dd dt ds P T k).1 ≤ L ∧ -6311433599 ≤ (runS L up dn ud dd dt ds P T k).2 ∧ (runS L up dn ud dd dt ds P T k).2 ≤ 6311433599
  | 0 => ⟨hP.1, hP.2, hT.1, hT.2⟩
  | k + 1 => by
    obtain ⟨a, b, c, d⟩ := runS_keep L up dn ud dd dt ds P T hP hT hu hd hdt k
    exact stage_keep L up dn ud dd _ dt _ _ ⟨a, b⟩ ⟨c, d⟩ hu hd hdt
set_option maxHeartbeats 8000000 in
set_option maxRecDepth 100000 in
theorem run_any (L up dn ud dd P0 T0 dt : Int) (pa sa fa : Option Addr) (pc sc fc : Nat) (ds : List Int) (w : World) (hm : MaxAt w) (hp : 1 ≤ L ∧ L ≤ 15 ∧ -1000000000000 ≤ up ∧ up ≤ 1000000000000 ∧ -1000000000000 ≤ dn ∧ dn ≤ 1000000000000 ∧ 0 ≤ ud ∧ ud ≤ 86400 ∧ 0 ≤ dd ∧ dd ≤ 86400) (hds : ∀ d ∈ ds, -1000000000000 ≤ d ∧ d ≤ 1000000000000) (hP : 0 ≤ P0 ∧ P0 ≤ L) (hT : -6311433599 ≤ T0 ∧ T0 ≤ 6311433599) (hdt : 1 ≤ dt ∧ dt ≤ 86400) (h40 : ds.length ≤ 1000)
    (hps : InS w pa 5 1 (flat iL [L, up, dn, ud, dd])) (hst : InS w sa 2 1 (flat iL [P0, T0])) (hfl : InS w fa ds.length 1 (flat iL ds)) :
    Calls Tryd.prog 22 #[.slice pa 5 pc, .slice sa 2 sc, .slice fa ds.length fc, .int .i64 dt] w fun e w' => ∃ v, e = .returned (.tuple #[v, .bool true]) ∧ w'.ownsRow w.heap.size 2 1 v ds.length (flat iL (runO L up dn ud dd dt ds P0 T0)) ∧ Below w.heap.size w w' := by
  have HM := Lib.hid hm
  have HPP := Lib.hid hp
  have HUU := Lib.hid (show (0 ≤ ud ∧ ud ≤ 86400) ∧ (0 ≤ dd ∧ dd ≤ 86400) by omega)
  have HDS := Lib.hid hds
  have HP0 := Lib.hid hP
  have HT0 := Lib.hid hT
  have HDT := Lib.hid hdt
  have HPS := Lib.hid hps
  have HST := Lib.hid hst
  have HFL := Lib.hid hfl
  obtain ⟨M, hM⟩ : ∃ M, M = ds.length := ⟨_, rfl⟩
  have HML := Lib.hid hM
  have m40 : M ≤ 1000 := by omega
  rw [← hM]
  obtain ⟨i0, hif, hz0, hz1, hz2⟩ := info_parts infoI64
  have HIF := Lib.hid hif
  have HZ0 := Lib.hid hz0
  have HZ1 := Lib.hid hz1
  have HZ2 := Lib.hid hz2
  clear hm hp hds hP hT hdt hps hst hfl hM h40 hif hz0 hz1 hz2
  go_enter Tryd.func22, Tryd.ntmps22
  go_wp2_with fail
  go_loopw [1, 10, 11] (fun s v i wr => ∃ (k : Nat) (P T : Int) (sa' : Option Addr) (c : Nat), k ≤ M ∧ s = .slice sa' 2 c ∧ i = .int .i64 k ∧ Hid ((P, T) = runS L up dn ud dd dt ds P0 T0 k ∧ InS wr sa' 2 1 (flat iL [P, T]) ∧ wr.ownsRow w.heap.size 2 1 v k (flat iL ((runO L up dn ud dd dt ds P0 T0).take k)) ∧ Below w.heap.size w wr)) (fun _ _ i _ => M - (intOf i).toNat)
  case atStart => exact ⟨0, P0, T0, sa, sc, Nat.zero_le _, rfl, rfl, Lib.hid ⟨rfl, HST.out, World.ownsRow_nil _ _ _ _, Below.refl _ _⟩⟩
  case round =>
    obtain ⟨k, P, T, sa', c, hk, rfl, rfl, hH⟩ := hrel
    have HPT := Lib.hid hH.out.1
    have HNS0 := Lib.hid hH.out.2.1
    have HOW := Lib.hid hH.out.2.2.1
    have HBR := Lib.hid hH.out.2.2.2
    clear hH
    by_cases hlt : k < M
    · obtain ⟨fb, fo, rfl, hfb, hfc⟩ := (show InS wr fa ds.length 1 (flat iL ds) from HFL.out.keep HBR.out).at iL_len (by have := HML.out; omega)
      obtain ⟨d, hf⟩ : ∃ x, ds[k]? = some x := ⟨_, List.getElem?_eq_getElem (by have := HML.out; omega)⟩
      have f0 := hfc k _ hf 0 _ rfl
      simp only [Nat.mul_one, Nat.add_zero] at f0
      have k1 : (0 : Int) ≤ (k : Int) := by omega
      have k2 : (k : Int) < (M : Int) := by omega
      have hdr := HDS.out d (List.mem_of_getElem? hf)
      have HRN := Lib.hid (show (runS L up dn ud dd dt ds P0 T0 (k + 1)) = stageS L up dn ud dd d dt P T by show stageS L up dn ud dd (ds.getD k 0) dt (runS L up dn ud dd dt ds P0 T0 k).1 (runS L up dn ud dd dt ds P0 T0 k).2 = _; rw [← HPT.out, List.getD_eq_getElem?_getD, hf]; rfl)
      have hbn := runS_keep L up dn ud dd dt ds P0 T0 HP0.out HT0.out HUU.out.1 HUU.out.2 HDT.out k
      rw [← HPT.out] at hbn
      simp only at hbn
      have HNJ := Lib.hid (show (runO L up dn ud dd dt ds P0 T0)[k]? = some (stageS L up dn ud dd d dt P T).1 by unfold runO; rw [List.getElem?_map, List.getElem?_range (by have := HML.out; omega)]; show some (runS L up dn ud dd dt ds P0 T0 (k + 1)).1 = _; rw [HRN.out])
      clear hf hfc hfb
      obtain ⟨W2, t2, hW2, ht2, R2, B2, sz2⟩ := box1 wr #[.int .i64 1, .int .i64 d] 27
      have HB3 := Lib.hid (HBR.out.trans (B2.mono HBR.out.size))
      have kst := step_stage L up dn ud dd d P T dt pa sa' (some ⟨t2, 0, none⟩) pc c 1 W2 (HM.out.keep HB3.out) HPP.out hdr ⟨hbn.1, hbn.2.1⟩ ⟨hbn.2.2.1, hbn.2.2.2⟩ HDT.out (HPS.out.keep HB3.out) (HNS0.out.keep B2) (ins_val R2)
      obtain ⟨⟨P2, T2⟩, hS⟩ : ∃ x, x = stageS L up dn ud dd d dt P T := ⟨_, rfl⟩
      have hP2 := stage_keep L up dn ud dd d dt P T ⟨hbn.1, hbn.2.1⟩ ⟨hbn.2.2.1, hbn.2.2.2⟩ HUU.out.1 HUU.out.2 HDT.out
      rw [← hS] at kst hP2 HRN HNJ
      simp only at hP2
      have KST := Lib.hid kst
      have HOW2 := Lib.hid (own_keep HOW.out B2)
      have HWS := Lib.hid (show wr.heap.size ≤ W2.heap.size from B2.size)
      have hL15 := HPP.out
      have e1 : IntKind.i64.wrap (P2 + 1) = P2 + 1 := IntWalk.i64_in _ (by omega)
      clear kst hS R2 B2 sz2 hbn hP2 hdr hL15
      go_wp2_with fail
      rw [← hW2]
      try rw [← ht2]
      clear hW2 ht2 f0
      refine KST.out.mono ?_
      rintro e w3 ⟨v, rfl, hown, hb⟩
      obtain ⟨g2, c2, rfl, hg2, hgc⟩ := own_cells hown (by decide)
      have HNN := Lib.hid (show InS w3 (some ⟨g2, 0, none⟩) 2 1 (flat iL [P2, T2]) from by
        obtain ⟨a9, c9, e9, i9⟩ := ins_own hown
        injection e9 with e1 e2 e3
        subst e1
        exact i9)
      have n0 : w3.cell? ⟨g2, 0, none⟩ = some (.int .i64 P2) := hgc 0 _ rfl
      have HB4 := Lib.hid (HB3.out.trans (hb.mono HB3.out.size))
      have HOW3 := Lib.hid (own_keep HOW2.out hb)
      have HG2 := Lib.hid (show (W2.heap.size ≤ g2 ∧ g2 < w3.heap.size) from ⟨hg2, World.block_lt_of_cell? _ _ n0⟩)
      obtain ⟨W5, tb, hW5, htb, R5, B5, sz5⟩ := box1 w3 #[.int .i64 3, .int .i64 (P2 + 1)] 27
      have HBD := Lib.hid (HB4.out.trans (B5.mono HB4.out.size))
      have HNS := Lib.hid (HNN.out.keep B5)
      have HOW5 := Lib.hid (own_keep HOW3.out B5)
      have HK := Lib.hid (show W5.cell? ⟨g2, 0, none⟩ = some (.int .i64 P2) ∧ W5.cell? ⟨tb, 0, none⟩ = some (.int .i64 3) ∧ W5.cell? ⟨tb, 1, none⟩ = some (.int .i64 (P2 + 1)) from ⟨cell_below n0 B5, R5.c 0 _ rfl, R5.c 1 _ rfl⟩)
      have HC := Lib.hid HK.out
      clear hown hg2 hgc n0 hb R5 B5 sz5 KST
      go_upto_region 6 with fail
      rw [← hW5]
      try rw [← htb]
      clear hW5 htb
      refine wp_region_held_drew (S := fun w' => w'.cell? ⟨g2, 0, none⟩ = some (.int .i64 P2) ∧ w'.cell? ⟨tb, 0, none⟩ = some (.int .i64 3) ∧ w'.cell? ⟨tb, 1, none⟩ = some (.int .i64 (P2 + 1))) (by kernel_rfl) HC.out (fun hHeld => ?_)
      have hdr : Below W5.heap.size W5 W5.drew := (Below.refl _ _).drew
      have HK6 := Lib.hid (show W5.drew.cell? ⟨g2, 0, none⟩ = some (.int .i64 P2) ∧ W5.drew.cell? ⟨tb, 0, none⟩ = some (.int .i64 3) ∧ W5.drew.cell? ⟨tb, 1, none⟩ = some (.int .i64 (P2 + 1)) from ⟨cell_below HK.out.1 hdr, cell_below HK.out.2.1 hdr, cell_below HK.out.2.2 hdr⟩)
      have HB6 := Lib.hid (HBD.out.trans (hdr.mono HBD.out.size))
      have HN6 := Lib.hid (HNS.out.keep hdr)
      have HOW6 := Lib.hid (own_keep HOW5.out hdr)
      obtain ⟨w6, hw6⟩ : ∃ x, x = W5.drew := ⟨_, rfl⟩
      rw [← hw6] at HK6 HB6 HN6 HOW6 hHeld ⊢
      clear hw6 hdr HC HK
      refine' wpAnyH_take (i := 0) (v := _) rfl (by kernel_rfl) (by kernel_rfl) (by kernel_rfl) (fun _ _ _ h => h) (Or.inl ⟨by rfl, ?_⟩) hHeld ?_
      rotate_left
      · intro w hSw
        (try dsimp only at hSw)
        go_simp
        try with_reducible rfl
      (try simp only [Act.put, List.getElem_toArray, List.getElem_cons_zero, List.getElem_cons_succ, List.setIfInBounds_toArray, List.set_cons_zero, List.set_cons_succ])
      refine' wpAnyH_take (i := 1) (v := _) rfl (by kernel_rfl) (by kernel_rfl) (by kernel_rfl) (fun _ _ _ h => h) (Or.inl ⟨by rfl, ?_⟩) hHeld ?_
      rotate_left
      · intro w hSw
        (try dsimp only at hSw)
        go_simp
        try with_reducible rfl
      (try simp only [Act.put, List.getElem_toArray, List.getElem_cons_zero, List.getElem_cons_succ, List.setIfInBounds_toArray, List.set_cons_zero, List.set_cons_succ])
      refine' wpAnyH_take (i := 2) (v := _) rfl (by kernel_rfl) (by kernel_rfl) (by kernel_rfl) (fun _ _ _ h => h) (Or.inl ⟨by rfl, ?_⟩) hHeld ?_
      rotate_left
      · intro w hSw
        (try dsimp only at hSw)
        go_simp
        try with_reducible rfl
      (try simp only [Act.put, List.getElem_toArray, List.getElem_cons_zero, List.getElem_cons_succ, List.setIfInBounds_toArray, List.set_cons_zero, List.set_cons_succ])
      refine' wpAnyH_take (i := 3) (v := _) rfl (by kernel_rfl) (by kernel_rfl) (by kernel_rfl) (fun _ _ _ h => h) (Or.inl ⟨by rfl, ?_⟩) hHeld ?_
      rotate_left
      · intro w hSw
        (try dsimp only at hSw)
        go_simp
        try with_reducible rfl
      (try simp only [Act.put, List.getElem_toArray, List.getElem_cons_zero, List.getElem_cons_succ, List.setIfInBounds_toArray, List.set_cons_zero, List.set_cons_succ])
      refine' wpAnyH_take (i := 4) (v := _) rfl (by kernel_rfl) (by kernel_rfl) (by kernel_rfl) (fun _ _ _ h => h) (Or.inl ⟨by rfl, ?_⟩) hHeld ?_
      rotate_left
      · intro w hSw
        (try dsimp only at hSw)
        go_simp
        try with_reducible rfl
      (try simp only [Act.put, List.getElem_toArray, List.getElem_cons_zero, List.getElem_cons_succ, List.setIfInBounds_toArray, List.set_cons_zero, List.set_cons_succ])
      refine' wpAnyH_take (i := 5) (v := _) rfl (by kernel_rfl) (by kernel_rfl) (by kernel_rfl) (fun _ _ _ h => h) (Or.inl ⟨by rfl, ?_⟩) hHeld ?_
      rotate_left
      · intro w hSw
        (try dsimp only at hSw)
        go_simp
        try with_reducible rfl
      (try simp only [Act.put, List.getElem_toArray, List.getElem_cons_zero, List.getElem_cons_succ, List.setIfInBounds_toArray, List.set_cons_zero, List.set_cons_succ])
      refine' wpAnyH_take (i := 6) (v := _) rfl (by kernel_rfl) (by kernel_rfl) (by kernel_rfl) (fun _ _ _ h => h) (Or.inl ⟨by rfl, ?_⟩) hHeld ?_
      rotate_left
      · intro w hSw
        (try dsimp only at hSw)
        go_simp
        try with_reducible rfl
      (try simp only [Act.put, List.getElem_toArray, List.getElem_cons_zero, List.getElem_cons_succ, List.setIfInBounds_toArray, List.set_cons_zero, List.set_cons_succ])
      refine' wpAnyH_take (i := 7) (v := _) rfl (by kernel_rfl) (by kernel_rfl) (by kernel_rfl) (fun _ _ _ h => h) (Or.inl ⟨by rfl, ?_⟩) hHeld ?_
      rotate_left
      · intro w hSw
        (try dsimp only at hSw)
        go_simp
        try with_reducible rfl
      (try simp only [Act.put, List.getElem_toArray, List.getElem_cons_zero, List.getElem_cons_succ, List.setIfInBounds_toArray, List.set_cons_zero, List.set_cons_succ])
      refine' wpAnyH_take (i := 8) (v := _) rfl (by kernel_rfl) (by kernel_rfl) (by kernel_rfl) (fun _ _ _ h => h) (Or.inl ⟨by rfl, ?_⟩) hHeld ?_
      rotate_left
      · intro w hSw
        (try dsimp only at hSw)
        go_simp
        try with_reducible rfl
      (try simp only [Act.put, List.getElem_toArray, List.getElem_cons_zero, List.getElem_cons_succ, List.setIfInBounds_toArray, List.set_cons_zero, List.set_cons_succ])
      refine' wpAnyH_take (i := 9) (v := _) rfl (by kernel_rfl) (by kernel_rfl) (by kernel_rfl) (fun _ _ _ h => h) (Or.inl ⟨by rfl, ?_⟩) hHeld ?_
      rotate_left
      · intro w hSw
        (try dsimp only at hSw)
        go_simp
        try with_reducible rfl
      (try simp only [Act.put, List.getElem_toArray, List.getElem_cons_zero, List.getElem_cons_succ, List.setIfInBounds_toArray, List.set_cons_zero, List.set_cons_succ])
      refine' wpAnyH_take (i := 10) (v := _) rfl (by kernel_rfl) (by kernel_rfl) (by kernel_rfl) (fun _ _ _ h => h) (Or.inl ⟨by rfl, ?_⟩) hHeld ?_
      rotate_left
      · intro w hSw
        (try dsimp only at hSw)
        go_simp
        try with_reducible rfl
      (try simp only [Act.put, List.getElem_toArray, List.getElem_cons_zero, List.getElem_cons_succ, List.setIfInBounds_toArray, List.set_cons_zero, List.set_cons_succ])
      refine' wpAnyH_take (i := 11) (v := _) rfl (by kernel_rfl) (by kernel_rfl) (by kernel_rfl) (fun _ _ _ h => h) (Or.inl ⟨by rfl, ?_⟩) hHeld ?_
      rotate_left
      · intro w hSw
        (try dsimp only at hSw)
        go_simp
        try with_reducible rfl
      (try simp only [Act.put, List.getElem_toArray, List.getElem_cons_zero, List.getElem_cons_succ, List.setIfInBounds_toArray, List.set_cons_zero, List.set_cons_succ])
      refine' wpAnyH_take (i := 12) (v := _) rfl (by kernel_rfl) (by kernel_rfl) (by kernel_rfl) (fun _ _ _ h => h) (Or.inl ⟨by rfl, ?_⟩) hHeld ?_
      rotate_left
      · intro w hSw
        (try dsimp only at hSw)
        go_simp
        try with_reducible rfl
      (try simp only [Act.put, List.getElem_toArray, List.getElem_cons_zero, List.getElem_cons_succ, List.setIfInBounds_toArray, List.set_cons_zero, List.set_cons_succ])
      refine' wpAnyH_take (i := 13) (v := _) rfl (by kernel_rfl) (by kernel_rfl) (by kernel_rfl) (fun _ _ _ h => h) (Or.inl ⟨by rfl, ?_⟩) hHeld ?_
      rotate_left
      · intro w hSw
        (try dsimp only at hSw)
        go_simp
        try with_reducible rfl
      (try simp only [Act.put, List.getElem_toArray, List.getElem_cons_zero, List.getElem_cons_succ, List.setIfInBounds_toArray, List.set_cons_zero, List.set_cons_succ])
      refine' wpAnyH_take (i := 14) (v := _) rfl (by kernel_rfl) (by kernel_rfl) (by kernel_rfl) (fun _ _ _ h => h) (Or.inl ⟨by rfl, ?_⟩) hHeld ?_
      rotate_left
      · intro w hSw
        (try dsimp only at hSw)
        go_simp
        try with_reducible rfl
      (try simp only [Act.put, List.getElem_toArray, List.getElem_cons_zero, List.getElem_cons_succ, List.setIfInBounds_toArray, List.set_cons_zero, List.set_cons_succ])
      refine' wpAnyH_take (i := 15) (v := _) rfl (by kernel_rfl) (by kernel_rfl) (by kernel_rfl) (fun _ _ _ h => h) (Or.inl ⟨by rfl, ?_⟩) hHeld ?_
      rotate_left
      · intro w hSw
        (try dsimp only at hSw)
        go_simp
        try with_reducible rfl
      (try simp only [Act.put, List.getElem_toArray, List.getElem_cons_zero, List.getElem_cons_succ, List.setIfInBounds_toArray, List.set_cons_zero, List.set_cons_succ])
      refine' wpAnyH_take (i := 16) (v := _) rfl (by kernel_rfl) (by kernel_rfl) (by kernel_rfl) (fun _ _ _ h => h) (Or.inl ⟨by rfl, ?_⟩) hHeld ?_
      rotate_left
      · intro w hSw
        (try dsimp only at hSw)
        go_simp
        try with_reducible rfl
      (try simp only [Act.put, List.getElem_toArray, List.getElem_cons_zero, List.getElem_cons_succ, List.setIfInBounds_toArray, List.set_cons_zero, List.set_cons_succ])
      refine' wpAnyH_take (i := 17) (v := _) rfl (by kernel_rfl) (by kernel_rfl) (by kernel_rfl) (fun _ _ _ h => h) (Or.inl ⟨by rfl, ?_⟩) hHeld ?_
      rotate_left
      · intro w hSw
        (try dsimp only at hSw)
        go_simp
        try with_reducible rfl
      (try simp only [Act.put, List.getElem_toArray, List.getElem_cons_zero, List.getElem_cons_succ, List.setIfInBounds_toArray, List.set_cons_zero, List.set_cons_succ])
      refine' wpAnyH_take (i := 18) (v := _) rfl (by kernel_rfl) (by kernel_rfl) (by kernel_rfl) (fun _ _ _ h => h) (Or.inl ⟨by rfl, ?_⟩) hHeld ?_
      rotate_left
      · intro w hSw
        (try dsimp only at hSw)
        go_simp
        try with_reducible rfl
      (try simp only [Act.put, List.getElem_toArray, List.getElem_cons_zero, List.getElem_cons_succ, List.setIfInBounds_toArray, List.set_cons_zero, List.set_cons_succ])
      refine' wpAnyH_take (i := 19) (v := _) rfl (by kernel_rfl) (by kernel_rfl) (by kernel_rfl) (fun _ _ _ h => h) (Or.inl ⟨by rfl, ?_⟩) hHeld ?_
      rotate_left
      · intro w hSw
        (try dsimp only at hSw)
        go_simp
        try with_reducible rfl
      (try simp only [Act.put, List.getElem_toArray, List.getElem_cons_zero, List.getElem_cons_succ, List.setIfInBounds_toArray, List.set_cons_zero, List.set_cons_succ])
      refine' wpAnyH_take (i := 20) (v := _) rfl (by kernel_rfl) (by kernel_rfl) (by kernel_rfl) (fun _ _ _ h => h) (Or.inl ⟨by rfl, ?_⟩) hHeld ?_
      rotate_left
      · intro w hSw
        (try dsimp only at hSw)
        go_simp
        try with_reducible rfl
      (try simp only [Act.put, List.getElem_toArray, List.getElem_cons_zero, List.getElem_cons_succ, List.setIfInBounds_toArray, List.set_cons_zero, List.set_cons_succ])
      refine wpAnyH_done (by kernel_rfl) ?_ _
      (try simp only [Act.put, List.getElem_toArray, List.getElem_cons_zero, List.getElem_cons_succ, List.setIfInBounds_toArray, List.set_cons_zero, List.set_cons_succ])
      clear hHeld
      have q0 := HK6.out.1
      have hif := HIF.out
      have hz0 := HZ0.out
      have hz1 := HZ1.out
      have hz2 := HZ2.out
      go_wp2_with (at_builtin; refine wpList_append_own _ rfl _ _ 22 rfl w.heap.size 2 i0 (.int .i64 0) 1 8 Tryd.underlying22 hif hz0 hz1 hz2 rfl (by decide) _ _ _ rfl (own_at HOW6.out _) ⟨w6.heap.size, 0, none⟩ 1 1 [.int .i64 P2] rfl rfl ?a1 ?a2 ?a3 ?a4 ?a5 ?_)
      try
        case a1 =>
          intro q u hu
          rw [add_plain, Nat.zero_add]
          exact (row_fresh w6 #[.int .i64 P2] 2).c q u hu
      try
        case a2 =>
          first
            | rfl
            | (intro u hu; simp at hu; subst hu; rfl)
      case a3 => unfold maxLen; omega
      case a4 => omega
      case a5 => have := HB6.out.size; (try rw [World.size_alloc]); omega
      intro v5 w7 hown hgrow _
      have nal : Below w6.heap.size w6 (w6.alloc (Obj.cells #[.int .i64 P2] 2)) := (Below.refl _ _).alloc (Nat.le_refl _) _
      have vlt := fun q e => (HOW6.out.lt q e).1
      have B7 := Lib.hid ((HB6.out.trans (nal.mono HB6.out.size)).grown hgrow (by have := HB6.out.size; rw [World.size_alloc]; omega) (fun q e => vlt q e))
      have V7 := Lib.hid (show w7.ownsRow w.heap.size 2 1 v5 (k + 1) (flat iL ((runO L up dn ud dd dt ds P0 T0).take (k + 1))) by rw [flat_iL _ _ _ HNJ.out]; exact hown)
      have HN7 := Lib.hid (ins_grown1 (HN6.out.keep nal) hgrow (fun e => by have h1 := (HOW.out.lt g2 e.symm).2; have h2 := HG2.out.1; have h3 := HWS.out; omega))
      clear hown hgrow nal vlt hif hz0 hz1 hz2 q0
      go_wp2_with fail
      go_roundw
      case rel => exact ⟨k + 1, P2, T2, _, c2, by omega, rfl, by go_num, Lib.hid ⟨HRN.out.symm, HN7.out, V7.out, B7.out⟩⟩
      case measure => (simp [intOf]) <;> omega
    · obtain rfl : k = M := by omega
      have HOF := Lib.hid (show wr.ownsRow w.heap.size 2 1 _ k (flat iL (runO L up dn ud dd dt ds P0 T0)) by have h := HOW.out; rw [List.take_of_length_le (by unfold runO; rw [List.length_map, List.length_range]; have := HML.out; omega)] at h; exact h)
      go_wp2_with fail
      go_ret2
      exact ⟨_, rfl, HOF.out, HBR.out⟩
end Go.Proofs.YthaigchklogjlaaDoor
