/- plenumref19.step at each block. -/
import Derived.Test.YtmhfkdnblemfdaaDoorDg
namespace Go.Proofs.YtmhfkdnblemfdaaDoor
open Go.RowKit Go.Shelf

set_option linter.unusedVariables false
set_option linter.unusedSimpArgs false
theorem rbinary_any (n : Int) (w : World) : Calls Tryd.prog 38 #[.int .i64 n] w fun e w' => e = .returned (.agg #[.int .i64 2, .int .i64 n]) ∧ Below w.heap.size w w' := by
  obtain ⟨W, q, hW, hq, RQ, B, sz⟩ := box1 w #[.int .i64 0, .int .i64 0] 26
  have HQ := Lib.hid RQ
  have HB := Lib.hid B
  have HWQ := Lib.hid (show w.heap.size ≤ q by omega)
  go_enter Tryd.func38, Tryd.ntmps38
  go_upto_region 1 with fail
  rw [← hW]
  try rw [← hq]
  clear hW hq RQ B sz
  have q_0 := HQ.out.c 0 _ rfl
  have q_1 := HQ.out.c 1 _ rfl
  have q_z := HQ.out.fz
  go_wp2_with fail
  have hs := HQ.out.setRow [.int .i64 2, .int .i64 n] rfl
  have hB := set_below HB.out HWQ.out [.int .i64 2, .int .i64 n]
  have y0 : ((W.setCell ⟨q, 0, none⟩ (.int .i64 2)).setCell ⟨q, 1, none⟩ (.int .i64 n)).cell? ⟨q, 0, none⟩ = some (.int .i64 2) := hs.c 0 _ rfl
  have y1 : ((W.setCell ⟨q, 0, none⟩ (.int .i64 2)).setCell ⟨q, 1, none⟩ (.int .i64 n)).cell? ⟨q, 1, none⟩ = some (.int .i64 n) := hs.c 1 _ rfl
  (try simp only [Exit.inBlock, Exit.then])
  refine bodyPost_ret (by simp [results, Tryd.results38, go_sem, y0, y1]; try rfl) rfl ?_
  exact ⟨rfl, hB⟩
set_option maxHeartbeats 4000000 in
set_option maxRecDepth 100000 in
theorem rstep_count (sb so sc vb vo vc : Nat) (vp : Value) (x y a c dt : Int) (w : World) (hdt : 1 ≤ dt ∧ dt ≤ 86400) (hy : 0 ≤ y ∧ y ≤ 1000000000) (s0 : w.cell? ⟨sb, so, none⟩ = some (.int .i64 x)) (s1 : w.cell? ⟨sb, so + 1, none⟩ = some (.int .i64 y)) (n0 : w.cell? ⟨vb, vo + 1, none⟩ = some (.int .i64 a)) (n1 : w.cell? ⟨vb, vo + 3, none⟩ = some (.int .i64 c)) :
    Calls Tryd.prog 24 #[.string ⟨#[99, 111, 117, 110, 116]⟩, vp, .slice (some ⟨sb, so, none⟩) 2 sc, .slice (some ⟨vb, vo, none⟩) 2 vc, .int .i64 dt] w fun e w' => ∃ gr, e = .returned (.tuple #[.slice (some ⟨gr, 0, none⟩) 2 2, .agg #[.int .i64 1, .int .i64 (1000 * cntS a c x y)]]) ∧ w.heap.size ≤ gr ∧ RowAt w' gr (flat iL [a, cntS a c x y]) ∧ Below w.heap.size w w' := by
  obtain ⟨W1, g, hW1, hg, RG, B1, sz1⟩ := box1 w #[.int .i64 0, .int .i64 0] 26
  have HG1 := Lib.hid RG
  have HB1 := Lib.hid B1
  have HWG := Lib.hid (show w.heap.size ≤ g by omega)
  have hsb : sb < w.heap.size := World.block_lt_of_cell? _ _ s0
  have hgw : g = w.heap.size := hg
  replace s0 := cellB s0 B1
  replace s1 := cellB s1 B1
  replace n0 := cellB n0 B1
  replace n1 := cellB n1 B1
  clear RG B1 sz1
  clear hsb hgw
  have e1 : IntKind.i64.wrap (y + 1) = y + 1 := IntWalk.i64_in _ (by omega)
  have e2 : IntKind.i64.wrap (1000 * (y + 1)) = 1000 * (y + 1) := IntWalk.i64_in _ (by omega)
  have e3 : IntKind.i64.wrap (1000 * y) = 1000 * y := IntWalk.i64_in _ (by omega)
  by_cases hc : c = 1
  · have bc1 : (c == 1) = true := by rw [beq_iff_eq]; omega
    obtain ⟨SVX, hSVX⟩ : ∃ zz, zz = ([a, cntS a c x y] : List Int) := ⟨_, rfl⟩
    obtain ⟨OVX, hOVX⟩ : ∃ zz, zz = (1000 * cntS a c x y : Int) := ⟨_, rfl⟩
    have HS := Lib.hid (show SVX = [a, 0] by rw [hSVX, show cntS a c x y = 0 from by (try unfold cntS); first | rfl | omega | ((repeat' split) <;> first | rfl | omega)])
    have HO := Lib.hid (show OVX = 0 by rw [hOVX]; exact by (try unfold cntS); first | rfl | omega | ((repeat' split) <;> first | rfl | omega))
    rw [← hSVX, ← hOVX]
    clear hSVX hOVX
    clear hc
    go_enter Tryd.func24, Tryd.ntmps24
    go_upto_region 1 with fail
    rw [← hW1]
    try rw [← hg]
    clear hW1 hg
    obtain ⟨W4, gr, hW4, hgr, R4, B4, sz4⟩ := box1 W1 #[.int .i64 a, .int .i64 0] 2
    have HGRL := Lib.hid (show w.heap.size ≤ gr by have := HB1.out.size; omega)
    have HGN := Lib.hid (show g ≠ gr by have := HG1.out.lt; omega)
    have HR4 := Lib.hid R4
    have HG4 := Lib.hid (HG1.out.keep B4)
    have HB4 := Lib.hid (HB1.out.trans (B4.mono HB1.out.size))
    clear R4 B4 sz4
    subst hgr
    subst hW4
    have g_0 := HG4.out.c 0 _ rfl
    have g_1 := HG4.out.c 1 _ rfl
    have g_z := HG4.out.fz
    go_wp2_with fail
    have hs := HG4.out.setRow [.int .i64 1, .int .i64 0] rfl
    have hB := set_below HB4.out HWG.out [.int .i64 1, .int .i64 0]
    have y0 : (((W1.alloc (Obj.cells #[.int .i64 a, .int .i64 0] 2)).setCell ⟨g, 0, none⟩ (.int .i64 1)).setCell ⟨g, 1, none⟩ (.int .i64 0)).cell? ⟨g, 0, none⟩ = some (.int .i64 1) := hs.c 0 _ rfl
    have y1 : (((W1.alloc (Obj.cells #[.int .i64 a, .int .i64 0] 2)).setCell ⟨g, 0, none⟩ (.int .i64 1)).setCell ⟨g, 1, none⟩ (.int .i64 0)).cell? ⟨g, 1, none⟩ = some (.int .i64 0) := hs.c 1 _ rfl
    (try simp only [Exit.inBlock, Exit.then])
    refine bodyPost_ret (by simp [results, Tryd.results24, go_sem, y0, y1]; try rfl) rfl ?_
    rw [HS.out, HO.out]
    exact ⟨_, rfl, HGRL.out, HR4.out.other HGN.out [.int .i64 1, .int .i64 0], hB⟩
  · have bc1 : (c == 1) = false := by rw [beq_eq_false_iff_ne]; omega
    by_cases ha : a = 1
    · have ba1 : (a == 1) = true := by rw [beq_iff_eq]; omega
      by_cases hx : x = 0
      · have bx0 : (x == 0) = true := by rw [beq_iff_eq]; omega
        by_cases hy : y < 1000000000
        · obtain ⟨SVX, hSVX⟩ : ∃ zz, zz = ([a, cntS a c x y] : List Int) := ⟨_, rfl⟩
          obtain ⟨OVX, hOVX⟩ : ∃ zz, zz = (1000 * cntS a c x y : Int) := ⟨_, rfl⟩
          have HS := Lib.hid (show SVX = [a, y + 1] by rw [hSVX, show cntS a c x y = y + 1 from by (try unfold cntS); first | rfl | omega | ((repeat' split) <;> first | rfl | omega)])
          have HO := Lib.hid (show OVX = 1000 * (y + 1) by rw [hOVX]; exact by (try unfold cntS); first | rfl | omega | ((repeat' split) <;> first | rfl | omega))
          rw [← hSVX, ← hOVX]
          clear hSVX hOVX
          clear hc ha hx
          go_enter Tryd.func24, Tryd.ntmps24
          go_upto_region 1 with fail
          rw [← hW1]
          try rw [← hg]
          clear hW1 hg
          obtain ⟨W4, gr, hW4, hgr, R4, B4, sz4⟩ := box1 W1 #[.int .i64 a, .int .i64 (y + 1)] 2
          have HGRL := Lib.hid (show w.heap.size ≤ gr by have := HB1.out.size; omega)
          have HGN := Lib.hid (show g ≠ gr by have := HG1.out.lt; omega)
          have HR4 := Lib.hid R4
          have HG4 := Lib.hid (HG1.out.keep B4)
          have HB4 := Lib.hid (HB1.out.trans (B4.mono HB1.out.size))
          clear R4 B4 sz4
          subst hgr
          subst hW4
          have g_0 := HG4.out.c 0 _ rfl
          have g_1 := HG4.out.c 1 _ rfl
          have g_z := HG4.out.fz
          go_wp2_with fail
          have hs := HG4.out.setRow [.int .i64 1, .int .i64 (1000 * (y + 1))] rfl
          have hB := set_below HB4.out HWG.out [.int .i64 1, .int .i64 (1000 * (y + 1))]
          have y0 : (((W1.alloc (Obj.cells #[.int .i64 a, .int .i64 (y + 1)] 2)).setCell ⟨g, 0, none⟩ (.int .i64 1)).setCell ⟨g, 1, none⟩ (.int .i64 (1000 * (y + 1)))).cell? ⟨g, 0, none⟩ = some (.int .i64 1) := hs.c 0 _ rfl
          have y1 : (((W1.alloc (Obj.cells #[.int .i64 a, .int .i64 (y + 1)] 2)).setCell ⟨g, 0, none⟩ (.int .i64 1)).setCell ⟨g, 1, none⟩ (.int .i64 (1000 * (y + 1)))).cell? ⟨g, 1, none⟩ = some (.int .i64 (1000 * (y + 1))) := hs.c 1 _ rfl
          (try simp only [Exit.inBlock, Exit.then])
          refine bodyPost_ret (by simp [results, Tryd.results24, go_sem, y0, y1]; try rfl) rfl ?_
          rw [HS.out, HO.out]
          exact ⟨_, rfl, HGRL.out, HR4.out.other HGN.out [.int .i64 1, .int .i64 (1000 * (y + 1))], hB⟩
        · obtain ⟨SVX, hSVX⟩ : ∃ zz, zz = ([a, cntS a c x y] : List Int) := ⟨_, rfl⟩
          obtain ⟨OVX, hOVX⟩ : ∃ zz, zz = (1000 * cntS a c x y : Int) := ⟨_, rfl⟩
          have HS := Lib.hid (show SVX = [a, y] by rw [hSVX, show cntS a c x y = y from by (try unfold cntS); first | rfl | omega | ((repeat' split) <;> first | rfl | omega)])
          have HO := Lib.hid (show OVX = 1000 * y by rw [hOVX]; exact by (try unfold cntS); first | rfl | omega | ((repeat' split) <;> first | rfl | omega))
          rw [← hSVX, ← hOVX]
          clear hSVX hOVX
          clear hc ha hx
          go_enter Tryd.func24, Tryd.ntmps24
          go_upto_region 1 with fail
          rw [← hW1]
          try rw [← hg]
          clear hW1 hg
          obtain ⟨W4, gr, hW4, hgr, R4, B4, sz4⟩ := box1 W1 #[.int .i64 a, .int .i64 y] 2
          have HGRL := Lib.hid (show w.heap.size ≤ gr by have := HB1.out.size; omega)
          have HGN := Lib.hid (show g ≠ gr by have := HG1.out.lt; omega)
          have HR4 := Lib.hid R4
          have HG4 := Lib.hid (HG1.out.keep B4)
          have HB4 := Lib.hid (HB1.out.trans (B4.mono HB1.out.size))
          clear R4 B4 sz4
          subst hgr
          subst hW4
          have g_0 := HG4.out.c 0 _ rfl
          have g_1 := HG4.out.c 1 _ rfl
          have g_z := HG4.out.fz
          go_wp2_with fail
          have hs := HG4.out.setRow [.int .i64 1, .int .i64 (1000 * y)] rfl
          have hB := set_below HB4.out HWG.out [.int .i64 1, .int .i64 (1000 * y)]
          have y0 : (((W1.alloc (Obj.cells #[.int .i64 a, .int .i64 y] 2)).setCell ⟨g, 0, none⟩ (.int .i64 1)).setCell ⟨g, 1, none⟩ (.int .i64 (1000 * y))).cell? ⟨g, 0, none⟩ = some (.int .i64 1) := hs.c 0 _ rfl
          have y1 : (((W1.alloc (Obj.cells #[.int .i64 a, .int .i64 y] 2)).setCell ⟨g, 0, none⟩ (.int .i64 1)).setCell ⟨g, 1, none⟩ (.int .i64 (1000 * y))).cell? ⟨g, 1, none⟩ = some (.int .i64 (1000 * y)) := hs.c 1 _ rfl
          (try simp only [Exit.inBlock, Exit.then])
          refine bodyPost_ret (by simp [results, Tryd.results24, go_sem, y0, y1]; try rfl) rfl ?_
          rw [HS.out, HO.out]
          exact ⟨_, rfl, HGRL.out, HR4.out.other HGN.out [.int .i64 1, .int .i64 (1000 * y)], hB⟩
      · have bx0 : (x == 0) = false := by rw [beq_eq_false_iff_ne]; omega
        obtain ⟨SVX, hSVX⟩ : ∃ zz, zz = ([a, cntS a c x y] : List Int) := ⟨_, rfl⟩
        obtain ⟨OVX, hOVX⟩ : ∃ zz, zz = (1000 * cntS a c x y : Int) := ⟨_, rfl⟩
        have HS := Lib.hid (show SVX = [a, y] by rw [hSVX, show cntS a c x y = y from by (try unfold cntS); first | rfl | omega | ((repeat' split) <;> first | rfl | omega)])
        have HO := Lib.hid (show OVX = 1000 * y by rw [hOVX]; exact by (try unfold cntS); first | rfl | omega | ((repeat' split) <;> first | rfl | omega))
        rw [← hSVX, ← hOVX]
        clear hSVX hOVX
        clear hc ha hx
        go_enter Tryd.func24, Tryd.ntmps24
        go_upto_region 1 with fail
        rw [← hW1]
        try rw [← hg]
        clear hW1 hg
        obtain ⟨W4, gr, hW4, hgr, R4, B4, sz4⟩ := box1 W1 #[.int .i64 a, .int .i64 y] 2
        have HGRL := Lib.hid (show w.heap.size ≤ gr by have := HB1.out.size; omega)
        have HGN := Lib.hid (show g ≠ gr by have := HG1.out.lt; omega)
        have HR4 := Lib.hid R4
        have HG4 := Lib.hid (HG1.out.keep B4)
        have HB4 := Lib.hid (HB1.out.trans (B4.mono HB1.out.size))
        clear R4 B4 sz4
        subst hgr
        subst hW4
        have g_0 := HG4.out.c 0 _ rfl
        have g_1 := HG4.out.c 1 _ rfl
        have g_z := HG4.out.fz
        go_wp2_with fail
        have hs := HG4.out.setRow [.int .i64 1, .int .i64 (1000 * y)] rfl
        have hB := set_below HB4.out HWG.out [.int .i64 1, .int .i64 (1000 * y)]
        have y0 : (((W1.alloc (Obj.cells #[.int .i64 a, .int .i64 y] 2)).setCell ⟨g, 0, none⟩ (.int .i64 1)).setCell ⟨g, 1, none⟩ (.int .i64 (1000 * y))).cell? ⟨g, 0, none⟩ = some (.int .i64 1) := hs.c 0 _ rfl
        have y1 : (((W1.alloc (Obj.cells #[.int .i64 a, .int .i64 y] 2)).setCell ⟨g, 0, none⟩ (.int .i64 1)).setCell ⟨g, 1, none⟩ (.int .i64 (1000 * y))).cell? ⟨g, 1, none⟩ = some (.int .i64 (1000 * y)) := hs.c 1 _ rfl
        (try simp only [Exit.inBlock, Exit.then])
        refine bodyPost_ret (by simp [results, Tryd.results24, go_sem, y0, y1]; try rfl) rfl ?_
        rw [HS.out, HO.out]
        exact ⟨_, rfl, HGRL.out, HR4.out.other HGN.out [.int .i64 1, .int .i64 (1000 * y)], hB⟩
    · have ba1 : (a == 1) = false := by rw [beq_eq_false_iff_ne]; omega
      obtain ⟨SVX, hSVX⟩ : ∃ zz, zz = ([a, cntS a c x y] : List Int) := ⟨_, rfl⟩
      obtain ⟨OVX, hOVX⟩ : ∃ zz, zz = (1000 * cntS a c x y : Int) := ⟨_, rfl⟩
      have HS := Lib.hid (show SVX = [a, y] by rw [hSVX, show cntS a c x y = y from by (try unfold cntS); first | rfl | omega | ((repeat' split) <;> first | rfl | omega)])
      have HO := Lib.hid (show OVX = 1000 * y by rw [hOVX]; exact by (try unfold cntS); first | rfl | omega | ((repeat' split) <;> first | rfl | omega))
      rw [← hSVX, ← hOVX]
      clear hSVX hOVX
      clear hc ha
      go_enter Tryd.func24, Tryd.ntmps24
      go_upto_region 1 with fail
      rw [← hW1]
      try rw [← hg]
      clear hW1 hg
      obtain ⟨W4, gr, hW4, hgr, R4, B4, sz4⟩ := box1 W1 #[.int .i64 a, .int .i64 y] 2
      have HGRL := Lib.hid (show w.heap.size ≤ gr by have := HB1.out.size; omega)
      have HGN := Lib.hid (show g ≠ gr by have := HG1.out.lt; omega)
      have HR4 := Lib.hid R4
      have HG4 := Lib.hid (HG1.out.keep B4)
      have HB4 := Lib.hid (HB1.out.trans (B4.mono HB1.out.size))
      clear R4 B4 sz4
      subst hgr
      subst hW4
      have g_0 := HG4.out.c 0 _ rfl
      have g_1 := HG4.out.c 1 _ rfl
      have g_z := HG4.out.fz
      go_wp2_with fail
      have hs := HG4.out.setRow [.int .i64 1, .int .i64 (1000 * y)] rfl
      have hB := set_below HB4.out HWG.out [.int .i64 1, .int .i64 (1000 * y)]
      have y0 : (((W1.alloc (Obj.cells #[.int .i64 a, .int .i64 y] 2)).setCell ⟨g, 0, none⟩ (.int .i64 1)).setCell ⟨g, 1, none⟩ (.int .i64 (1000 * y))).cell? ⟨g, 0, none⟩ = some (.int .i64 1) := hs.c 0 _ rfl
      have y1 : (((W1.alloc (Obj.cells #[.int .i64 a, .int .i64 y] 2)).setCell ⟨g, 0, none⟩ (.int .i64 1)).setCell ⟨g, 1, none⟩ (.int .i64 (1000 * y))).cell? ⟨g, 1, none⟩ = some (.int .i64 (1000 * y)) := hs.c 1 _ rfl
      (try simp only [Exit.inBlock, Exit.then])
      refine bodyPost_ret (by simp [results, Tryd.results24, go_sem, y0, y1]; try rfl) rfl ?_
      rw [HS.out, HO.out]
      exact ⟨_, rfl, HGRL.out, HR4.out.other HGN.out [.int .i64 1, .int .i64 (1000 * y)], hB⟩
set_option maxHeartbeats 4000000 in
set_option maxRecDepth 100000 in
theorem rstep_edge (sb so sc vb vo vc : Nat) (vp : Value) (x a dt : Int) (w : World) (hdt : 1 ≤ dt ∧ dt ≤ 86400)  (s0 : w.cell? ⟨sb, so, none⟩ = some (.int .i64 x)) (n0 : w.cell? ⟨vb, vo + 1, none⟩ = some (.int .i64 a)) :
    Calls Tryd.prog 24 #[.string ⟨#[101, 100, 103, 101]⟩, vp, .slice (some ⟨sb, so, none⟩) 1 sc, .slice (some ⟨vb, vo, none⟩) 1 vc, .int .i64 dt] w fun e w' => ∃ gr, e = .returned (.tuple #[.slice (some ⟨gr, 0, none⟩) 1 1, .agg #[.int .i64 2, .int .i64 (edgeN a x)]]) ∧ w.heap.size ≤ gr ∧ RowAt w' gr (flat iL [a]) ∧ Below w.heap.size w w' := by
  obtain ⟨W1, g, hW1, hg, RG, B1, sz1⟩ := box1 w #[.int .i64 0, .int .i64 0] 26
  have HG1 := Lib.hid RG
  have HB1 := Lib.hid B1
  have HWG := Lib.hid (show w.heap.size ≤ g by omega)
  have hsb : sb < w.heap.size := World.block_lt_of_cell? _ _ s0
  have hgw : g = w.heap.size := hg
  replace s0 := cellB s0 B1
  replace n0 := cellB n0 B1
  clear RG B1 sz1
  clear hsb hgw
  by_cases ha : a = 1
  · have ba1 : (a == 1) = true := by rw [beq_iff_eq]; omega
    by_cases hx : x = 0
    · have bx0 : (x == 0) = true := by rw [beq_iff_eq]; omega
      obtain ⟨SVX, hSVX⟩ : ∃ zz, zz = ([a] : List Int) := ⟨_, rfl⟩
      obtain ⟨OVX, hOVX⟩ : ∃ zz, zz = (edgeN a x : Int) := ⟨_, rfl⟩
      have HS := Lib.hid (show SVX = [1] by rw [hSVX, show a = 1 from by first | rfl | omega | ((repeat' split) <;> first | rfl | omega)])
      have HO := Lib.hid (show OVX = 1 by rw [hOVX]; exact by (try unfold edgeN); first | rfl | omega | ((repeat' split) <;> first | rfl | omega))
      rw [← hSVX, ← hOVX]
      clear hSVX hOVX
      clear ha hx
      go_enter Tryd.func24, Tryd.ntmps24
      go_upto_region 1 with fail
      rw [← hW1]
      try rw [← hg]
      clear hW1 hg
      obtain ⟨W4, gr, hW4, hgr, R4, B4, sz4⟩ := box1 W1 #[.int .i64 1] 2
      have HGRL := Lib.hid (show w.heap.size ≤ gr by have := HB1.out.size; omega)
      have HGN := Lib.hid (show g ≠ gr by have := HG1.out.lt; omega)
      have HR4 := Lib.hid R4
      have HG4 := Lib.hid (HG1.out.keep B4)
      have HB4 := Lib.hid (HB1.out.trans (B4.mono HB1.out.size))
      clear R4 B4 sz4
      go_wp2_with fail
      rw [← hW4]
      try rw [← hgr]
      clear hW4 hgr
      refine (rbinary_any 1 _).mono ?_
      rintro e w5 ⟨rfl, hb⟩
      have HR5 := Lib.hid (HR4.out.keep hb)
      have HG5 := Lib.hid (HG4.out.keep hb)
      have HB5 := Lib.hid (HB4.out.trans (hb.mono HB4.out.size))
      clear hb
      have g_0 := HG5.out.c 0 _ rfl
      have g_1 := HG5.out.c 1 _ rfl
      have g_z := HG5.out.fz
      go_wp2_with fail
      have hs := HG5.out.setRow [.int .i64 2, .int .i64 1] rfl
      have hB := set_below HB5.out HWG.out [.int .i64 2, .int .i64 1]
      have y0 : ((w5.setCell ⟨g, 0, none⟩ (.int .i64 2)).setCell ⟨g, 1, none⟩ (.int .i64 1)).cell? ⟨g, 0, none⟩ = some (.int .i64 2) := hs.c 0 _ rfl
      have y1 : ((w5.setCell ⟨g, 0, none⟩ (.int .i64 2)).setCell ⟨g, 1, none⟩ (.int .i64 1)).cell? ⟨g, 1, none⟩ = some (.int .i64 1) := hs.c 1 _ rfl
      (try simp only [Exit.inBlock, Exit.then])
      refine bodyPost_ret (by simp [results, Tryd.results24, go_sem, y0, y1]; try rfl) rfl ?_
      rw [HS.out, HO.out]
      exact ⟨gr, rfl, HGRL.out, HR5.out.other HGN.out [.int .i64 2, .int .i64 1], hB⟩
    · have bx0 : (x == 0) = false := by rw [beq_eq_false_iff_ne]; omega
      obtain ⟨SVX, hSVX⟩ : ∃ zz, zz = ([a] : List Int) := ⟨_, rfl⟩
      obtain ⟨OVX, hOVX⟩ : ∃ zz, zz = (edgeN a x : Int) := ⟨_, rfl⟩
      have HS := Lib.hid (show SVX = [a] by rw [hSVX])
      have HO := Lib.hid (show OVX = 0 by rw [hOVX]; exact by (try unfold edgeN); first | rfl | omega | ((repeat' split) <;> first | rfl | omega))
      rw [← hSVX, ← hOVX]
      clear hSVX hOVX
      clear ha hx
      go_enter Tryd.func24, Tryd.ntmps24
      go_upto_region 1 with fail
      rw [← hW1]
      try rw [← hg]
      clear hW1 hg
      obtain ⟨W4, gr, hW4, hgr, R4, B4, sz4⟩ := box1 W1 #[.int .i64 a] 2
      have HGRL := Lib.hid (show w.heap.size ≤ gr by have := HB1.out.size; omega)
      have HGN := Lib.hid (show g ≠ gr by have := HG1.out.lt; omega)
      have HR4 := Lib.hid R4
      have HG4 := Lib.hid (HG1.out.keep B4)
      have HB4 := Lib.hid (HB1.out.trans (B4.mono HB1.out.size))
      clear R4 B4 sz4
      go_wp2_with fail
      rw [← hW4]
      try rw [← hgr]
      clear hW4 hgr
      refine (rbinary_any 0 _).mono ?_
      rintro e w5 ⟨rfl, hb⟩
      have HR5 := Lib.hid (HR4.out.keep hb)
      have HG5 := Lib.hid (HG4.out.keep hb)
      have HB5 := Lib.hid (HB4.out.trans (hb.mono HB4.out.size))
      clear hb
      have g_0 := HG5.out.c 0 _ rfl
      have g_1 := HG5.out.c 1 _ rfl
      have g_z := HG5.out.fz
      go_wp2_with fail
      have hs := HG5.out.setRow [.int .i64 2, .int .i64 0] rfl
      have hB := set_below HB5.out HWG.out [.int .i64 2, .int .i64 0]
      have y0 : ((w5.setCell ⟨g, 0, none⟩ (.int .i64 2)).setCell ⟨g, 1, none⟩ (.int .i64 0)).cell? ⟨g, 0, none⟩ = some (.int .i64 2) := hs.c 0 _ rfl
      have y1 : ((w5.setCell ⟨g, 0, none⟩ (.int .i64 2)).setCell ⟨g, 1, none⟩ (.int .i64 0)).cell? ⟨g, 1, none⟩ = some (.int .i64 0) := hs.c 1 _ rfl
      (try simp only [Exit.inBlock, Exit.then])
      refine bodyPost_ret (by simp [results, Tryd.results24, go_sem, y0, y1]; try rfl) rfl ?_
      rw [HS.out, HO.out]
      exact ⟨gr, rfl, HGRL.out, HR5.out.other HGN.out [.int .i64 2, .int .i64 0], hB⟩
  · have ba1 : (a == 1) = false := by rw [beq_eq_false_iff_ne]; omega
    obtain ⟨SVX, hSVX⟩ : ∃ zz, zz = ([a] : List Int) := ⟨_, rfl⟩
    obtain ⟨OVX, hOVX⟩ : ∃ zz, zz = (edgeN a x : Int) := ⟨_, rfl⟩
    have HS := Lib.hid (show SVX = [a] by rw [hSVX])
    have HO := Lib.hid (show OVX = 0 by rw [hOVX]; exact by (try unfold edgeN); first | rfl | omega | ((repeat' split) <;> first | rfl | omega))
    rw [← hSVX, ← hOVX]
    clear hSVX hOVX
    clear ha
    go_enter Tryd.func24, Tryd.ntmps24
    go_upto_region 1 with fail
    rw [← hW1]
    try rw [← hg]
    clear hW1 hg
    obtain ⟨W4, gr, hW4, hgr, R4, B4, sz4⟩ := box1 W1 #[.int .i64 a] 2
    have HGRL := Lib.hid (show w.heap.size ≤ gr by have := HB1.out.size; omega)
    have HGN := Lib.hid (show g ≠ gr by have := HG1.out.lt; omega)
    have HR4 := Lib.hid R4
    have HG4 := Lib.hid (HG1.out.keep B4)
    have HB4 := Lib.hid (HB1.out.trans (B4.mono HB1.out.size))
    clear R4 B4 sz4
    go_wp2_with fail
    rw [← hW4]
    try rw [← hgr]
    clear hW4 hgr
    refine (rbinary_any 0 _).mono ?_
    rintro e w5 ⟨rfl, hb⟩
    have HR5 := Lib.hid (HR4.out.keep hb)
    have HG5 := Lib.hid (HG4.out.keep hb)
    have HB5 := Lib.hid (HB4.out.trans (hb.mono HB4.out.size))
    clear hb
    have g_0 := HG5.out.c 0 _ rfl
    have g_1 := HG5.out.c 1 _ rfl
    have g_z := HG5.out.fz
    go_wp2_with fail
    have hs := HG5.out.setRow [.int .i64 2, .int .i64 0] rfl
    have hB := set_below HB5.out HWG.out [.int .i64 2, .int .i64 0]
    have y0 : ((w5.setCell ⟨g, 0, none⟩ (.int .i64 2)).setCell ⟨g, 1, none⟩ (.int .i64 0)).cell? ⟨g, 0, none⟩ = some (.int .i64 2) := hs.c 0 _ rfl
    have y1 : ((w5.setCell ⟨g, 0, none⟩ (.int .i64 2)).setCell ⟨g, 1, none⟩ (.int .i64 0)).cell? ⟨g, 1, none⟩ = some (.int .i64 0) := hs.c 1 _ rfl
    (try simp only [Exit.inBlock, Exit.then])
    refine bodyPost_ret (by simp [results, Tryd.results24, go_sem, y0, y1]; try rfl) rfl ?_
    rw [HS.out, HO.out]
    exact ⟨gr, rfl, HGRL.out, HR5.out.other HGN.out [.int .i64 2, .int .i64 0], hB⟩
set_option maxHeartbeats 4000000 in
set_option maxRecDepth 100000 in
theorem rstep_hyst (pb po pc sb so sc vb vo vc : Nat) (p0 p1 x a dt : Int) (w : World) (hdt : 1 ≤ dt ∧ dt ≤ 86400)  (q0 : w.cell? ⟨pb, po, none⟩ = some (.int .i64 p0)) (q1 : w.cell? ⟨pb, po + 1, none⟩ = some (.int .i64 p1)) (s0 : w.cell? ⟨sb, so, none⟩ = some (.int .i64 x)) (n0 : w.cell? ⟨vb, vo + 1, none⟩ = some (.int .i64 a)) :
    Calls Tryd.prog 24 #[.string ⟨#[104, 121, 115, 116]⟩, .slice (some ⟨pb, po, none⟩) 2 pc, .slice (some ⟨sb, so, none⟩) 1 sc, .slice (some ⟨vb, vo, none⟩) 1 vc, .int .i64 dt] w fun e w' => ∃ gr, e = .returned (.tuple #[.slice (some ⟨gr, 0, none⟩) 1 1, .agg #[.int .i64 2, .int .i64 (hystN p1 p0 a x)]]) ∧ w.heap.size ≤ gr ∧ RowAt w' gr (flat iL [hystN p1 p0 a x]) ∧ Below w.heap.size w w' := by
  obtain ⟨W1, g, hW1, hg, RG, B1, sz1⟩ := box1 w #[.int .i64 0, .int .i64 0] 26
  have HG1 := Lib.hid RG
  have HB1 := Lib.hid B1
  have HWG := Lib.hid (show w.heap.size ≤ g by omega)
  have hsb : sb < w.heap.size := World.block_lt_of_cell? _ _ s0
  have hgw : g = w.heap.size := hg
  replace q0 := cellB q0 B1
  replace q1 := cellB q1 B1
  replace s0 := cellB s0 B1
  replace n0 := cellB n0 B1
  clear RG B1 sz1
  clear hsb hgw
  by_cases h1 : p0 < a
  · obtain ⟨SVX, hSVX⟩ : ∃ zz, zz = ([hystN p1 p0 a x] : List Int) := ⟨_, rfl⟩
    obtain ⟨OVX, hOVX⟩ : ∃ zz, zz = (hystN p1 p0 a x : Int) := ⟨_, rfl⟩
    have HS := Lib.hid (show SVX = [1] by rw [hSVX, show hystN p1 p0 a x = 1 from by (try unfold hystN); first | rfl | omega | ((repeat' split) <;> first | rfl | omega)])
    have HO := Lib.hid (show OVX = 1 by rw [hOVX]; exact by (try unfold hystN); first | rfl | omega | ((repeat' split) <;> first | rfl | omega))
    rw [← hSVX, ← hOVX]
    clear hSVX hOVX
    go_enter Tryd.func24, Tryd.ntmps24
    go_upto_region 1 with fail
    rw [← hW1]
    try rw [← hg]
    clear hW1 hg
    obtain ⟨W4, gr, hW4, hgr, R4, B4, sz4⟩ := box1 W1 #[.int .i64 1] 2
    have HGRL := Lib.hid (show w.heap.size ≤ gr by have := HB1.out.size; omega)
    have HGN := Lib.hid (show g ≠ gr by have := HG1.out.lt; omega)
    have HR4 := Lib.hid R4
    have HG4 := Lib.hid (HG1.out.keep B4)
    have HB4 := Lib.hid (HB1.out.trans (B4.mono HB1.out.size))
    clear R4 B4 sz4
    go_wp2_with fail
    rw [← hW4]
    try rw [← hgr]
    clear hW4 hgr
    refine (rbinary_any 1 _).mono ?_
    rintro e w5 ⟨rfl, hb⟩
    have HR5 := Lib.hid (HR4.out.keep hb)
    have HG5 := Lib.hid (HG4.out.keep hb)
    have HB5 := Lib.hid (HB4.out.trans (hb.mono HB4.out.size))
    clear hb
    have g_0 := HG5.out.c 0 _ rfl
    have g_1 := HG5.out.c 1 _ rfl
    have g_z := HG5.out.fz
    go_wp2_with fail
    have hs := HG5.out.setRow [.int .i64 2, .int .i64 1] rfl
    have hB := set_below HB5.out HWG.out [.int .i64 2, .int .i64 1]
    have y0 : ((w5.setCell ⟨g, 0, none⟩ (.int .i64 2)).setCell ⟨g, 1, none⟩ (.int .i64 1)).cell? ⟨g, 0, none⟩ = some (.int .i64 2) := hs.c 0 _ rfl
    have y1 : ((w5.setCell ⟨g, 0, none⟩ (.int .i64 2)).setCell ⟨g, 1, none⟩ (.int .i64 1)).cell? ⟨g, 1, none⟩ = some (.int .i64 1) := hs.c 1 _ rfl
    (try simp only [Exit.inBlock, Exit.then])
    refine bodyPost_ret (by simp [results, Tryd.results24, go_sem, y0, y1]; try rfl) rfl ?_
    rw [HS.out, HO.out]
    exact ⟨gr, rfl, HGRL.out, HR5.out.other HGN.out [.int .i64 2, .int .i64 1], hB⟩
  · by_cases h2 : a < p1
    · obtain ⟨SVX, hSVX⟩ : ∃ zz, zz = ([hystN p1 p0 a x] : List Int) := ⟨_, rfl⟩
      obtain ⟨OVX, hOVX⟩ : ∃ zz, zz = (hystN p1 p0 a x : Int) := ⟨_, rfl⟩
      have HS := Lib.hid (show SVX = [0] by rw [hSVX, show hystN p1 p0 a x = 0 from by (try unfold hystN); first | rfl | omega | ((repeat' split) <;> first | rfl | omega)])
      have HO := Lib.hid (show OVX = 0 by rw [hOVX]; exact by (try unfold hystN); first | rfl | omega | ((repeat' split) <;> first | rfl | omega))
      rw [← hSVX, ← hOVX]
      clear hSVX hOVX
      go_enter Tryd.func24, Tryd.ntmps24
      go_upto_region 1 with fail
      rw [← hW1]
      try rw [← hg]
      clear hW1 hg
      obtain ⟨W4, gr, hW4, hgr, R4, B4, sz4⟩ := box1 W1 #[.int .i64 0] 2
      have HGRL := Lib.hid (show w.heap.size ≤ gr by have := HB1.out.size; omega)
      have HGN := Lib.hid (show g ≠ gr by have := HG1.out.lt; omega)
      have HR4 := Lib.hid R4
      have HG4 := Lib.hid (HG1.out.keep B4)
      have HB4 := Lib.hid (HB1.out.trans (B4.mono HB1.out.size))
      clear R4 B4 sz4
      go_wp2_with fail
      rw [← hW4]
      try rw [← hgr]
      clear hW4 hgr
      refine (rbinary_any 0 _).mono ?_
      rintro e w5 ⟨rfl, hb⟩
      have HR5 := Lib.hid (HR4.out.keep hb)
      have HG5 := Lib.hid (HG4.out.keep hb)
      have HB5 := Lib.hid (HB4.out.trans (hb.mono HB4.out.size))
      clear hb
      have g_0 := HG5.out.c 0 _ rfl
      have g_1 := HG5.out.c 1 _ rfl
      have g_z := HG5.out.fz
      go_wp2_with fail
      have hs := HG5.out.setRow [.int .i64 2, .int .i64 0] rfl
      have hB := set_below HB5.out HWG.out [.int .i64 2, .int .i64 0]
      have y0 : ((w5.setCell ⟨g, 0, none⟩ (.int .i64 2)).setCell ⟨g, 1, none⟩ (.int .i64 0)).cell? ⟨g, 0, none⟩ = some (.int .i64 2) := hs.c 0 _ rfl
      have y1 : ((w5.setCell ⟨g, 0, none⟩ (.int .i64 2)).setCell ⟨g, 1, none⟩ (.int .i64 0)).cell? ⟨g, 1, none⟩ = some (.int .i64 0) := hs.c 1 _ rfl
      (try simp only [Exit.inBlock, Exit.then])
      refine bodyPost_ret (by simp [results, Tryd.results24, go_sem, y0, y1]; try rfl) rfl ?_
      rw [HS.out, HO.out]
      exact ⟨gr, rfl, HGRL.out, HR5.out.other HGN.out [.int .i64 2, .int .i64 0], hB⟩
    · obtain ⟨SVX, hSVX⟩ : ∃ zz, zz = ([hystN p1 p0 a x] : List Int) := ⟨_, rfl⟩
      obtain ⟨OVX, hOVX⟩ : ∃ zz, zz = (hystN p1 p0 a x : Int) := ⟨_, rfl⟩
      have HS := Lib.hid (show SVX = [x] by rw [hSVX, show hystN p1 p0 a x = x from by (try unfold hystN); first | rfl | omega | ((repeat' split) <;> first | rfl | omega)])
      have HO := Lib.hid (show OVX = x by rw [hOVX]; exact by (try unfold hystN); first | rfl | omega | ((repeat' split) <;> first | rfl | omega))
      rw [← hSVX, ← hOVX]
      clear hSVX hOVX
      go_enter Tryd.func24, Tryd.ntmps24
      go_upto_region 1 with fail
      rw [← hW1]
      try rw [← hg]
      clear hW1 hg
      obtain ⟨W4, gr, hW4, hgr, R4, B4, sz4⟩ := box1 W1 #[.int .i64 x] 2
      have HGRL := Lib.hid (show w.heap.size ≤ gr by have := HB1.out.size; omega)
      have HGN := Lib.hid (show g ≠ gr by have := HG1.out.lt; omega)
      have HR4 := Lib.hid R4
      have HG4 := Lib.hid (HG1.out.keep B4)
      have HB4 := Lib.hid (HB1.out.trans (B4.mono HB1.out.size))
      clear R4 B4 sz4
      go_wp2_with fail
      rw [← hW4]
      try rw [← hgr]
      clear hW4 hgr
      refine (rbinary_any x _).mono ?_
      rintro e w5 ⟨rfl, hb⟩
      have HR5 := Lib.hid (HR4.out.keep hb)
      have HG5 := Lib.hid (HG4.out.keep hb)
      have HB5 := Lib.hid (HB4.out.trans (hb.mono HB4.out.size))
      clear hb
      have g_0 := HG5.out.c 0 _ rfl
      have g_1 := HG5.out.c 1 _ rfl
      have g_z := HG5.out.fz
      go_wp2_with fail
      have hs := HG5.out.setRow [.int .i64 2, .int .i64 x] rfl
      have hB := set_below HB5.out HWG.out [.int .i64 2, .int .i64 x]
      have y0 : ((w5.setCell ⟨g, 0, none⟩ (.int .i64 2)).setCell ⟨g, 1, none⟩ (.int .i64 x)).cell? ⟨g, 0, none⟩ = some (.int .i64 2) := hs.c 0 _ rfl
      have y1 : ((w5.setCell ⟨g, 0, none⟩ (.int .i64 2)).setCell ⟨g, 1, none⟩ (.int .i64 x)).cell? ⟨g, 1, none⟩ = some (.int .i64 x) := hs.c 1 _ rfl
      (try simp only [Exit.inBlock, Exit.then])
      refine bodyPost_ret (by simp [results, Tryd.results24, go_sem, y0, y1]; try rfl) rfl ?_
      rw [HS.out, HO.out]
      exact ⟨gr, rfl, HGRL.out, HR5.out.other HGN.out [.int .i64 2, .int .i64 x], hB⟩
set_option maxHeartbeats 4000000 in
set_option maxRecDepth 100000 in
theorem rstep_latch (sb so sc vb vo vc : Nat) (vp : Value) (x a c dt : Int) (w : World) (hdt : 1 ≤ dt ∧ dt ≤ 86400)  (s0 : w.cell? ⟨sb, so, none⟩ = some (.int .i64 x)) (n0 : w.cell? ⟨vb, vo + 1, none⟩ = some (.int .i64 a)) (n1 : w.cell? ⟨vb, vo + 3, none⟩ = some (.int .i64 c)) :
    Calls Tryd.prog 24 #[.string ⟨#[108, 97, 116, 99, 104]⟩, vp, .slice (some ⟨sb, so, none⟩) 1 sc, .slice (some ⟨vb, vo, none⟩) 2 vc, .int .i64 dt] w fun e w' => ∃ gr, e = .returned (.tuple #[.slice (some ⟨gr, 0, none⟩) 1 1, .agg #[.int .i64 2, .int .i64 (latchN a c x)]]) ∧ w.heap.size ≤ gr ∧ RowAt w' gr (flat iL [latchN a c x]) ∧ Below w.heap.size w w' := by
  obtain ⟨W1, g, hW1, hg, RG, B1, sz1⟩ := box1 w #[.int .i64 0, .int .i64 0] 26
  have HG1 := Lib.hid RG
  have HB1 := Lib.hid B1
  have HWG := Lib.hid (show w.heap.size ≤ g by omega)
  have hsb : sb < w.heap.size := World.block_lt_of_cell? _ _ s0
  have hgw : g = w.heap.size := hg
  replace s0 := cellB s0 B1
  replace n0 := cellB n0 B1
  replace n1 := cellB n1 B1
  clear RG B1 sz1
  clear hsb hgw
  by_cases hc : c = 1
  · have bc1 : (c == 1) = true := by rw [beq_iff_eq]; omega
    obtain ⟨SVX, hSVX⟩ : ∃ zz, zz = ([latchN a c x] : List Int) := ⟨_, rfl⟩
    obtain ⟨OVX, hOVX⟩ : ∃ zz, zz = (latchN a c x : Int) := ⟨_, rfl⟩
    have HS := Lib.hid (show SVX = [0] by rw [hSVX, show latchN a c x = 0 from by (try unfold latchN); first | rfl | omega | ((repeat' split) <;> first | rfl | omega)])
    have HO := Lib.hid (show OVX = 0 by rw [hOVX]; exact by (try unfold latchN); first | rfl | omega | ((repeat' split) <;> first | rfl | omega))
    rw [← hSVX, ← hOVX]
    clear hSVX hOVX
    clear hc
    go_enter Tryd.func24, Tryd.ntmps24
    go_upto_region 1 with fail
    rw [← hW1]
    try rw [← hg]
    clear hW1 hg
    obtain ⟨W4, gr, hW4, hgr, R4, B4, sz4⟩ := box1 W1 #[.int .i64 0] 2
    have HGRL := Lib.hid (show w.heap.size ≤ gr by have := HB1.out.size; omega)
    have HGN := Lib.hid (show g ≠ gr by have := HG1.out.lt; omega)
    have HR4 := Lib.hid R4
    have HG4 := Lib.hid (HG1.out.keep B4)
    have HB4 := Lib.hid (HB1.out.trans (B4.mono HB1.out.size))
    clear R4 B4 sz4
    go_wp2_with fail
    rw [← hW4]
    try rw [← hgr]
    clear hW4 hgr
    refine (rbinary_any 0 _).mono ?_
    rintro e w5 ⟨rfl, hb⟩
    have HR5 := Lib.hid (HR4.out.keep hb)
    have HG5 := Lib.hid (HG4.out.keep hb)
    have HB5 := Lib.hid (HB4.out.trans (hb.mono HB4.out.size))
    clear hb
    have g_0 := HG5.out.c 0 _ rfl
    have g_1 := HG5.out.c 1 _ rfl
    have g_z := HG5.out.fz
    go_wp2_with fail
    have hs := HG5.out.setRow [.int .i64 2, .int .i64 0] rfl
    have hB := set_below HB5.out HWG.out [.int .i64 2, .int .i64 0]
    have y0 : ((w5.setCell ⟨g, 0, none⟩ (.int .i64 2)).setCell ⟨g, 1, none⟩ (.int .i64 0)).cell? ⟨g, 0, none⟩ = some (.int .i64 2) := hs.c 0 _ rfl
    have y1 : ((w5.setCell ⟨g, 0, none⟩ (.int .i64 2)).setCell ⟨g, 1, none⟩ (.int .i64 0)).cell? ⟨g, 1, none⟩ = some (.int .i64 0) := hs.c 1 _ rfl
    (try simp only [Exit.inBlock, Exit.then])
    refine bodyPost_ret (by simp [results, Tryd.results24, go_sem, y0, y1]; try rfl) rfl ?_
    rw [HS.out, HO.out]
    exact ⟨gr, rfl, HGRL.out, HR5.out.other HGN.out [.int .i64 2, .int .i64 0], hB⟩
  · have bc1 : (c == 1) = false := by rw [beq_eq_false_iff_ne]; omega
    by_cases ha : a = 1
    · have ba1 : (a == 1) = true := by rw [beq_iff_eq]; omega
      obtain ⟨SVX, hSVX⟩ : ∃ zz, zz = ([latchN a c x] : List Int) := ⟨_, rfl⟩
      obtain ⟨OVX, hOVX⟩ : ∃ zz, zz = (latchN a c x : Int) := ⟨_, rfl⟩
      have HS := Lib.hid (show SVX = [1] by rw [hSVX, show latchN a c x = 1 from by (try unfold latchN); first | rfl | omega | ((repeat' split) <;> first | rfl | omega)])
      have HO := Lib.hid (show OVX = 1 by rw [hOVX]; exact by (try unfold latchN); first | rfl | omega | ((repeat' split) <;> first | rfl | omega))
      rw [← hSVX, ← hOVX]
      clear hSVX hOVX
      clear ha hc
      go_enter Tryd.func24, Tryd.ntmps24
      go_upto_region 1 with fail
      rw [← hW1]
      try rw [← hg]
      clear hW1 hg
      obtain ⟨W4, gr, hW4, hgr, R4, B4, sz4⟩ := box1 W1 #[.int .i64 1] 2
      have HGRL := Lib.hid (show w.heap.size ≤ gr by have := HB1.out.size; omega)
      have HGN := Lib.hid (show g ≠ gr by have := HG1.out.lt; omega)
      have HR4 := Lib.hid R4
      have HG4 := Lib.hid (HG1.out.keep B4)
      have HB4 := Lib.hid (HB1.out.trans (B4.mono HB1.out.size))
      clear R4 B4 sz4
      go_wp2_with fail
      rw [← hW4]
      try rw [← hgr]
      clear hW4 hgr
      refine (rbinary_any 1 _).mono ?_
      rintro e w5 ⟨rfl, hb⟩
      have HR5 := Lib.hid (HR4.out.keep hb)
      have HG5 := Lib.hid (HG4.out.keep hb)
      have HB5 := Lib.hid (HB4.out.trans (hb.mono HB4.out.size))
      clear hb
      have g_0 := HG5.out.c 0 _ rfl
      have g_1 := HG5.out.c 1 _ rfl
      have g_z := HG5.out.fz
      go_wp2_with fail
      have hs := HG5.out.setRow [.int .i64 2, .int .i64 1] rfl
      have hB := set_below HB5.out HWG.out [.int .i64 2, .int .i64 1]
      have y0 : ((w5.setCell ⟨g, 0, none⟩ (.int .i64 2)).setCell ⟨g, 1, none⟩ (.int .i64 1)).cell? ⟨g, 0, none⟩ = some (.int .i64 2) := hs.c 0 _ rfl
      have y1 : ((w5.setCell ⟨g, 0, none⟩ (.int .i64 2)).setCell ⟨g, 1, none⟩ (.int .i64 1)).cell? ⟨g, 1, none⟩ = some (.int .i64 1) := hs.c 1 _ rfl
      (try simp only [Exit.inBlock, Exit.then])
      refine bodyPost_ret (by simp [results, Tryd.results24, go_sem, y0, y1]; try rfl) rfl ?_
      rw [HS.out, HO.out]
      exact ⟨gr, rfl, HGRL.out, HR5.out.other HGN.out [.int .i64 2, .int .i64 1], hB⟩
    · have ba1 : (a == 1) = false := by rw [beq_eq_false_iff_ne]; omega
      obtain ⟨SVX, hSVX⟩ : ∃ zz, zz = ([latchN a c x] : List Int) := ⟨_, rfl⟩
      obtain ⟨OVX, hOVX⟩ : ∃ zz, zz = (latchN a c x : Int) := ⟨_, rfl⟩
      have HS := Lib.hid (show SVX = [x] by rw [hSVX, show latchN a c x = x from by (try unfold latchN); first | rfl | omega | ((repeat' split) <;> first | rfl | omega)])
      have HO := Lib.hid (show OVX = x by rw [hOVX]; exact by (try unfold latchN); first | rfl | omega | ((repeat' split) <;> first | rfl | omega))
      rw [← hSVX, ← hOVX]
      clear hSVX hOVX
      clear ha hc
      go_enter Tryd.func24, Tryd.ntmps24
      go_upto_region 1 with fail
      rw [← hW1]
      try rw [← hg]
      clear hW1 hg
      obtain ⟨W4, gr, hW4, hgr, R4, B4, sz4⟩ := box1 W1 #[.int .i64 x] 2
      have HGRL := Lib.hid (show w.heap.size ≤ gr by have := HB1.out.size; omega)
      have HGN := Lib.hid (show g ≠ gr by have := HG1.out.lt; omega)
      have HR4 := Lib.hid R4
      have HG4 := Lib.hid (HG1.out.keep B4)
      have HB4 := Lib.hid (HB1.out.trans (B4.mono HB1.out.size))
      clear R4 B4 sz4
      go_wp2_with fail
      rw [← hW4]
      try rw [← hgr]
      clear hW4 hgr
      refine (rbinary_any x _).mono ?_
      rintro e w5 ⟨rfl, hb⟩
      have HR5 := Lib.hid (HR4.out.keep hb)
      have HG5 := Lib.hid (HG4.out.keep hb)
      have HB5 := Lib.hid (HB4.out.trans (hb.mono HB4.out.size))
      clear hb
      have g_0 := HG5.out.c 0 _ rfl
      have g_1 := HG5.out.c 1 _ rfl
      have g_z := HG5.out.fz
      go_wp2_with fail
      have hs := HG5.out.setRow [.int .i64 2, .int .i64 x] rfl
      have hB := set_below HB5.out HWG.out [.int .i64 2, .int .i64 x]
      have y0 : ((w5.setCell ⟨g, 0, none⟩ (.int .i64 2)).setCell ⟨g, 1, none⟩ (.int .i64 x)).cell? ⟨g, 0, none⟩ = some (.int .i64 2) := hs.c 0 _ rfl
      have y1 : ((w5.setCell ⟨g, 0, none⟩ (.int .i64 2)).setCell ⟨g, 1, none⟩ (.int .i64 x)).cell? ⟨g, 1, none⟩ = some (.int .i64 x) := hs.c 1 _ rfl
      (try simp only [Exit.inBlock, Exit.then])
      refine bodyPost_ret (by simp [results, Tryd.results24, go_sem, y0, y1]; try rfl) rfl ?_
      rw [HS.out, HO.out]
      exact ⟨gr, rfl, HGRL.out, HR5.out.other HGN.out [.int .i64 2, .int .i64 x], hB⟩
set_option maxHeartbeats 4000000 in
set_option maxRecDepth 100000 in
theorem rstep_minrun (pb po pc sb so sc vb vo vc : Nat) (p0 p1 x y a dt : Int) (w : World) (hdt : 1 ≤ dt ∧ dt ≤ 86400) (hr : (0 ≤ p0 ∧ p0 ≤ 86400) ∧ (0 ≤ p1 ∧ p1 ≤ 86400)) (hy : 0 ≤ y ∧ y ≤ leastN p0 p1 x) (q0 : w.cell? ⟨pb, po, none⟩ = some (.int .i64 p0)) (q1 : w.cell? ⟨pb, po + 1, none⟩ = some (.int .i64 p1)) (s0 : w.cell? ⟨sb, so, none⟩ = some (.int .i64 x)) (s1 : w.cell? ⟨sb, so + 1, none⟩ = some (.int .i64 y)) (n0 : w.cell? ⟨vb, vo + 1, none⟩ = some (.int .i64 a)) :
    Calls Tryd.prog 24 #[.string ⟨#[109, 105, 110, 114, 117, 110]⟩, .slice (some ⟨pb, po, none⟩) 2 pc, .slice (some ⟨sb, so, none⟩) 2 sc, .slice (some ⟨vb, vo, none⟩) 1 vc, .int .i64 dt] w fun e w' => ∃ gr, e = .returned (.tuple #[.slice (some ⟨gr, 0, none⟩) 2 2, .agg #[.int .i64 2, .int .i64 (mrS0 p0 p1 a x y dt)]]) ∧ w.heap.size ≤ gr ∧ RowAt w' gr (flat iL [mrS0 p0 p1 a x y dt, mrS1 p0 p1 a x y dt]) ∧ Below w.heap.size w w' := by
  obtain ⟨W1, g, hW1, hg, RG, B1, sz1⟩ := box1 w #[.int .i64 0, .int .i64 0] 26
  have HG1 := Lib.hid RG
  have HB1 := Lib.hid B1
  have HWG := Lib.hid (show w.heap.size ≤ g by omega)
  have hsb : sb < w.heap.size := World.block_lt_of_cell? _ _ s0
  have hgw : g = w.heap.size := hg
  replace q0 := cellB q0 B1
  replace q1 := cellB q1 B1
  replace s0 := cellB s0 B1
  replace s1 := cellB s1 B1
  replace n0 := cellB n0 B1
  clear RG B1 sz1
  have hyb : y ≤ 86400 := by
    have h : leastN p0 p1 x ≤ 86400 := by unfold leastN; split <;> omega
    omega
  have e1 : IntKind.i64.wrap (y - 1) = y - 1 := IntWalk.i64_in _ (by omega)
  have e2 : IntKind.i64.wrap (y - 1 + dt) = y - 1 + dt := IntWalk.i64_in _ (by omega)
  have e3 : IntKind.i64.wrap (y - 1 + dt + 1) = y - 1 + dt + 1 := IntWalk.i64_in _ (by omega)
  have KX := Lib.hid (rleast_any pb po pc p0 p1 x W1 q0 q1)
  have KA := Lib.hid (rleast_any pb po pc p0 p1 a W1 q0 q1)
  obtain ⟨SV0, hSV0⟩ : ∃ zz, zz = mrS0 p0 p1 a x y dt := ⟨_, rfl⟩
  obtain ⟨SV1, hSV1⟩ : ∃ zz, zz = mrS1 p0 p1 a x y dt := ⟨_, rfl⟩
  rw [← hSV0, ← hSV1]
  unfold mrS0 at hSV0
  unfold mrS1 lastsN at hSV1
  obtain ⟨LX, hLX⟩ : ∃ z, z = leastN p0 p1 x := ⟨_, rfl⟩
  obtain ⟨LA, hLA⟩ : ∃ z, z = leastN p0 p1 a := ⟨_, rfl⟩
  rw [← hLX] at hSV0 hSV1 KX hy
  rw [← hLA] at hSV1 KA
  have hl1 : 0 ≤ LX := by rw [hLX]; unfold leastN; split <;> omega
  have hl2 : 0 ≤ LA := by rw [hLA]; unfold leastN; split <;> omega
  have hsg : sb ≠ g := by omega
  clear hLX hLA hsb hgw
  by_cases h0 : 0 < y
  · by_cases h1 : y - 1 + dt < LX
    · by_cases hax : a = x
      · have bax : (a == x) = true := by rw [beq_iff_eq]; exact hax
        have HS0 := Lib.hid (show SV0 = x by rw [hSV0]; (repeat' split) <;> omega)
        have HS1 := Lib.hid (show SV1 = y - 1 + dt + 1 by rw [hSV1]; (repeat' split) <;> omega)
        clear hSV0 hSV1
        clear hax
        go_enter Tryd.func24, Tryd.ntmps24
        go_upto_region 1 with fail
        rw [← hW1]
        try rw [← hg]
        clear hW1 hg
        go_wp2_with fail
        refine KX.out.mono ?_
        rintro e w2 ⟨rfl, rfl⟩
        go_wp2_with fail
        refine wp_region_held_drew (S := fun w => w.cell? ⟨sb, so, none⟩ = some (.int .i64 x)) (by kernel_rfl) s0 (fun hHeld => ?_)
        have hdr : Below W1.heap.size W1 W1.drew := (Below.refl _ _).drew
        have HG9 := Lib.hid (HG1.out.keep hdr)
        have HB9 := Lib.hid (HB1.out.trans (hdr.mono HB1.out.size))
        have HGL9 := Lib.hid (show g < W1.drew.heap.size from HG9.out.lt)
        obtain ⟨W9, hW9⟩ : ∃ z, z = W1.drew := ⟨_, rfl⟩
        rw [← hW9] at HG9 HB9 HGL9 hHeld ⊢
        clear hW9 hdr
        refine' wpAnyH_take (i := 0) (v := _) rfl (by kernel_rfl) (by kernel_rfl) (by kernel_rfl) (fun _ _ _ h => h) (Or.inl ⟨by rfl, ?_⟩) hHeld ?_
        rotate_left
        · intro w hSw
          (try dsimp only at hSw)
          go_simp
          try with_reducible rfl
        (try simp only [Act.put, List.getElem_toArray, List.getElem_cons_zero, List.getElem_cons_succ, List.setIfInBounds_toArray, List.set_cons_zero, List.set_cons_succ])
        refine' wpAnyH_take (i := 1) (v := _) rfl (by kernel_rfl) (by kernel_rfl) (by kernel_rfl) (fun _ _ _ h => h) (Or.inl ⟨by rfl, ?_⟩) hHeld ?_
        rotate_left
        · intro w hSw
          (try dsimp only at hSw)
          go_simp
          try with_reducible rfl
        (try simp only [Act.put, List.getElem_toArray, List.getElem_cons_zero, List.getElem_cons_succ, List.setIfInBounds_toArray, List.set_cons_zero, List.set_cons_succ])
        refine' wpAnyH_take (i := 2) (v := _) rfl (by kernel_rfl) (by kernel_rfl) (by kernel_rfl) (fun _ _ _ h => h) (Or.inl ⟨by rfl, ?_⟩) hHeld ?_
        rotate_left
        · intro w hSw
          (try dsimp only at hSw)
          go_simp
          try with_reducible rfl
        (try simp only [Act.put, List.getElem_toArray, List.getElem_cons_zero, List.getElem_cons_succ, List.setIfInBounds_toArray, List.set_cons_zero, List.set_cons_succ])
        refine' wpAnyH_take (i := 3) (v := _) rfl (by kernel_rfl) (by kernel_rfl) (by kernel_rfl) (fun _ _ _ h => h) (Or.inl ⟨by rfl, ?_⟩) hHeld ?_
        rotate_left
        · intro w hSw
          (try dsimp only at hSw)
          go_simp
          try with_reducible rfl
        (try simp only [Act.put, List.getElem_toArray, List.getElem_cons_zero, List.getElem_cons_succ, List.setIfInBounds_toArray, List.set_cons_zero, List.set_cons_succ])
        refine' wpAnyH_take (i := 4) (v := _) rfl (by kernel_rfl) (by kernel_rfl) (by kernel_rfl) (fun _ _ _ h => h) (Or.inl ⟨by rfl, ?_⟩) hHeld ?_
        rotate_left
        · intro w hSw
          (try dsimp only at hSw)
          go_simp
          try with_reducible rfl
        (try simp only [Act.put, List.getElem_toArray, List.getElem_cons_zero, List.getElem_cons_succ, List.setIfInBounds_toArray, List.set_cons_zero, List.set_cons_succ])
        refine' wpAnyH_take (i := 6) (v := _) rfl (by kernel_rfl) (by kernel_rfl) (by kernel_rfl) (fun _ _ _ h => h) (Or.inl ⟨by rfl, ?_⟩) hHeld ?_
        rotate_left
        · intro w hSw
          (try dsimp only at hSw)
          go_simp
          try with_reducible rfl
        (try simp only [Act.put, List.getElem_toArray, List.getElem_cons_zero, List.getElem_cons_succ, List.setIfInBounds_toArray, List.set_cons_zero, List.set_cons_succ])
        refine' wpAnyH_take (i := 7) (v := _) rfl (by kernel_rfl) (by kernel_rfl) (by kernel_rfl) (fun _ _ _ h => h) (Or.inl ⟨by rfl, ?_⟩) hHeld ?_
        rotate_left
        · intro w hSw
          (try dsimp only at hSw)
          go_simp
          try with_reducible rfl
        (try simp only [Act.put, List.getElem_toArray, List.getElem_cons_zero, List.getElem_cons_succ, List.setIfInBounds_toArray, List.set_cons_zero, List.set_cons_succ])
        refine' wpAnyH_take (i := 8) (v := _) rfl (by kernel_rfl) (by kernel_rfl) (by kernel_rfl) (fun _ _ _ h => h) (Or.inl ⟨by rfl, ?_⟩) hHeld ?_
        rotate_left
        · intro w hSw
          (try dsimp only at hSw)
          go_simp
          try with_reducible rfl
        (try simp only [Act.put, List.getElem_toArray, List.getElem_cons_zero, List.getElem_cons_succ, List.setIfInBounds_toArray, List.set_cons_zero, List.set_cons_succ])
        refine wpAnyH_ready (rs := [5, 9]) (by kernel_rfl) (by simp) ?_
        refine AllReadyH.cons rfl (fun K hK => ?_) (AllReadyH.cons rfl (fun K hK => ?_) AllReadyH.nil)
        · go_simp
          have nal1 : Below W9.heap.size W9 (W9.alloc (Obj.cells #[.int .i64 x, .int .i64 (y - 1 + dt + 1)] 2)) := (Below.refl _ _).alloc (Nat.le_refl _) _
          have HSX : (W9.alloc (Obj.cells #[.int .i64 x, .int .i64 (y - 1 + dt + 1)] 2)).cell? ⟨sb, so, none⟩ = some (.int .i64 x) := cellB hHeld nal1
          have HG8 := Lib.hid (HG9.out.keep nal1)
          have HB8 := Lib.hid (HB9.out.trans (nal1.mono HB9.out.size))
          have HR8 := Lib.hid (row_fresh W9 #[.int .i64 x, .int .i64 (y - 1 + dt + 1)] 2)
          clear nal1
          clear hHeld
          refine hK.out _ _ HSX (fun hHeld => ?_)
          clear hK K HSX
          (try simp only [Act.put, List.getElem_toArray, List.getElem_cons_zero, List.getElem_cons_succ, List.setIfInBounds_toArray, List.set_cons_zero, List.set_cons_succ])
          refine wpAnyH_ready (rs := [9]) (by kernel_rfl) (by simp) ?_
          refine AllReadyH.cons rfl (fun K hK => ?_) AllReadyH.nil
          go_simp
          refine (rbinary_any x _).mono ?_
          rintro e w5 ⟨rfl, hb⟩
          have HSX := cellB hHeld hb
          have HR5 := Lib.hid (HR8.out.keep hb)
          have HG5 := Lib.hid (HG8.out.keep hb)
          have HB5 := Lib.hid (HB8.out.trans (hb.mono HB8.out.size))
          have HRL := Lib.hid (show g < W9.heap.size from HG9.out.lt)
          have HRW := Lib.hid (show w.heap.size ≤ W9.heap.size from HB9.out.size)
          clear hb
          (try go_simp)
          clear hHeld
          refine hK.out _ _ HSX (fun hHeld => ?_)
          clear hK K HSX
          (try simp only [Act.put, List.getElem_toArray, List.getElem_cons_zero, List.getElem_cons_succ, List.setIfInBounds_toArray, List.set_cons_zero, List.set_cons_succ])
          refine' wpAnyH_take (i := 10) (v := _) rfl (by kernel_rfl) (by kernel_rfl) (by kernel_rfl) (fun _ _ _ h => h) (Or.inl ⟨by rfl, ?_⟩) hHeld ?_
          rotate_left
          · intro w hSw
            (try dsimp only at hSw)
            go_simp
            try with_reducible rfl
          (try simp only [Act.put, List.getElem_toArray, List.getElem_cons_zero, List.getElem_cons_succ, List.setIfInBounds_toArray, List.set_cons_zero, List.set_cons_succ])
          have g_0 := HG5.out.c 0 _ rfl
          have hs0 := row_set HG5.out 0 (by simp) (.int .i64 2)
          have g_1 : (w5.setCell ⟨g, 0, none⟩ (.int .i64 2)).cell? ⟨g, 1, none⟩ = some (.int .i64 0) := hs0.c 1 _ rfl
          have g_1' := HG5.out.c 1 _ rfl
          have g_z := HG5.out.fz
          have gg : w5.grownBy ((w5.setCell ⟨g, 0, none⟩ (.int .i64 2)).setCell ⟨g, 1, none⟩ (.int .i64 x)) (some g) := grown_trans (grown_cell _ g 0 (.int .i64 2)) (grown_cell _ g 1 (.int .i64 x))
          have HSX : ((w5.setCell ⟨g, 0, none⟩ (.int .i64 2)).setCell ⟨g, 1, none⟩ (.int .i64 x)).cell? ⟨sb, so, none⟩ = some (.int .i64 x) := cell_grown hHeld gg (fun e => hsg (Option.some.inj e))
          clear gg
          refine wpAnyH_ready (rs := [11]) (by kernel_rfl) (by simp) ?_
          refine AllReadyH.cons rfl (fun K hK => ?_) AllReadyH.nil
          go_simp
          clear hHeld
          refine hK.out _ _ HSX (fun hHeld => ?_)
          clear hK K HSX
          (try simp only [Act.put, List.getElem_toArray, List.getElem_cons_zero, List.getElem_cons_succ, List.setIfInBounds_toArray, List.set_cons_zero, List.set_cons_succ])
          refine wpAnyH_done (by kernel_rfl) ?_ _
          (try simp only [Act.put, List.getElem_toArray, List.getElem_cons_zero, List.getElem_cons_succ, List.setIfInBounds_toArray, List.set_cons_zero, List.set_cons_succ])
          clear hHeld g_0 g_1 g_1' g_z hs0
          go_wp2_with fail
          have hs := HG5.out.setRow [.int .i64 2, .int .i64 x] rfl
          have hB := set_below HB5.out HWG.out [.int .i64 2, .int .i64 x]
          have y0 : ((w5.setCell ⟨g, 0, none⟩ (.int .i64 2)).setCell ⟨g, 1, none⟩ (.int .i64 x)).cell? ⟨g, 0, none⟩ = some (.int .i64 2) := hs.c 0 _ rfl
          have y1 : ((w5.setCell ⟨g, 0, none⟩ (.int .i64 2)).setCell ⟨g, 1, none⟩ (.int .i64 x)).cell? ⟨g, 1, none⟩ = some (.int .i64 x) := hs.c 1 _ rfl
          (try simp only [Exit.inBlock, Exit.then])
          refine bodyPost_ret (by simp [results, Tryd.results24, go_sem, y0, y1]; try rfl) rfl ?_
          rw [HS0.out, HS1.out]
          exact ⟨W9.heap.size, rfl, HRW.out, HR5.out.other (by have := HRL.out; omega) [.int .i64 2, .int .i64 x], hB⟩
        · go_simp
          refine (rbinary_any x _).mono ?_
          rintro e w5 ⟨rfl, hb⟩
          have HSX := cellB hHeld hb
          have HG8 := Lib.hid (HG9.out.keep hb)
          have HB8 := Lib.hid (HB9.out.trans (hb.mono HB9.out.size))
          clear hb
          (try go_simp)
          clear hHeld
          refine hK.out _ _ HSX (fun hHeld => ?_)
          clear hK K HSX
          (try simp only [Act.put, List.getElem_toArray, List.getElem_cons_zero, List.getElem_cons_succ, List.setIfInBounds_toArray, List.set_cons_zero, List.set_cons_succ])
          refine wpAnyH_ready (rs := [5]) (by kernel_rfl) (by simp) ?_
          refine AllReadyH.cons rfl (fun K hK => ?_) AllReadyH.nil
          go_simp
          have nal1 : Below w5.heap.size w5 (w5.alloc (Obj.cells #[.int .i64 x, .int .i64 (y - 1 + dt + 1)] 2)) := (Below.refl _ _).alloc (Nat.le_refl _) _
          have HSX : (w5.alloc (Obj.cells #[.int .i64 x, .int .i64 (y - 1 + dt + 1)] 2)).cell? ⟨sb, so, none⟩ = some (.int .i64 x) := cellB hHeld nal1
          have HG5 := Lib.hid (HG8.out.keep nal1)
          have HB5 := Lib.hid (HB8.out.trans (nal1.mono HB8.out.size))
          have HR5 := Lib.hid (row_fresh w5 #[.int .i64 x, .int .i64 (y - 1 + dt + 1)] 2)
          have HRL := Lib.hid (show g < w5.heap.size from HG8.out.lt)
          have HRW := Lib.hid (show w.heap.size ≤ w5.heap.size from HB8.out.size)
          clear nal1
          clear hHeld
          refine hK.out _ _ HSX (fun hHeld => ?_)
          clear hK K HSX
          (try simp only [Act.put, List.getElem_toArray, List.getElem_cons_zero, List.getElem_cons_succ, List.setIfInBounds_toArray, List.set_cons_zero, List.set_cons_succ])
          refine' wpAnyH_take (i := 10) (v := _) rfl (by kernel_rfl) (by kernel_rfl) (by kernel_rfl) (fun _ _ _ h => h) (Or.inl ⟨by rfl, ?_⟩) hHeld ?_
          rotate_left
          · intro w hSw
            (try dsimp only at hSw)
            go_simp
            try with_reducible rfl
          (try simp only [Act.put, List.getElem_toArray, List.getElem_cons_zero, List.getElem_cons_succ, List.setIfInBounds_toArray, List.set_cons_zero, List.set_cons_succ])
          have g_0 := HG5.out.c 0 _ rfl
          have hs0 := row_set HG5.out 0 (by simp) (.int .i64 2)
          have g_1 : ((w5.alloc (Obj.cells #[.int .i64 x, .int .i64 (y - 1 + dt + 1)] 2)).setCell ⟨g, 0, none⟩ (.int .i64 2)).cell? ⟨g, 1, none⟩ = some (.int .i64 0) := hs0.c 1 _ rfl
          have g_1' := HG5.out.c 1 _ rfl
          have g_z := HG5.out.fz
          have gg : (w5.alloc (Obj.cells #[.int .i64 x, .int .i64 (y - 1 + dt + 1)] 2)).grownBy (((w5.alloc (Obj.cells #[.int .i64 x, .int .i64 (y - 1 + dt + 1)] 2)).setCell ⟨g, 0, none⟩ (.int .i64 2)).setCell ⟨g, 1, none⟩ (.int .i64 x)) (some g) := grown_trans (grown_cell _ g 0 (.int .i64 2)) (grown_cell _ g 1 (.int .i64 x))
          have HSX : (((w5.alloc (Obj.cells #[.int .i64 x, .int .i64 (y - 1 + dt + 1)] 2)).setCell ⟨g, 0, none⟩ (.int .i64 2)).setCell ⟨g, 1, none⟩ (.int .i64 x)).cell? ⟨sb, so, none⟩ = some (.int .i64 x) := cell_grown hHeld gg (fun e => hsg (Option.some.inj e))
          clear gg
          refine wpAnyH_ready (rs := [11]) (by kernel_rfl) (by simp) ?_
          refine AllReadyH.cons rfl (fun K hK => ?_) AllReadyH.nil
          go_simp
          clear hHeld
          refine hK.out _ _ HSX (fun hHeld => ?_)
          clear hK K HSX
          (try simp only [Act.put, List.getElem_toArray, List.getElem_cons_zero, List.getElem_cons_succ, List.setIfInBounds_toArray, List.set_cons_zero, List.set_cons_succ])
          refine wpAnyH_done (by kernel_rfl) ?_ _
          (try simp only [Act.put, List.getElem_toArray, List.getElem_cons_zero, List.getElem_cons_succ, List.setIfInBounds_toArray, List.set_cons_zero, List.set_cons_succ])
          clear hHeld g_0 g_1 g_1' g_z hs0
          go_wp2_with fail
          have hs := HG5.out.setRow [.int .i64 2, .int .i64 x] rfl
          have hB := set_below HB5.out HWG.out [.int .i64 2, .int .i64 x]
          have y0 : (((w5.alloc (Obj.cells #[.int .i64 x, .int .i64 (y - 1 + dt + 1)] 2)).setCell ⟨g, 0, none⟩ (.int .i64 2)).setCell ⟨g, 1, none⟩ (.int .i64 x)).cell? ⟨g, 0, none⟩ = some (.int .i64 2) := hs.c 0 _ rfl
          have y1 : (((w5.alloc (Obj.cells #[.int .i64 x, .int .i64 (y - 1 + dt + 1)] 2)).setCell ⟨g, 0, none⟩ (.int .i64 2)).setCell ⟨g, 1, none⟩ (.int .i64 x)).cell? ⟨g, 1, none⟩ = some (.int .i64 x) := hs.c 1 _ rfl
          (try simp only [Exit.inBlock, Exit.then])
          refine bodyPost_ret (by simp [results, Tryd.results24, go_sem, y0, y1]; try rfl) rfl ?_
          rw [HS0.out, HS1.out]
          exact ⟨w5.heap.size, rfl, HRW.out, HR5.out.other (by have := HRL.out; omega) [.int .i64 2, .int .i64 x], hB⟩
      · have bax : (a == x) = false := by rw [beq_eq_false_iff_ne]; exact hax
        have HS0 := Lib.hid (show SV0 = x by rw [hSV0]; (repeat' split) <;> omega)
        have HS1 := Lib.hid (show SV1 = y - 1 + dt + 1 by rw [hSV1]; (repeat' split) <;> omega)
        clear hSV0 hSV1
        clear hax
        go_enter Tryd.func24, Tryd.ntmps24
        go_upto_region 1 with fail
        rw [← hW1]
        try rw [← hg]
        clear hW1 hg
        go_wp2_with fail
        refine KX.out.mono ?_
        rintro e w2 ⟨rfl, rfl⟩
        go_wp2_with fail
        refine wp_region_held_drew (S := fun w => w.cell? ⟨sb, so, none⟩ = some (.int .i64 x)) (by kernel_rfl) s0 (fun hHeld => ?_)
        have hdr : Below W1.heap.size W1 W1.drew := (Below.refl _ _).drew
        have HG9 := Lib.hid (HG1.out.keep hdr)
        have HB9 := Lib.hid (HB1.out.trans (hdr.mono HB1.out.size))
        have HGL9 := Lib.hid (show g < W1.drew.heap.size from HG9.out.lt)
        obtain ⟨W9, hW9⟩ : ∃ z, z = W1.drew := ⟨_, rfl⟩
        rw [← hW9] at HG9 HB9 HGL9 hHeld ⊢
        clear hW9 hdr
        refine' wpAnyH_take (i := 0) (v := _) rfl (by kernel_rfl) (by kernel_rfl) (by kernel_rfl) (fun _ _ _ h => h) (Or.inl ⟨by rfl, ?_⟩) hHeld ?_
        rotate_left
        · intro w hSw
          (try dsimp only at hSw)
          go_simp
          try with_reducible rfl
        (try simp only [Act.put, List.getElem_toArray, List.getElem_cons_zero, List.getElem_cons_succ, List.setIfInBounds_toArray, List.set_cons_zero, List.set_cons_succ])
        refine' wpAnyH_take (i := 1) (v := _) rfl (by kernel_rfl) (by kernel_rfl) (by kernel_rfl) (fun _ _ _ h => h) (Or.inl ⟨by rfl, ?_⟩) hHeld ?_
        rotate_left
        · intro w hSw
          (try dsimp only at hSw)
          go_simp
          try with_reducible rfl
        (try simp only [Act.put, List.getElem_toArray, List.getElem_cons_zero, List.getElem_cons_succ, List.setIfInBounds_toArray, List.set_cons_zero, List.set_cons_succ])
        refine' wpAnyH_take (i := 2) (v := _) rfl (by kernel_rfl) (by kernel_rfl) (by kernel_rfl) (fun _ _ _ h => h) (Or.inl ⟨by rfl, ?_⟩) hHeld ?_
        rotate_left
        · intro w hSw
          (try dsimp only at hSw)
          go_simp
          try with_reducible rfl
        (try simp only [Act.put, List.getElem_toArray, List.getElem_cons_zero, List.getElem_cons_succ, List.setIfInBounds_toArray, List.set_cons_zero, List.set_cons_succ])
        refine' wpAnyH_take (i := 3) (v := _) rfl (by kernel_rfl) (by kernel_rfl) (by kernel_rfl) (fun _ _ _ h => h) (Or.inl ⟨by rfl, ?_⟩) hHeld ?_
        rotate_left
        · intro w hSw
          (try dsimp only at hSw)
          go_simp
          try with_reducible rfl
        (try simp only [Act.put, List.getElem_toArray, List.getElem_cons_zero, List.getElem_cons_succ, List.setIfInBounds_toArray, List.set_cons_zero, List.set_cons_succ])
        refine' wpAnyH_take (i := 4) (v := _) rfl (by kernel_rfl) (by kernel_rfl) (by kernel_rfl) (fun _ _ _ h => h) (Or.inl ⟨by rfl, ?_⟩) hHeld ?_
        rotate_left
        · intro w hSw
          (try dsimp only at hSw)
          go_simp
          try with_reducible rfl
        (try simp only [Act.put, List.getElem_toArray, List.getElem_cons_zero, List.getElem_cons_succ, List.setIfInBounds_toArray, List.set_cons_zero, List.set_cons_succ])
        refine' wpAnyH_take (i := 6) (v := _) rfl (by kernel_rfl) (by kernel_rfl) (by kernel_rfl) (fun _ _ _ h => h) (Or.inl ⟨by rfl, ?_⟩) hHeld ?_
        rotate_left
        · intro w hSw
          (try dsimp only at hSw)
          go_simp
          try with_reducible rfl
        (try simp only [Act.put, List.getElem_toArray, List.getElem_cons_zero, List.getElem_cons_succ, List.setIfInBounds_toArray, List.set_cons_zero, List.set_cons_succ])
        refine' wpAnyH_take (i := 7) (v := _) rfl (by kernel_rfl) (by kernel_rfl) (by kernel_rfl) (fun _ _ _ h => h) (Or.inl ⟨by rfl, ?_⟩) hHeld ?_
        rotate_left
        · intro w hSw
          (try dsimp only at hSw)
          go_simp
          try with_reducible rfl
        (try simp only [Act.put, List.getElem_toArray, List.getElem_cons_zero, List.getElem_cons_succ, List.setIfInBounds_toArray, List.set_cons_zero, List.set_cons_succ])
        refine' wpAnyH_take (i := 8) (v := _) rfl (by kernel_rfl) (by kernel_rfl) (by kernel_rfl) (fun _ _ _ h => h) (Or.inl ⟨by rfl, ?_⟩) hHeld ?_
        rotate_left
        · intro w hSw
          (try dsimp only at hSw)
          go_simp
          try with_reducible rfl
        (try simp only [Act.put, List.getElem_toArray, List.getElem_cons_zero, List.getElem_cons_succ, List.setIfInBounds_toArray, List.set_cons_zero, List.set_cons_succ])
        refine wpAnyH_ready (rs := [5, 9]) (by kernel_rfl) (by simp) ?_
        refine AllReadyH.cons rfl (fun K hK => ?_) (AllReadyH.cons rfl (fun K hK => ?_) AllReadyH.nil)
        · go_simp
          have nal1 : Below W9.heap.size W9 (W9.alloc (Obj.cells #[.int .i64 x, .int .i64 (y - 1 + dt + 1)] 2)) := (Below.refl _ _).alloc (Nat.le_refl _) _
          have HSX : (W9.alloc (Obj.cells #[.int .i64 x, .int .i64 (y - 1 + dt + 1)] 2)).cell? ⟨sb, so, none⟩ = some (.int .i64 x) := cellB hHeld nal1
          have HG8 := Lib.hid (HG9.out.keep nal1)
          have HB8 := Lib.hid (HB9.out.trans (nal1.mono HB9.out.size))
          have HR8 := Lib.hid (row_fresh W9 #[.int .i64 x, .int .i64 (y - 1 + dt + 1)] 2)
          clear nal1
          clear hHeld
          refine hK.out _ _ HSX (fun hHeld => ?_)
          clear hK K HSX
          (try simp only [Act.put, List.getElem_toArray, List.getElem_cons_zero, List.getElem_cons_succ, List.setIfInBounds_toArray, List.set_cons_zero, List.set_cons_succ])
          refine wpAnyH_ready (rs := [9]) (by kernel_rfl) (by simp) ?_
          refine AllReadyH.cons rfl (fun K hK => ?_) AllReadyH.nil
          go_simp
          refine (rbinary_any x _).mono ?_
          rintro e w5 ⟨rfl, hb⟩
          have HSX := cellB hHeld hb
          have HR5 := Lib.hid (HR8.out.keep hb)
          have HG5 := Lib.hid (HG8.out.keep hb)
          have HB5 := Lib.hid (HB8.out.trans (hb.mono HB8.out.size))
          have HRL := Lib.hid (show g < W9.heap.size from HG9.out.lt)
          have HRW := Lib.hid (show w.heap.size ≤ W9.heap.size from HB9.out.size)
          clear hb
          (try go_simp)
          clear hHeld
          refine hK.out _ _ HSX (fun hHeld => ?_)
          clear hK K HSX
          (try simp only [Act.put, List.getElem_toArray, List.getElem_cons_zero, List.getElem_cons_succ, List.setIfInBounds_toArray, List.set_cons_zero, List.set_cons_succ])
          refine' wpAnyH_take (i := 10) (v := _) rfl (by kernel_rfl) (by kernel_rfl) (by kernel_rfl) (fun _ _ _ h => h) (Or.inl ⟨by rfl, ?_⟩) hHeld ?_
          rotate_left
          · intro w hSw
            (try dsimp only at hSw)
            go_simp
            try with_reducible rfl
          (try simp only [Act.put, List.getElem_toArray, List.getElem_cons_zero, List.getElem_cons_succ, List.setIfInBounds_toArray, List.set_cons_zero, List.set_cons_succ])
          have g_0 := HG5.out.c 0 _ rfl
          have hs0 := row_set HG5.out 0 (by simp) (.int .i64 2)
          have g_1 : (w5.setCell ⟨g, 0, none⟩ (.int .i64 2)).cell? ⟨g, 1, none⟩ = some (.int .i64 0) := hs0.c 1 _ rfl
          have g_1' := HG5.out.c 1 _ rfl
          have g_z := HG5.out.fz
          have gg : w5.grownBy ((w5.setCell ⟨g, 0, none⟩ (.int .i64 2)).setCell ⟨g, 1, none⟩ (.int .i64 x)) (some g) := grown_trans (grown_cell _ g 0 (.int .i64 2)) (grown_cell _ g 1 (.int .i64 x))
          have HSX : ((w5.setCell ⟨g, 0, none⟩ (.int .i64 2)).setCell ⟨g, 1, none⟩ (.int .i64 x)).cell? ⟨sb, so, none⟩ = some (.int .i64 x) := cell_grown hHeld gg (fun e => hsg (Option.some.inj e))
          clear gg
          refine wpAnyH_ready (rs := [11]) (by kernel_rfl) (by simp) ?_
          refine AllReadyH.cons rfl (fun K hK => ?_) AllReadyH.nil
          go_simp
          clear hHeld
          refine hK.out _ _ HSX (fun hHeld => ?_)
          clear hK K HSX
          (try simp only [Act.put, List.getElem_toArray, List.getElem_cons_zero, List.getElem_cons_succ, List.setIfInBounds_toArray, List.set_cons_zero, List.set_cons_succ])
          refine wpAnyH_done (by kernel_rfl) ?_ _
          (try simp only [Act.put, List.getElem_toArray, List.getElem_cons_zero, List.getElem_cons_succ, List.setIfInBounds_toArray, List.set_cons_zero, List.set_cons_succ])
          clear hHeld g_0 g_1 g_1' g_z hs0
          go_wp2_with fail
          have hs := HG5.out.setRow [.int .i64 2, .int .i64 x] rfl
          have hB := set_below HB5.out HWG.out [.int .i64 2, .int .i64 x]
          have y0 : ((w5.setCell ⟨g, 0, none⟩ (.int .i64 2)).setCell ⟨g, 1, none⟩ (.int .i64 x)).cell? ⟨g, 0, none⟩ = some (.int .i64 2) := hs.c 0 _ rfl
          have y1 : ((w5.setCell ⟨g, 0, none⟩ (.int .i64 2)).setCell ⟨g, 1, none⟩ (.int .i64 x)).cell? ⟨g, 1, none⟩ = some (.int .i64 x) := hs.c 1 _ rfl
          (try simp only [Exit.inBlock, Exit.then])
          refine bodyPost_ret (by simp [results, Tryd.results24, go_sem, y0, y1]; try rfl) rfl ?_
          rw [HS0.out, HS1.out]
          exact ⟨W9.heap.size, rfl, HRW.out, HR5.out.other (by have := HRL.out; omega) [.int .i64 2, .int .i64 x], hB⟩
        · go_simp
          refine (rbinary_any x _).mono ?_
          rintro e w5 ⟨rfl, hb⟩
          have HSX := cellB hHeld hb
          have HG8 := Lib.hid (HG9.out.keep hb)
          have HB8 := Lib.hid (HB9.out.trans (hb.mono HB9.out.size))
          clear hb
          (try go_simp)
          clear hHeld
          refine hK.out _ _ HSX (fun hHeld => ?_)
          clear hK K HSX
          (try simp only [Act.put, List.getElem_toArray, List.getElem_cons_zero, List.getElem_cons_succ, List.setIfInBounds_toArray, List.set_cons_zero, List.set_cons_succ])
          refine wpAnyH_ready (rs := [5]) (by kernel_rfl) (by simp) ?_
          refine AllReadyH.cons rfl (fun K hK => ?_) AllReadyH.nil
          go_simp
          have nal1 : Below w5.heap.size w5 (w5.alloc (Obj.cells #[.int .i64 x, .int .i64 (y - 1 + dt + 1)] 2)) := (Below.refl _ _).alloc (Nat.le_refl _) _
          have HSX : (w5.alloc (Obj.cells #[.int .i64 x, .int .i64 (y - 1 + dt + 1)] 2)).cell? ⟨sb, so, none⟩ = some (.int .i64 x) := cellB hHeld nal1
          have HG5 := Lib.hid (HG8.out.keep nal1)
          have HB5 := Lib.hid (HB8.out.trans (nal1.mono HB8.out.size))
          have HR5 := Lib.hid (row_fresh w5 #[.int .i64 x, .int .i64 (y - 1 + dt + 1)] 2)
          have HRL := Lib.hid (show g < w5.heap.size from HG8.out.lt)
          have HRW := Lib.hid (show w.heap.size ≤ w5.heap.size from HB8.out.size)
          clear nal1
          clear hHeld
          refine hK.out _ _ HSX (fun hHeld => ?_)
          clear hK K HSX
          (try simp only [Act.put, List.getElem_toArray, List.getElem_cons_zero, List.getElem_cons_succ, List.setIfInBounds_toArray, List.set_cons_zero, List.set_cons_succ])
          refine' wpAnyH_take (i := 10) (v := _) rfl (by kernel_rfl) (by kernel_rfl) (by kernel_rfl) (fun _ _ _ h => h) (Or.inl ⟨by rfl, ?_⟩) hHeld ?_
          rotate_left
          · intro w hSw
            (try dsimp only at hSw)
            go_simp
            try with_reducible rfl
          (try simp only [Act.put, List.getElem_toArray, List.getElem_cons_zero, List.getElem_cons_succ, List.setIfInBounds_toArray, List.set_cons_zero, List.set_cons_succ])
          have g_0 := HG5.out.c 0 _ rfl
          have hs0 := row_set HG5.out 0 (by simp) (.int .i64 2)
          have g_1 : ((w5.alloc (Obj.cells #[.int .i64 x, .int .i64 (y - 1 + dt + 1)] 2)).setCell ⟨g, 0, none⟩ (.int .i64 2)).cell? ⟨g, 1, none⟩ = some (.int .i64 0) := hs0.c 1 _ rfl
          have g_1' := HG5.out.c 1 _ rfl
          have g_z := HG5.out.fz
          have gg : (w5.alloc (Obj.cells #[.int .i64 x, .int .i64 (y - 1 + dt + 1)] 2)).grownBy (((w5.alloc (Obj.cells #[.int .i64 x, .int .i64 (y - 1 + dt + 1)] 2)).setCell ⟨g, 0, none⟩ (.int .i64 2)).setCell ⟨g, 1, none⟩ (.int .i64 x)) (some g) := grown_trans (grown_cell _ g 0 (.int .i64 2)) (grown_cell _ g 1 (.int .i64 x))
          have HSX : (((w5.alloc (Obj.cells #[.int .i64 x, .int .i64 (y - 1 + dt + 1)] 2)).setCell ⟨g, 0, none⟩ (.int .i64 2)).setCell ⟨g, 1, none⟩ (.int .i64 x)).cell? ⟨sb, so, none⟩ = some (.int .i64 x) := cell_grown hHeld gg (fun e => hsg (Option.some.inj e))
          clear gg
          refine wpAnyH_ready (rs := [11]) (by kernel_rfl) (by simp) ?_
          refine AllReadyH.cons rfl (fun K hK => ?_) AllReadyH.nil
          go_simp
          clear hHeld
          refine hK.out _ _ HSX (fun hHeld => ?_)
          clear hK K HSX
          (try simp only [Act.put, List.getElem_toArray, List.getElem_cons_zero, List.getElem_cons_succ, List.setIfInBounds_toArray, List.set_cons_zero, List.set_cons_succ])
          refine wpAnyH_done (by kernel_rfl) ?_ _
          (try simp only [Act.put, List.getElem_toArray, List.getElem_cons_zero, List.getElem_cons_succ, List.setIfInBounds_toArray, List.set_cons_zero, List.set_cons_succ])
          clear hHeld g_0 g_1 g_1' g_z hs0
          go_wp2_with fail
          have hs := HG5.out.setRow [.int .i64 2, .int .i64 x] rfl
          have hB := set_below HB5.out HWG.out [.int .i64 2, .int .i64 x]
          have y0 : (((w5.alloc (Obj.cells #[.int .i64 x, .int .i64 (y - 1 + dt + 1)] 2)).setCell ⟨g, 0, none⟩ (.int .i64 2)).setCell ⟨g, 1, none⟩ (.int .i64 x)).cell? ⟨g, 0, none⟩ = some (.int .i64 2) := hs.c 0 _ rfl
          have y1 : (((w5.alloc (Obj.cells #[.int .i64 x, .int .i64 (y - 1 + dt + 1)] 2)).setCell ⟨g, 0, none⟩ (.int .i64 2)).setCell ⟨g, 1, none⟩ (.int .i64 x)).cell? ⟨g, 1, none⟩ = some (.int .i64 x) := hs.c 1 _ rfl
          (try simp only [Exit.inBlock, Exit.then])
          refine bodyPost_ret (by simp [results, Tryd.results24, go_sem, y0, y1]; try rfl) rfl ?_
          rw [HS0.out, HS1.out]
          exact ⟨w5.heap.size, rfl, HRW.out, HR5.out.other (by have := HRL.out; omega) [.int .i64 2, .int .i64 x], hB⟩
    · by_cases hax : a = x
      · have bax : (a == x) = true := by rw [beq_iff_eq]; exact hax
        have HS0 := Lib.hid (show SV0 = x by rw [hSV0]; (repeat' split) <;> omega)
        have HS1 := Lib.hid (show SV1 = 0 by rw [hSV1]; (repeat' split) <;> omega)
        clear hSV0 hSV1
        clear hax
        go_enter Tryd.func24, Tryd.ntmps24
        go_upto_region 1 with fail
        rw [← hW1]
        try rw [← hg]
        clear hW1 hg
        go_wp2_with fail
        refine KX.out.mono ?_
        rintro e w2 ⟨rfl, rfl⟩
        go_wp2_with fail
        refine wp_region_held_drew (S := fun w => w.cell? ⟨sb, so, none⟩ = some (.int .i64 x)) (by kernel_rfl) s0 (fun hHeld => ?_)
        have hdr : Below W1.heap.size W1 W1.drew := (Below.refl _ _).drew
        have HG9 := Lib.hid (HG1.out.keep hdr)
        have HB9 := Lib.hid (HB1.out.trans (hdr.mono HB1.out.size))
        have HGL9 := Lib.hid (show g < W1.drew.heap.size from HG9.out.lt)
        obtain ⟨W9, hW9⟩ : ∃ z, z = W1.drew := ⟨_, rfl⟩
        rw [← hW9] at HG9 HB9 HGL9 hHeld ⊢
        clear hW9 hdr
        refine' wpAnyH_take (i := 0) (v := _) rfl (by kernel_rfl) (by kernel_rfl) (by kernel_rfl) (fun _ _ _ h => h) (Or.inl ⟨by rfl, ?_⟩) hHeld ?_
        rotate_left
        · intro w hSw
          (try dsimp only at hSw)
          go_simp
          try with_reducible rfl
        (try simp only [Act.put, List.getElem_toArray, List.getElem_cons_zero, List.getElem_cons_succ, List.setIfInBounds_toArray, List.set_cons_zero, List.set_cons_succ])
        refine' wpAnyH_take (i := 1) (v := _) rfl (by kernel_rfl) (by kernel_rfl) (by kernel_rfl) (fun _ _ _ h => h) (Or.inl ⟨by rfl, ?_⟩) hHeld ?_
        rotate_left
        · intro w hSw
          (try dsimp only at hSw)
          go_simp
          try with_reducible rfl
        (try simp only [Act.put, List.getElem_toArray, List.getElem_cons_zero, List.getElem_cons_succ, List.setIfInBounds_toArray, List.set_cons_zero, List.set_cons_succ])
        refine' wpAnyH_take (i := 2) (v := _) rfl (by kernel_rfl) (by kernel_rfl) (by kernel_rfl) (fun _ _ _ h => h) (Or.inl ⟨by rfl, ?_⟩) hHeld ?_
        rotate_left
        · intro w hSw
          (try dsimp only at hSw)
          go_simp
          try with_reducible rfl
        (try simp only [Act.put, List.getElem_toArray, List.getElem_cons_zero, List.getElem_cons_succ, List.setIfInBounds_toArray, List.set_cons_zero, List.set_cons_succ])
        refine' wpAnyH_take (i := 4) (v := _) rfl (by kernel_rfl) (by kernel_rfl) (by kernel_rfl) (fun _ _ _ h => h) (Or.inl ⟨by rfl, ?_⟩) hHeld ?_
        rotate_left
        · intro w hSw
          (try dsimp only at hSw)
          go_simp
          try with_reducible rfl
        (try simp only [Act.put, List.getElem_toArray, List.getElem_cons_zero, List.getElem_cons_succ, List.setIfInBounds_toArray, List.set_cons_zero, List.set_cons_succ])
        refine' wpAnyH_take (i := 5) (v := _) rfl (by kernel_rfl) (by kernel_rfl) (by kernel_rfl) (fun _ _ _ h => h) (Or.inl ⟨by rfl, ?_⟩) hHeld ?_
        rotate_left
        · intro w hSw
          (try dsimp only at hSw)
          go_simp
          try with_reducible rfl
        (try simp only [Act.put, List.getElem_toArray, List.getElem_cons_zero, List.getElem_cons_succ, List.setIfInBounds_toArray, List.set_cons_zero, List.set_cons_succ])
        refine' wpAnyH_take (i := 6) (v := _) rfl (by kernel_rfl) (by kernel_rfl) (by kernel_rfl) (fun _ _ _ h => h) (Or.inl ⟨by rfl, ?_⟩) hHeld ?_
        rotate_left
        · intro w hSw
          (try dsimp only at hSw)
          go_simp
          try with_reducible rfl
        (try simp only [Act.put, List.getElem_toArray, List.getElem_cons_zero, List.getElem_cons_succ, List.setIfInBounds_toArray, List.set_cons_zero, List.set_cons_succ])
        refine wpAnyH_ready (rs := [3, 7]) (by kernel_rfl) (by simp) ?_
        refine AllReadyH.cons rfl (fun K hK => ?_) (AllReadyH.cons rfl (fun K hK => ?_) AllReadyH.nil)
        · go_simp
          have nal1 : Below W9.heap.size W9 (W9.alloc (Obj.cells #[.int .i64 x, .int .i64 0] 2)) := (Below.refl _ _).alloc (Nat.le_refl _) _
          have HSX : (W9.alloc (Obj.cells #[.int .i64 x, .int .i64 0] 2)).cell? ⟨sb, so, none⟩ = some (.int .i64 x) := cellB hHeld nal1
          have HG8 := Lib.hid (HG9.out.keep nal1)
          have HB8 := Lib.hid (HB9.out.trans (nal1.mono HB9.out.size))
          have HR8 := Lib.hid (row_fresh W9 #[.int .i64 x, .int .i64 0] 2)
          clear nal1
          clear hHeld
          refine hK.out _ _ HSX (fun hHeld => ?_)
          clear hK K HSX
          (try simp only [Act.put, List.getElem_toArray, List.getElem_cons_zero, List.getElem_cons_succ, List.setIfInBounds_toArray, List.set_cons_zero, List.set_cons_succ])
          refine wpAnyH_ready (rs := [7]) (by kernel_rfl) (by simp) ?_
          refine AllReadyH.cons rfl (fun K hK => ?_) AllReadyH.nil
          go_simp
          refine (rbinary_any x _).mono ?_
          rintro e w5 ⟨rfl, hb⟩
          have HSX := cellB hHeld hb
          have HR5 := Lib.hid (HR8.out.keep hb)
          have HG5 := Lib.hid (HG8.out.keep hb)
          have HB5 := Lib.hid (HB8.out.trans (hb.mono HB8.out.size))
          have HRL := Lib.hid (show g < W9.heap.size from HG9.out.lt)
          have HRW := Lib.hid (show w.heap.size ≤ W9.heap.size from HB9.out.size)
          clear hb
          (try go_simp)
          clear hHeld
          refine hK.out _ _ HSX (fun hHeld => ?_)
          clear hK K HSX
          (try simp only [Act.put, List.getElem_toArray, List.getElem_cons_zero, List.getElem_cons_succ, List.setIfInBounds_toArray, List.set_cons_zero, List.set_cons_succ])
          refine' wpAnyH_take (i := 8) (v := _) rfl (by kernel_rfl) (by kernel_rfl) (by kernel_rfl) (fun _ _ _ h => h) (Or.inl ⟨by rfl, ?_⟩) hHeld ?_
          rotate_left
          · intro w hSw
            (try dsimp only at hSw)
            go_simp
            try with_reducible rfl
          (try simp only [Act.put, List.getElem_toArray, List.getElem_cons_zero, List.getElem_cons_succ, List.setIfInBounds_toArray, List.set_cons_zero, List.set_cons_succ])
          have g_0 := HG5.out.c 0 _ rfl
          have hs0 := row_set HG5.out 0 (by simp) (.int .i64 2)
          have g_1 : (w5.setCell ⟨g, 0, none⟩ (.int .i64 2)).cell? ⟨g, 1, none⟩ = some (.int .i64 0) := hs0.c 1 _ rfl
          have g_1' := HG5.out.c 1 _ rfl
          have g_z := HG5.out.fz
          have gg : w5.grownBy ((w5.setCell ⟨g, 0, none⟩ (.int .i64 2)).setCell ⟨g, 1, none⟩ (.int .i64 x)) (some g) := grown_trans (grown_cell _ g 0 (.int .i64 2)) (grown_cell _ g 1 (.int .i64 x))
          have HSX : ((w5.setCell ⟨g, 0, none⟩ (.int .i64 2)).setCell ⟨g, 1, none⟩ (.int .i64 x)).cell? ⟨sb, so, none⟩ = some (.int .i64 x) := cell_grown hHeld gg (fun e => hsg (Option.some.inj e))
          clear gg
          refine wpAnyH_ready (rs := [9]) (by kernel_rfl) (by simp) ?_
          refine AllReadyH.cons rfl (fun K hK => ?_) AllReadyH.nil
          go_simp
          clear hHeld
          refine hK.out _ _ HSX (fun hHeld => ?_)
          clear hK K HSX
          (try simp only [Act.put, List.getElem_toArray, List.getElem_cons_zero, List.getElem_cons_succ, List.setIfInBounds_toArray, List.set_cons_zero, List.set_cons_succ])
          refine wpAnyH_done (by kernel_rfl) ?_ _
          (try simp only [Act.put, List.getElem_toArray, List.getElem_cons_zero, List.getElem_cons_succ, List.setIfInBounds_toArray, List.set_cons_zero, List.set_cons_succ])
          clear hHeld g_0 g_1 g_1' g_z hs0
          go_wp2_with fail
          have hs := HG5.out.setRow [.int .i64 2, .int .i64 x] rfl
          have hB := set_below HB5.out HWG.out [.int .i64 2, .int .i64 x]
          have y0 : ((w5.setCell ⟨g, 0, none⟩ (.int .i64 2)).setCell ⟨g, 1, none⟩ (.int .i64 x)).cell? ⟨g, 0, none⟩ = some (.int .i64 2) := hs.c 0 _ rfl
          have y1 : ((w5.setCell ⟨g, 0, none⟩ (.int .i64 2)).setCell ⟨g, 1, none⟩ (.int .i64 x)).cell? ⟨g, 1, none⟩ = some (.int .i64 x) := hs.c 1 _ rfl
          (try simp only [Exit.inBlock, Exit.then])
          refine bodyPost_ret (by simp [results, Tryd.results24, go_sem, y0, y1]; try rfl) rfl ?_
          rw [HS0.out, HS1.out]
          exact ⟨W9.heap.size, rfl, HRW.out, HR5.out.other (by have := HRL.out; omega) [.int .i64 2, .int .i64 x], hB⟩
        · go_simp
          refine (rbinary_any x _).mono ?_
          rintro e w5 ⟨rfl, hb⟩
          have HSX := cellB hHeld hb
          have HG8 := Lib.hid (HG9.out.keep hb)
          have HB8 := Lib.hid (HB9.out.trans (hb.mono HB9.out.size))
          clear hb
          (try go_simp)
          clear hHeld
          refine hK.out _ _ HSX (fun hHeld => ?_)
          clear hK K HSX
          (try simp only [Act.put, List.getElem_toArray, List.getElem_cons_zero, List.getElem_cons_succ, List.setIfInBounds_toArray, List.set_cons_zero, List.set_cons_succ])
          refine wpAnyH_ready (rs := [3]) (by kernel_rfl) (by simp) ?_
          refine AllReadyH.cons rfl (fun K hK => ?_) AllReadyH.nil
          go_simp
          have nal1 : Below w5.heap.size w5 (w5.alloc (Obj.cells #[.int .i64 x, .int .i64 0] 2)) := (Below.refl _ _).alloc (Nat.le_refl _) _
          have HSX : (w5.alloc (Obj.cells #[.int .i64 x, .int .i64 0] 2)).cell? ⟨sb, so, none⟩ = some (.int .i64 x) := cellB hHeld nal1
          have HG5 := Lib.hid (HG8.out.keep nal1)
          have HB5 := Lib.hid (HB8.out.trans (nal1.mono HB8.out.size))
          have HR5 := Lib.hid (row_fresh w5 #[.int .i64 x, .int .i64 0] 2)
          have HRL := Lib.hid (show g < w5.heap.size from HG8.out.lt)
          have HRW := Lib.hid (show w.heap.size ≤ w5.heap.size from HB8.out.size)
          clear nal1
          clear hHeld
          refine hK.out _ _ HSX (fun hHeld => ?_)
          clear hK K HSX
          (try simp only [Act.put, List.getElem_toArray, List.getElem_cons_zero, List.getElem_cons_succ, List.setIfInBounds_toArray, List.set_cons_zero, List.set_cons_succ])
          refine' wpAnyH_take (i := 8) (v := _) rfl (by kernel_rfl) (by kernel_rfl) (by kernel_rfl) (fun _ _ _ h => h) (Or.inl ⟨by rfl, ?_⟩) hHeld ?_
          rotate_left
          · intro w hSw
            (try dsimp only at hSw)
            go_simp
            try with_reducible rfl
          (try simp only [Act.put, List.getElem_toArray, List.getElem_cons_zero, List.getElem_cons_succ, List.setIfInBounds_toArray, List.set_cons_zero, List.set_cons_succ])
          have g_0 := HG5.out.c 0 _ rfl
          have hs0 := row_set HG5.out 0 (by simp) (.int .i64 2)
          have g_1 : ((w5.alloc (Obj.cells #[.int .i64 x, .int .i64 0] 2)).setCell ⟨g, 0, none⟩ (.int .i64 2)).cell? ⟨g, 1, none⟩ = some (.int .i64 0) := hs0.c 1 _ rfl
          have g_1' := HG5.out.c 1 _ rfl
          have g_z := HG5.out.fz
          have gg : (w5.alloc (Obj.cells #[.int .i64 x, .int .i64 0] 2)).grownBy (((w5.alloc (Obj.cells #[.int .i64 x, .int .i64 0] 2)).setCell ⟨g, 0, none⟩ (.int .i64 2)).setCell ⟨g, 1, none⟩ (.int .i64 x)) (some g) := grown_trans (grown_cell _ g 0 (.int .i64 2)) (grown_cell _ g 1 (.int .i64 x))
          have HSX : (((w5.alloc (Obj.cells #[.int .i64 x, .int .i64 0] 2)).setCell ⟨g, 0, none⟩ (.int .i64 2)).setCell ⟨g, 1, none⟩ (.int .i64 x)).cell? ⟨sb, so, none⟩ = some (.int .i64 x) := cell_grown hHeld gg (fun e => hsg (Option.some.inj e))
          clear gg
          refine wpAnyH_ready (rs := [9]) (by kernel_rfl) (by simp) ?_
          refine AllReadyH.cons rfl (fun K hK => ?_) AllReadyH.nil
          go_simp
          clear hHeld
          refine hK.out _ _ HSX (fun hHeld => ?_)
          clear hK K HSX
          (try simp only [Act.put, List.getElem_toArray, List.getElem_cons_zero, List.getElem_cons_succ, List.setIfInBounds_toArray, List.set_cons_zero, List.set_cons_succ])
          refine wpAnyH_done (by kernel_rfl) ?_ _
          (try simp only [Act.put, List.getElem_toArray, List.getElem_cons_zero, List.getElem_cons_succ, List.setIfInBounds_toArray, List.set_cons_zero, List.set_cons_succ])
          clear hHeld g_0 g_1 g_1' g_z hs0
          go_wp2_with fail
          have hs := HG5.out.setRow [.int .i64 2, .int .i64 x] rfl
          have hB := set_below HB5.out HWG.out [.int .i64 2, .int .i64 x]
          have y0 : (((w5.alloc (Obj.cells #[.int .i64 x, .int .i64 0] 2)).setCell ⟨g, 0, none⟩ (.int .i64 2)).setCell ⟨g, 1, none⟩ (.int .i64 x)).cell? ⟨g, 0, none⟩ = some (.int .i64 2) := hs.c 0 _ rfl
          have y1 : (((w5.alloc (Obj.cells #[.int .i64 x, .int .i64 0] 2)).setCell ⟨g, 0, none⟩ (.int .i64 2)).setCell ⟨g, 1, none⟩ (.int .i64 x)).cell? ⟨g, 1, none⟩ = some (.int .i64 x) := hs.c 1 _ rfl
          (try simp only [Exit.inBlock, Exit.then])
          refine bodyPost_ret (by simp [results, Tryd.results24, go_sem, y0, y1]; try rfl) rfl ?_
          rw [HS0.out, HS1.out]
          exact ⟨w5.heap.size, rfl, HRW.out, HR5.out.other (by have := HRL.out; omega) [.int .i64 2, .int .i64 x], hB⟩
      · have bax : (a == x) = false := by rw [beq_eq_false_iff_ne]; exact hax
        by_cases hla : LA = 0
        · have bla : (LA == 0) = true := by rw [beq_iff_eq]; exact hla
          have HS0 := Lib.hid (show SV0 = a by rw [hSV0]; (repeat' split) <;> omega)
          have HS1 := Lib.hid (show SV1 = 0 by rw [hSV1]; (repeat' split) <;> omega)
          clear hSV0 hSV1
          clear hax hla
          go_enter Tryd.func24, Tryd.ntmps24
          go_upto_region 1 with fail
          rw [← hW1]
          try rw [← hg]
          clear hW1 hg
          go_wp2_with fail
          refine KX.out.mono ?_
          rintro e w2 ⟨rfl, rfl⟩
          go_wp2_with fail
          refine KA.out.mono ?_
          rintro e w2 ⟨rfl, rfl⟩
          obtain ⟨W4, gr, hW4, hgr, R4, B4, sz4⟩ := box1 W1 #[.int .i64 a, .int .i64 0] 2
          have HGRL := Lib.hid (show w.heap.size ≤ gr by have := HB1.out.size; omega)
          have HGN := Lib.hid (show g ≠ gr by have := HG1.out.lt; omega)
          have HR4 := Lib.hid R4
          have HG4 := Lib.hid (HG1.out.keep B4)
          have HB4 := Lib.hid (HB1.out.trans (B4.mono HB1.out.size))
          clear R4 B4 sz4
          go_wp2_with fail
          rw [← hW4]
          try rw [← hgr]
          clear hW4 hgr
          refine (rbinary_any a _).mono ?_
          rintro e w5 ⟨rfl, hb⟩
          have HR5 := Lib.hid (HR4.out.keep hb)
          have HG5 := Lib.hid (HG4.out.keep hb)
          have HB5 := Lib.hid (HB4.out.trans (hb.mono HB4.out.size))
          clear hb
          have g_0 := HG5.out.c 0 _ rfl
          have g_1 := HG5.out.c 1 _ rfl
          have g_z := HG5.out.fz
          go_wp2_with fail
          have hs := HG5.out.setRow [.int .i64 2, .int .i64 a] rfl
          have hB := set_below HB5.out HWG.out [.int .i64 2, .int .i64 a]
          have y0 : ((w5.setCell ⟨g, 0, none⟩ (.int .i64 2)).setCell ⟨g, 1, none⟩ (.int .i64 a)).cell? ⟨g, 0, none⟩ = some (.int .i64 2) := hs.c 0 _ rfl
          have y1 : ((w5.setCell ⟨g, 0, none⟩ (.int .i64 2)).setCell ⟨g, 1, none⟩ (.int .i64 a)).cell? ⟨g, 1, none⟩ = some (.int .i64 a) := hs.c 1 _ rfl
          (try simp only [Exit.inBlock, Exit.then])
          refine bodyPost_ret (by simp [results, Tryd.results24, go_sem, y0, y1]; try rfl) rfl ?_
          rw [HS0.out, HS1.out]
          exact ⟨gr, rfl, HGRL.out, HR5.out.other HGN.out [.int .i64 2, .int .i64 a], hB⟩
        · have bla : (LA == 0) = false := by rw [beq_eq_false_iff_ne]; exact hla
          have HS0 := Lib.hid (show SV0 = a by rw [hSV0]; (repeat' split) <;> omega)
          have HS1 := Lib.hid (show SV1 = 1 by rw [hSV1]; (repeat' split) <;> omega)
          clear hSV0 hSV1
          clear hax hla
          go_enter Tryd.func24, Tryd.ntmps24
          go_upto_region 1 with fail
          rw [← hW1]
          try rw [← hg]
          clear hW1 hg
          go_wp2_with fail
          refine KX.out.mono ?_
          rintro e w2 ⟨rfl, rfl⟩
          go_wp2_with fail
          refine KA.out.mono ?_
          rintro e w2 ⟨rfl, rfl⟩
          obtain ⟨W4, gr, hW4, hgr, R4, B4, sz4⟩ := box1 W1 #[.int .i64 a, .int .i64 1] 2
          have HGRL := Lib.hid (show w.heap.size ≤ gr by have := HB1.out.size; omega)
          have HGN := Lib.hid (show g ≠ gr by have := HG1.out.lt; omega)
          have HR4 := Lib.hid R4
          have HG4 := Lib.hid (HG1.out.keep B4)
          have HB4 := Lib.hid (HB1.out.trans (B4.mono HB1.out.size))
          clear R4 B4 sz4
          go_wp2_with fail
          rw [← hW4]
          try rw [← hgr]
          clear hW4 hgr
          refine (rbinary_any a _).mono ?_
          rintro e w5 ⟨rfl, hb⟩
          have HR5 := Lib.hid (HR4.out.keep hb)
          have HG5 := Lib.hid (HG4.out.keep hb)
          have HB5 := Lib.hid (HB4.out.trans (hb.mono HB4.out.size))
          clear hb
          have g_0 := HG5.out.c 0 _ rfl
          have g_1 := HG5.out.c 1 _ rfl
          have g_z := HG5.out.fz
          go_wp2_with fail
          have hs := HG5.out.setRow [.int .i64 2, .int .i64 a] rfl
          have hB := set_below HB5.out HWG.out [.int .i64 2, .int .i64 a]
          have y0 : ((w5.setCell ⟨g, 0, none⟩ (.int .i64 2)).setCell ⟨g, 1, none⟩ (.int .i64 a)).cell? ⟨g, 0, none⟩ = some (.int .i64 2) := hs.c 0 _ rfl
          have y1 : ((w5.setCell ⟨g, 0, none⟩ (.int .i64 2)).setCell ⟨g, 1, none⟩ (.int .i64 a)).cell? ⟨g, 1, none⟩ = some (.int .i64 a) := hs.c 1 _ rfl
          (try simp only [Exit.inBlock, Exit.then])
          refine bodyPost_ret (by simp [results, Tryd.results24, go_sem, y0, y1]; try rfl) rfl ?_
          rw [HS0.out, HS1.out]
          exact ⟨gr, rfl, HGRL.out, HR5.out.other HGN.out [.int .i64 2, .int .i64 a], hB⟩
  · by_cases hax : a = x
    · have bax : (a == x) = true := by rw [beq_iff_eq]; exact hax
      have HS0 := Lib.hid (show SV0 = x by rw [hSV0]; (repeat' split) <;> omega)
      have HS1 := Lib.hid (show SV1 = 0 by rw [hSV1]; (repeat' split) <;> omega)
      clear hSV0 hSV1
      clear hax
      go_enter Tryd.func24, Tryd.ntmps24
      go_upto_region 1 with fail
      rw [← hW1]
      try rw [← hg]
      clear hW1 hg
      go_wp2_with fail
      refine wp_region_held_drew (S := fun w => w.cell? ⟨sb, so, none⟩ = some (.int .i64 x)) (by kernel_rfl) s0 (fun hHeld => ?_)
      have hdr : Below W1.heap.size W1 W1.drew := (Below.refl _ _).drew
      have HG9 := Lib.hid (HG1.out.keep hdr)
      have HB9 := Lib.hid (HB1.out.trans (hdr.mono HB1.out.size))
      have HGL9 := Lib.hid (show g < W1.drew.heap.size from HG9.out.lt)
      obtain ⟨W9, hW9⟩ : ∃ z, z = W1.drew := ⟨_, rfl⟩
      rw [← hW9] at HG9 HB9 HGL9 hHeld ⊢
      clear hW9 hdr
      refine' wpAnyH_take (i := 0) (v := _) rfl (by kernel_rfl) (by kernel_rfl) (by kernel_rfl) (fun _ _ _ h => h) (Or.inl ⟨by rfl, ?_⟩) hHeld ?_
      rotate_left
      · intro w hSw
        (try dsimp only at hSw)
        go_simp
        try with_reducible rfl
      (try simp only [Act.put, List.getElem_toArray, List.getElem_cons_zero, List.getElem_cons_succ, List.setIfInBounds_toArray, List.set_cons_zero, List.set_cons_succ])
      refine' wpAnyH_take (i := 1) (v := _) rfl (by kernel_rfl) (by kernel_rfl) (by kernel_rfl) (fun _ _ _ h => h) (Or.inl ⟨by rfl, ?_⟩) hHeld ?_
      rotate_left
      · intro w hSw
        (try dsimp only at hSw)
        go_simp
        try with_reducible rfl
      (try simp only [Act.put, List.getElem_toArray, List.getElem_cons_zero, List.getElem_cons_succ, List.setIfInBounds_toArray, List.set_cons_zero, List.set_cons_succ])
      refine' wpAnyH_take (i := 2) (v := _) rfl (by kernel_rfl) (by kernel_rfl) (by kernel_rfl) (fun _ _ _ h => h) (Or.inl ⟨by rfl, ?_⟩) hHeld ?_
      rotate_left
      · intro w hSw
        (try dsimp only at hSw)
        go_simp
        try with_reducible rfl
      (try simp only [Act.put, List.getElem_toArray, List.getElem_cons_zero, List.getElem_cons_succ, List.setIfInBounds_toArray, List.set_cons_zero, List.set_cons_succ])
      refine' wpAnyH_take (i := 4) (v := _) rfl (by kernel_rfl) (by kernel_rfl) (by kernel_rfl) (fun _ _ _ h => h) (Or.inl ⟨by rfl, ?_⟩) hHeld ?_
      rotate_left
      · intro w hSw
        (try dsimp only at hSw)
        go_simp
        try with_reducible rfl
      (try simp only [Act.put, List.getElem_toArray, List.getElem_cons_zero, List.getElem_cons_succ, List.setIfInBounds_toArray, List.set_cons_zero, List.set_cons_succ])
      refine' wpAnyH_take (i := 5) (v := _) rfl (by kernel_rfl) (by kernel_rfl) (by kernel_rfl) (fun _ _ _ h => h) (Or.inl ⟨by rfl, ?_⟩) hHeld ?_
      rotate_left
      · intro w hSw
        (try dsimp only at hSw)
        go_simp
        try with_reducible rfl
      (try simp only [Act.put, List.getElem_toArray, List.getElem_cons_zero, List.getElem_cons_succ, List.setIfInBounds_toArray, List.set_cons_zero, List.set_cons_succ])
      refine' wpAnyH_take (i := 6) (v := _) rfl (by kernel_rfl) (by kernel_rfl) (by kernel_rfl) (fun _ _ _ h => h) (Or.inl ⟨by rfl, ?_⟩) hHeld ?_
      rotate_left
      · intro w hSw
        (try dsimp only at hSw)
        go_simp
        try with_reducible rfl
      (try simp only [Act.put, List.getElem_toArray, List.getElem_cons_zero, List.getElem_cons_succ, List.setIfInBounds_toArray, List.set_cons_zero, List.set_cons_succ])
      refine wpAnyH_ready (rs := [3, 7]) (by kernel_rfl) (by simp) ?_
      refine AllReadyH.cons rfl (fun K hK => ?_) (AllReadyH.cons rfl (fun K hK => ?_) AllReadyH.nil)
      · go_simp
        have nal1 : Below W9.heap.size W9 (W9.alloc (Obj.cells #[.int .i64 x, .int .i64 0] 2)) := (Below.refl _ _).alloc (Nat.le_refl _) _
        have HSX : (W9.alloc (Obj.cells #[.int .i64 x, .int .i64 0] 2)).cell? ⟨sb, so, none⟩ = some (.int .i64 x) := cellB hHeld nal1
        have HG8 := Lib.hid (HG9.out.keep nal1)
        have HB8 := Lib.hid (HB9.out.trans (nal1.mono HB9.out.size))
        have HR8 := Lib.hid (row_fresh W9 #[.int .i64 x, .int .i64 0] 2)
        clear nal1
        clear hHeld
        refine hK.out _ _ HSX (fun hHeld => ?_)
        clear hK K HSX
        (try simp only [Act.put, List.getElem_toArray, List.getElem_cons_zero, List.getElem_cons_succ, List.setIfInBounds_toArray, List.set_cons_zero, List.set_cons_succ])
        refine wpAnyH_ready (rs := [7]) (by kernel_rfl) (by simp) ?_
        refine AllReadyH.cons rfl (fun K hK => ?_) AllReadyH.nil
        go_simp
        refine (rbinary_any x _).mono ?_
        rintro e w5 ⟨rfl, hb⟩
        have HSX := cellB hHeld hb
        have HR5 := Lib.hid (HR8.out.keep hb)
        have HG5 := Lib.hid (HG8.out.keep hb)
        have HB5 := Lib.hid (HB8.out.trans (hb.mono HB8.out.size))
        have HRL := Lib.hid (show g < W9.heap.size from HG9.out.lt)
        have HRW := Lib.hid (show w.heap.size ≤ W9.heap.size from HB9.out.size)
        clear hb
        (try go_simp)
        clear hHeld
        refine hK.out _ _ HSX (fun hHeld => ?_)
        clear hK K HSX
        (try simp only [Act.put, List.getElem_toArray, List.getElem_cons_zero, List.getElem_cons_succ, List.setIfInBounds_toArray, List.set_cons_zero, List.set_cons_succ])
        refine' wpAnyH_take (i := 8) (v := _) rfl (by kernel_rfl) (by kernel_rfl) (by kernel_rfl) (fun _ _ _ h => h) (Or.inl ⟨by rfl, ?_⟩) hHeld ?_
        rotate_left
        · intro w hSw
          (try dsimp only at hSw)
          go_simp
          try with_reducible rfl
        (try simp only [Act.put, List.getElem_toArray, List.getElem_cons_zero, List.getElem_cons_succ, List.setIfInBounds_toArray, List.set_cons_zero, List.set_cons_succ])
        have g_0 := HG5.out.c 0 _ rfl
        have hs0 := row_set HG5.out 0 (by simp) (.int .i64 2)
        have g_1 : (w5.setCell ⟨g, 0, none⟩ (.int .i64 2)).cell? ⟨g, 1, none⟩ = some (.int .i64 0) := hs0.c 1 _ rfl
        have g_1' := HG5.out.c 1 _ rfl
        have g_z := HG5.out.fz
        have gg : w5.grownBy ((w5.setCell ⟨g, 0, none⟩ (.int .i64 2)).setCell ⟨g, 1, none⟩ (.int .i64 x)) (some g) := grown_trans (grown_cell _ g 0 (.int .i64 2)) (grown_cell _ g 1 (.int .i64 x))
        have HSX : ((w5.setCell ⟨g, 0, none⟩ (.int .i64 2)).setCell ⟨g, 1, none⟩ (.int .i64 x)).cell? ⟨sb, so, none⟩ = some (.int .i64 x) := cell_grown hHeld gg (fun e => hsg (Option.some.inj e))
        clear gg
        refine wpAnyH_ready (rs := [9]) (by kernel_rfl) (by simp) ?_
        refine AllReadyH.cons rfl (fun K hK => ?_) AllReadyH.nil
        go_simp
        clear hHeld
        refine hK.out _ _ HSX (fun hHeld => ?_)
        clear hK K HSX
        (try simp only [Act.put, List.getElem_toArray, List.getElem_cons_zero, List.getElem_cons_succ, List.setIfInBounds_toArray, List.set_cons_zero, List.set_cons_succ])
        refine wpAnyH_done (by kernel_rfl) ?_ _
        (try simp only [Act.put, List.getElem_toArray, List.getElem_cons_zero, List.getElem_cons_succ, List.setIfInBounds_toArray, List.set_cons_zero, List.set_cons_succ])
        clear hHeld g_0 g_1 g_1' g_z hs0
        go_wp2_with fail
        have hs := HG5.out.setRow [.int .i64 2, .int .i64 x] rfl
        have hB := set_below HB5.out HWG.out [.int .i64 2, .int .i64 x]
        have y0 : ((w5.setCell ⟨g, 0, none⟩ (.int .i64 2)).setCell ⟨g, 1, none⟩ (.int .i64 x)).cell? ⟨g, 0, none⟩ = some (.int .i64 2) := hs.c 0 _ rfl
        have y1 : ((w5.setCell ⟨g, 0, none⟩ (.int .i64 2)).setCell ⟨g, 1, none⟩ (.int .i64 x)).cell? ⟨g, 1, none⟩ = some (.int .i64 x) := hs.c 1 _ rfl
        (try simp only [Exit.inBlock, Exit.then])
        refine bodyPost_ret (by simp [results, Tryd.results24, go_sem, y0, y1]; try rfl) rfl ?_
        rw [HS0.out, HS1.out]
        exact ⟨W9.heap.size, rfl, HRW.out, HR5.out.other (by have := HRL.out; omega) [.int .i64 2, .int .i64 x], hB⟩
      · go_simp
        refine (rbinary_any x _).mono ?_
        rintro e w5 ⟨rfl, hb⟩
        have HSX := cellB hHeld hb
        have HG8 := Lib.hid (HG9.out.keep hb)
        have HB8 := Lib.hid (HB9.out.trans (hb.mono HB9.out.size))
        clear hb
        (try go_simp)
        clear hHeld
        refine hK.out _ _ HSX (fun hHeld => ?_)
        clear hK K HSX
        (try simp only [Act.put, List.getElem_toArray, List.getElem_cons_zero, List.getElem_cons_succ, List.setIfInBounds_toArray, List.set_cons_zero, List.set_cons_succ])
        refine wpAnyH_ready (rs := [3]) (by kernel_rfl) (by simp) ?_
        refine AllReadyH.cons rfl (fun K hK => ?_) AllReadyH.nil
        go_simp
        have nal1 : Below w5.heap.size w5 (w5.alloc (Obj.cells #[.int .i64 x, .int .i64 0] 2)) := (Below.refl _ _).alloc (Nat.le_refl _) _
        have HSX : (w5.alloc (Obj.cells #[.int .i64 x, .int .i64 0] 2)).cell? ⟨sb, so, none⟩ = some (.int .i64 x) := cellB hHeld nal1
        have HG5 := Lib.hid (HG8.out.keep nal1)
        have HB5 := Lib.hid (HB8.out.trans (nal1.mono HB8.out.size))
        have HR5 := Lib.hid (row_fresh w5 #[.int .i64 x, .int .i64 0] 2)
        have HRL := Lib.hid (show g < w5.heap.size from HG8.out.lt)
        have HRW := Lib.hid (show w.heap.size ≤ w5.heap.size from HB8.out.size)
        clear nal1
        clear hHeld
        refine hK.out _ _ HSX (fun hHeld => ?_)
        clear hK K HSX
        (try simp only [Act.put, List.getElem_toArray, List.getElem_cons_zero, List.getElem_cons_succ, List.setIfInBounds_toArray, List.set_cons_zero, List.set_cons_succ])
        refine' wpAnyH_take (i := 8) (v := _) rfl (by kernel_rfl) (by kernel_rfl) (by kernel_rfl) (fun _ _ _ h => h) (Or.inl ⟨by rfl, ?_⟩) hHeld ?_
        rotate_left
        · intro w hSw
          (try dsimp only at hSw)
          go_simp
          try with_reducible rfl
        (try simp only [Act.put, List.getElem_toArray, List.getElem_cons_zero, List.getElem_cons_succ, List.setIfInBounds_toArray, List.set_cons_zero, List.set_cons_succ])
        have g_0 := HG5.out.c 0 _ rfl
        have hs0 := row_set HG5.out 0 (by simp) (.int .i64 2)
        have g_1 : ((w5.alloc (Obj.cells #[.int .i64 x, .int .i64 0] 2)).setCell ⟨g, 0, none⟩ (.int .i64 2)).cell? ⟨g, 1, none⟩ = some (.int .i64 0) := hs0.c 1 _ rfl
        have g_1' := HG5.out.c 1 _ rfl
        have g_z := HG5.out.fz
        have gg : (w5.alloc (Obj.cells #[.int .i64 x, .int .i64 0] 2)).grownBy (((w5.alloc (Obj.cells #[.int .i64 x, .int .i64 0] 2)).setCell ⟨g, 0, none⟩ (.int .i64 2)).setCell ⟨g, 1, none⟩ (.int .i64 x)) (some g) := grown_trans (grown_cell _ g 0 (.int .i64 2)) (grown_cell _ g 1 (.int .i64 x))
        have HSX : (((w5.alloc (Obj.cells #[.int .i64 x, .int .i64 0] 2)).setCell ⟨g, 0, none⟩ (.int .i64 2)).setCell ⟨g, 1, none⟩ (.int .i64 x)).cell? ⟨sb, so, none⟩ = some (.int .i64 x) := cell_grown hHeld gg (fun e => hsg (Option.some.inj e))
        clear gg
        refine wpAnyH_ready (rs := [9]) (by kernel_rfl) (by simp) ?_
        refine AllReadyH.cons rfl (fun K hK => ?_) AllReadyH.nil
        go_simp
        clear hHeld
        refine hK.out _ _ HSX (fun hHeld => ?_)
        clear hK K HSX
        (try simp only [Act.put, List.getElem_toArray, List.getElem_cons_zero, List.getElem_cons_succ, List.setIfInBounds_toArray, List.set_cons_zero, List.set_cons_succ])
        refine wpAnyH_done (by kernel_rfl) ?_ _
        (try simp only [Act.put, List.getElem_toArray, List.getElem_cons_zero, List.getElem_cons_succ, List.setIfInBounds_toArray, List.set_cons_zero, List.set_cons_succ])
        clear hHeld g_0 g_1 g_1' g_z hs0
        go_wp2_with fail
        have hs := HG5.out.setRow [.int .i64 2, .int .i64 x] rfl
        have hB := set_below HB5.out HWG.out [.int .i64 2, .int .i64 x]
        have y0 : (((w5.alloc (Obj.cells #[.int .i64 x, .int .i64 0] 2)).setCell ⟨g, 0, none⟩ (.int .i64 2)).setCell ⟨g, 1, none⟩ (.int .i64 x)).cell? ⟨g, 0, none⟩ = some (.int .i64 2) := hs.c 0 _ rfl
        have y1 : (((w5.alloc (Obj.cells #[.int .i64 x, .int .i64 0] 2)).setCell ⟨g, 0, none⟩ (.int .i64 2)).setCell ⟨g, 1, none⟩ (.int .i64 x)).cell? ⟨g, 1, none⟩ = some (.int .i64 x) := hs.c 1 _ rfl
        (try simp only [Exit.inBlock, Exit.then])
        refine bodyPost_ret (by simp [results, Tryd.results24, go_sem, y0, y1]; try rfl) rfl ?_
        rw [HS0.out, HS1.out]
        exact ⟨w5.heap.size, rfl, HRW.out, HR5.out.other (by have := HRL.out; omega) [.int .i64 2, .int .i64 x], hB⟩
    · have bax : (a == x) = false := by rw [beq_eq_false_iff_ne]; exact hax
      by_cases hla : LA = 0
      · have bla : (LA == 0) = true := by rw [beq_iff_eq]; exact hla
        have HS0 := Lib.hid (show SV0 = a by rw [hSV0]; (repeat' split) <;> omega)
        have HS1 := Lib.hid (show SV1 = 0 by rw [hSV1]; (repeat' split) <;> omega)
        clear hSV0 hSV1
        clear hax hla
        go_enter Tryd.func24, Tryd.ntmps24
        go_upto_region 1 with fail
        rw [← hW1]
        try rw [← hg]
        clear hW1 hg
        go_wp2_with fail
        refine KA.out.mono ?_
        rintro e w2 ⟨rfl, rfl⟩
        obtain ⟨W4, gr, hW4, hgr, R4, B4, sz4⟩ := box1 W1 #[.int .i64 a, .int .i64 0] 2
        have HGRL := Lib.hid (show w.heap.size ≤ gr by have := HB1.out.size; omega)
        have HGN := Lib.hid (show g ≠ gr by have := HG1.out.lt; omega)
        have HR4 := Lib.hid R4
        have HG4 := Lib.hid (HG1.out.keep B4)
        have HB4 := Lib.hid (HB1.out.trans (B4.mono HB1.out.size))
        clear R4 B4 sz4
        go_wp2_with fail
        rw [← hW4]
        try rw [← hgr]
        clear hW4 hgr
        refine (rbinary_any a _).mono ?_
        rintro e w5 ⟨rfl, hb⟩
        have HR5 := Lib.hid (HR4.out.keep hb)
        have HG5 := Lib.hid (HG4.out.keep hb)
        have HB5 := Lib.hid (HB4.out.trans (hb.mono HB4.out.size))
        clear hb
        have g_0 := HG5.out.c 0 _ rfl
        have g_1 := HG5.out.c 1 _ rfl
        have g_z := HG5.out.fz
        go_wp2_with fail
        have hs := HG5.out.setRow [.int .i64 2, .int .i64 a] rfl
        have hB := set_below HB5.out HWG.out [.int .i64 2, .int .i64 a]
        have y0 : ((w5.setCell ⟨g, 0, none⟩ (.int .i64 2)).setCell ⟨g, 1, none⟩ (.int .i64 a)).cell? ⟨g, 0, none⟩ = some (.int .i64 2) := hs.c 0 _ rfl
        have y1 : ((w5.setCell ⟨g, 0, none⟩ (.int .i64 2)).setCell ⟨g, 1, none⟩ (.int .i64 a)).cell? ⟨g, 1, none⟩ = some (.int .i64 a) := hs.c 1 _ rfl
        (try simp only [Exit.inBlock, Exit.then])
        refine bodyPost_ret (by simp [results, Tryd.results24, go_sem, y0, y1]; try rfl) rfl ?_
        rw [HS0.out, HS1.out]
        exact ⟨gr, rfl, HGRL.out, HR5.out.other HGN.out [.int .i64 2, .int .i64 a], hB⟩
      · have bla : (LA == 0) = false := by rw [beq_eq_false_iff_ne]; exact hla
        have HS0 := Lib.hid (show SV0 = a by rw [hSV0]; (repeat' split) <;> omega)
        have HS1 := Lib.hid (show SV1 = 1 by rw [hSV1]; (repeat' split) <;> omega)
        clear hSV0 hSV1
        clear hax hla
        go_enter Tryd.func24, Tryd.ntmps24
        go_upto_region 1 with fail
        rw [← hW1]
        try rw [← hg]
        clear hW1 hg
        go_wp2_with fail
        refine KA.out.mono ?_
        rintro e w2 ⟨rfl, rfl⟩
        obtain ⟨W4, gr, hW4, hgr, R4, B4, sz4⟩ := box1 W1 #[.int .i64 a, .int .i64 1] 2
        have HGRL := Lib.hid (show w.heap.size ≤ gr by have := HB1.out.size; omega)
        have HGN := Lib.hid (show g ≠ gr by have := HG1.out.lt; omega)
        have HR4 := Lib.hid R4
        have HG4 := Lib.hid (HG1.out.keep B4)
        have HB4 := Lib.hid (HB1.out.trans (B4.mono HB1.out.size))
        clear R4 B4 sz4
        go_wp2_with fail
        rw [← hW4]
        try rw [← hgr]
        clear hW4 hgr
        refine (rbinary_any a _).mono ?_
        rintro e w5 ⟨rfl, hb⟩
        have HR5 := Lib.hid (HR4.out.keep hb)
        have HG5 := Lib.hid (HG4.out.keep hb)
        have HB5 := Lib.hid (HB4.out.trans (hb.mono HB4.out.size))
        clear hb
        have g_0 := HG5.out.c 0 _ rfl
        have g_1 := HG5.out.c 1 _ rfl
        have g_z := HG5.out.fz
        go_wp2_with fail
        have hs := HG5.out.setRow [.int .i64 2, .int .i64 a] rfl
        have hB := set_below HB5.out HWG.out [.int .i64 2, .int .i64 a]
        have y0 : ((w5.setCell ⟨g, 0, none⟩ (.int .i64 2)).setCell ⟨g, 1, none⟩ (.int .i64 a)).cell? ⟨g, 0, none⟩ = some (.int .i64 2) := hs.c 0 _ rfl
        have y1 : ((w5.setCell ⟨g, 0, none⟩ (.int .i64 2)).setCell ⟨g, 1, none⟩ (.int .i64 a)).cell? ⟨g, 1, none⟩ = some (.int .i64 a) := hs.c 1 _ rfl
        (try simp only [Exit.inBlock, Exit.then])
        refine bodyPost_ret (by simp [results, Tryd.results24, go_sem, y0, y1]; try rfl) rfl ?_
        rw [HS0.out, HS1.out]
        exact ⟨gr, rfl, HGRL.out, HR5.out.other HGN.out [.int .i64 2, .int .i64 a], hB⟩
set_option maxHeartbeats 4000000 in
set_option maxRecDepth 100000 in
theorem rstep_offdelay (pb po pc sb so sc vb vo vc : Nat) (p0 x a dt : Int) (w : World) (hdt : 1 ≤ dt ∧ dt ≤ 86400) (hr : 0 ≤ p0 ∧ p0 ≤ 86400) (hx0 : -1 ≤ x ∧ x ≤ p0) (q0 : w.cell? ⟨pb, po, none⟩ = some (.int .i64 p0)) (s0 : w.cell? ⟨sb, so, none⟩ = some (.int .i64 x)) (n0 : w.cell? ⟨vb, vo + 1, none⟩ = some (.int .i64 a)) :
    Calls Tryd.prog 24 #[.string ⟨#[111, 102, 102, 100, 101, 108, 97, 121]⟩, .slice (some ⟨pb, po, none⟩) 1 pc, .slice (some ⟨sb, so, none⟩) 1 sc, .slice (some ⟨vb, vo, none⟩) 1 vc, .int .i64 dt] w fun e w' => ∃ gr, e = .returned (.tuple #[.slice (some ⟨gr, 0, none⟩) 1 1, .agg #[.int .i64 2, .int .i64 (offV a x p0 dt)]]) ∧ w.heap.size ≤ gr ∧ RowAt w' gr (flat iL [offS a x p0 dt]) ∧ Below w.heap.size w w' := by
  obtain ⟨W1, g, hW1, hg, RG, B1, sz1⟩ := box1 w #[.int .i64 0, .int .i64 0] 26
  have HG1 := Lib.hid RG
  have HB1 := Lib.hid B1
  have HWG := Lib.hid (show w.heap.size ≤ g by omega)
  have hsb : sb < w.heap.size := World.block_lt_of_cell? _ _ s0
  have hgw : g = w.heap.size := hg
  replace q0 := cellB q0 B1
  replace s0 := cellB s0 B1
  replace n0 := cellB n0 B1
  clear RG B1 sz1
  clear hsb hgw
  have e1 : IntKind.i64.wrap (x - 1) = x - 1 := IntWalk.i64_in _ (by omega)
  have e2 : IntKind.i64.wrap (x - 1 + dt) = x - 1 + dt := IntWalk.i64_in _ (by omega)
  have e3 : IntKind.i64.wrap (x - 1 + dt + 1) = x - 1 + dt + 1 := IntWalk.i64_in _ (by omega)
  by_cases ha : a = 1
  · have ba1 : (a == 1) = true := by rw [beq_iff_eq]; omega
    obtain ⟨SVX, hSVX⟩ : ∃ zz, zz = ([offS a x p0 dt] : List Int) := ⟨_, rfl⟩
    obtain ⟨OVX, hOVX⟩ : ∃ zz, zz = (offV a x p0 dt : Int) := ⟨_, rfl⟩
    have HS := Lib.hid (show SVX = [-1] by rw [hSVX, show offS a x p0 dt = -1 from by (try unfold offS); (try unfold offV); (try unfold lastsN); first | rfl | omega | ((repeat' split) <;> first | rfl | omega)])
    have HO := Lib.hid (show OVX = 1 by rw [hOVX]; exact by (try unfold offS); (try unfold offV); (try unfold lastsN); first | rfl | omega | ((repeat' split) <;> first | rfl | omega))
    rw [← hSVX, ← hOVX]
    clear hSVX hOVX
    clear ha
    go_enter Tryd.func24, Tryd.ntmps24
    go_upto_region 1 with fail
    rw [← hW1]
    try rw [← hg]
    clear hW1 hg
    obtain ⟨W4, gr, hW4, hgr, R4, B4, sz4⟩ := box1 W1 #[.int .i64 (-1)] 2
    have HGRL := Lib.hid (show w.heap.size ≤ gr by have := HB1.out.size; omega)
    have HGN := Lib.hid (show g ≠ gr by have := HG1.out.lt; omega)
    have HR4 := Lib.hid R4
    have HG4 := Lib.hid (HG1.out.keep B4)
    have HB4 := Lib.hid (HB1.out.trans (B4.mono HB1.out.size))
    clear R4 B4 sz4
    go_wp2_with fail
    rw [← hW4]
    try rw [← hgr]
    clear hW4 hgr
    refine (rbinary_any 1 _).mono ?_
    rintro e w5 ⟨rfl, hb⟩
    have HR5 := Lib.hid (HR4.out.keep hb)
    have HG5 := Lib.hid (HG4.out.keep hb)
    have HB5 := Lib.hid (HB4.out.trans (hb.mono HB4.out.size))
    clear hb
    have g_0 := HG5.out.c 0 _ rfl
    have g_1 := HG5.out.c 1 _ rfl
    have g_z := HG5.out.fz
    go_wp2_with fail
    have hs := HG5.out.setRow [.int .i64 2, .int .i64 1] rfl
    have hB := set_below HB5.out HWG.out [.int .i64 2, .int .i64 1]
    have y0 : ((w5.setCell ⟨g, 0, none⟩ (.int .i64 2)).setCell ⟨g, 1, none⟩ (.int .i64 1)).cell? ⟨g, 0, none⟩ = some (.int .i64 2) := hs.c 0 _ rfl
    have y1 : ((w5.setCell ⟨g, 0, none⟩ (.int .i64 2)).setCell ⟨g, 1, none⟩ (.int .i64 1)).cell? ⟨g, 1, none⟩ = some (.int .i64 1) := hs.c 1 _ rfl
    (try simp only [Exit.inBlock, Exit.then])
    refine bodyPost_ret (by simp [results, Tryd.results24, go_sem, y0, y1]; try rfl) rfl ?_
    rw [HS.out, HO.out]
    exact ⟨gr, rfl, HGRL.out, HR5.out.other HGN.out [.int .i64 2, .int .i64 1], hB⟩
  · have ba1 : (a == 1) = false := by rw [beq_eq_false_iff_ne]; omega
    by_cases hx : 0 < x
    · have bx0 : (x == 0) = false := by rw [beq_eq_false_iff_ne]; omega
      by_cases h2 : p0 ≤ x - 1 + dt
      · obtain ⟨SVX, hSVX⟩ : ∃ zz, zz = ([offS a x p0 dt] : List Int) := ⟨_, rfl⟩
        obtain ⟨OVX, hOVX⟩ : ∃ zz, zz = (offV a x p0 dt : Int) := ⟨_, rfl⟩
        have HS := Lib.hid (show SVX = [0] by rw [hSVX, show offS a x p0 dt = 0 from by (try unfold offS); (try unfold offV); (try unfold lastsN); first | rfl | omega | ((repeat' split) <;> first | rfl | omega)])
        have HO := Lib.hid (show OVX = 0 by rw [hOVX]; exact by (try unfold offS); (try unfold offV); (try unfold lastsN); first | rfl | omega | ((repeat' split) <;> first | rfl | omega))
        rw [← hSVX, ← hOVX]
        clear hSVX hOVX
        clear ha
        go_enter Tryd.func24, Tryd.ntmps24
        go_upto_region 1 with fail
        rw [← hW1]
        try rw [← hg]
        clear hW1 hg
        obtain ⟨W4, gr, hW4, hgr, R4, B4, sz4⟩ := box1 W1 #[.int .i64 0] 2
        have HGRL := Lib.hid (show w.heap.size ≤ gr by have := HB1.out.size; omega)
        have HGN := Lib.hid (show g ≠ gr by have := HG1.out.lt; omega)
        have HR4 := Lib.hid R4
        have HG4 := Lib.hid (HG1.out.keep B4)
        have HB4 := Lib.hid (HB1.out.trans (B4.mono HB1.out.size))
        clear R4 B4 sz4
        go_wp2_with fail
        rw [← hW4]
        try rw [← hgr]
        clear hW4 hgr
        refine (rbinary_any 0 _).mono ?_
        rintro e w5 ⟨rfl, hb⟩
        have HR5 := Lib.hid (HR4.out.keep hb)
        have HG5 := Lib.hid (HG4.out.keep hb)
        have HB5 := Lib.hid (HB4.out.trans (hb.mono HB4.out.size))
        clear hb
        have g_0 := HG5.out.c 0 _ rfl
        have g_1 := HG5.out.c 1 _ rfl
        have g_z := HG5.out.fz
        go_wp2_with fail
        have hs := HG5.out.setRow [.int .i64 2, .int .i64 0] rfl
        have hB := set_below HB5.out HWG.out [.int .i64 2, .int .i64 0]
        have y0 : ((w5.setCell ⟨g, 0, none⟩ (.int .i64 2)).setCell ⟨g, 1, none⟩ (.int .i64 0)).cell? ⟨g, 0, none⟩ = some (.int .i64 2) := hs.c 0 _ rfl
        have y1 : ((w5.setCell ⟨g, 0, none⟩ (.int .i64 2)).setCell ⟨g, 1, none⟩ (.int .i64 0)).cell? ⟨g, 1, none⟩ = some (.int .i64 0) := hs.c 1 _ rfl
        (try simp only [Exit.inBlock, Exit.then])
        refine bodyPost_ret (by simp [results, Tryd.results24, go_sem, y0, y1]; try rfl) rfl ?_
        rw [HS.out, HO.out]
        exact ⟨gr, rfl, HGRL.out, HR5.out.other HGN.out [.int .i64 2, .int .i64 0], hB⟩
      · obtain ⟨SVX, hSVX⟩ : ∃ zz, zz = ([offS a x p0 dt] : List Int) := ⟨_, rfl⟩
        obtain ⟨OVX, hOVX⟩ : ∃ zz, zz = (offV a x p0 dt : Int) := ⟨_, rfl⟩
        have HS := Lib.hid (show SVX = [x - 1 + dt + 1] by rw [hSVX, show offS a x p0 dt = x - 1 + dt + 1 from by (try unfold offS); (try unfold offV); (try unfold lastsN); first | rfl | omega | ((repeat' split) <;> first | rfl | omega)])
        have HO := Lib.hid (show OVX = 1 by rw [hOVX]; exact by (try unfold offS); (try unfold offV); (try unfold lastsN); first | rfl | omega | ((repeat' split) <;> first | rfl | omega))
        rw [← hSVX, ← hOVX]
        clear hSVX hOVX
        clear ha
        go_enter Tryd.func24, Tryd.ntmps24
        go_upto_region 1 with fail
        rw [← hW1]
        try rw [← hg]
        clear hW1 hg
        obtain ⟨W4, gr, hW4, hgr, R4, B4, sz4⟩ := box1 W1 #[.int .i64 (x - 1 + dt + 1)] 2
        have HGRL := Lib.hid (show w.heap.size ≤ gr by have := HB1.out.size; omega)
        have HGN := Lib.hid (show g ≠ gr by have := HG1.out.lt; omega)
        have HR4 := Lib.hid R4
        have HG4 := Lib.hid (HG1.out.keep B4)
        have HB4 := Lib.hid (HB1.out.trans (B4.mono HB1.out.size))
        clear R4 B4 sz4
        go_wp2_with fail
        rw [← hW4]
        try rw [← hgr]
        clear hW4 hgr
        refine (rbinary_any 1 _).mono ?_
        rintro e w5 ⟨rfl, hb⟩
        have HR5 := Lib.hid (HR4.out.keep hb)
        have HG5 := Lib.hid (HG4.out.keep hb)
        have HB5 := Lib.hid (HB4.out.trans (hb.mono HB4.out.size))
        clear hb
        have g_0 := HG5.out.c 0 _ rfl
        have g_1 := HG5.out.c 1 _ rfl
        have g_z := HG5.out.fz
        go_wp2_with fail
        have hs := HG5.out.setRow [.int .i64 2, .int .i64 1] rfl
        have hB := set_below HB5.out HWG.out [.int .i64 2, .int .i64 1]
        have y0 : ((w5.setCell ⟨g, 0, none⟩ (.int .i64 2)).setCell ⟨g, 1, none⟩ (.int .i64 1)).cell? ⟨g, 0, none⟩ = some (.int .i64 2) := hs.c 0 _ rfl
        have y1 : ((w5.setCell ⟨g, 0, none⟩ (.int .i64 2)).setCell ⟨g, 1, none⟩ (.int .i64 1)).cell? ⟨g, 1, none⟩ = some (.int .i64 1) := hs.c 1 _ rfl
        (try simp only [Exit.inBlock, Exit.then])
        refine bodyPost_ret (by simp [results, Tryd.results24, go_sem, y0, y1]; try rfl) rfl ?_
        rw [HS.out, HO.out]
        exact ⟨gr, rfl, HGRL.out, HR5.out.other HGN.out [.int .i64 2, .int .i64 1], hB⟩
    · by_cases h3 : x = 0
      · have bx0 : (x == 0) = true := by rw [beq_iff_eq]; omega
        obtain ⟨SVX, hSVX⟩ : ∃ zz, zz = ([offS a x p0 dt] : List Int) := ⟨_, rfl⟩
        obtain ⟨OVX, hOVX⟩ : ∃ zz, zz = (offV a x p0 dt : Int) := ⟨_, rfl⟩
        have HS := Lib.hid (show SVX = [0] by rw [hSVX, show offS a x p0 dt = 0 from by (try unfold offS); (try unfold offV); (try unfold lastsN); first | rfl | omega | ((repeat' split) <;> first | rfl | omega)])
        have HO := Lib.hid (show OVX = 0 by rw [hOVX]; exact by (try unfold offS); (try unfold offV); (try unfold lastsN); first | rfl | omega | ((repeat' split) <;> first | rfl | omega))
        rw [← hSVX, ← hOVX]
        clear hSVX hOVX
        clear ha h3
        go_enter Tryd.func24, Tryd.ntmps24
        go_upto_region 1 with fail
        rw [← hW1]
        try rw [← hg]
        clear hW1 hg
        obtain ⟨W4, gr, hW4, hgr, R4, B4, sz4⟩ := box1 W1 #[.int .i64 0] 2
        have HGRL := Lib.hid (show w.heap.size ≤ gr by have := HB1.out.size; omega)
        have HGN := Lib.hid (show g ≠ gr by have := HG1.out.lt; omega)
        have HR4 := Lib.hid R4
        have HG4 := Lib.hid (HG1.out.keep B4)
        have HB4 := Lib.hid (HB1.out.trans (B4.mono HB1.out.size))
        clear R4 B4 sz4
        go_wp2_with fail
        rw [← hW4]
        try rw [← hgr]
        clear hW4 hgr
        refine (rbinary_any 0 _).mono ?_
        rintro e w5 ⟨rfl, hb⟩
        have HR5 := Lib.hid (HR4.out.keep hb)
        have HG5 := Lib.hid (HG4.out.keep hb)
        have HB5 := Lib.hid (HB4.out.trans (hb.mono HB4.out.size))
        clear hb
        have g_0 := HG5.out.c 0 _ rfl
        have g_1 := HG5.out.c 1 _ rfl
        have g_z := HG5.out.fz
        go_wp2_with fail
        have hs := HG5.out.setRow [.int .i64 2, .int .i64 0] rfl
        have hB := set_below HB5.out HWG.out [.int .i64 2, .int .i64 0]
        have y0 : ((w5.setCell ⟨g, 0, none⟩ (.int .i64 2)).setCell ⟨g, 1, none⟩ (.int .i64 0)).cell? ⟨g, 0, none⟩ = some (.int .i64 2) := hs.c 0 _ rfl
        have y1 : ((w5.setCell ⟨g, 0, none⟩ (.int .i64 2)).setCell ⟨g, 1, none⟩ (.int .i64 0)).cell? ⟨g, 1, none⟩ = some (.int .i64 0) := hs.c 1 _ rfl
        (try simp only [Exit.inBlock, Exit.then])
        refine bodyPost_ret (by simp [results, Tryd.results24, go_sem, y0, y1]; try rfl) rfl ?_
        rw [HS.out, HO.out]
        exact ⟨gr, rfl, HGRL.out, HR5.out.other HGN.out [.int .i64 2, .int .i64 0], hB⟩
      · have bx0 : (x == 0) = false := by rw [beq_eq_false_iff_ne]; omega
        by_cases h4 : p0 ≤ 0
        · obtain ⟨SVX, hSVX⟩ : ∃ zz, zz = ([offS a x p0 dt] : List Int) := ⟨_, rfl⟩
          obtain ⟨OVX, hOVX⟩ : ∃ zz, zz = (offV a x p0 dt : Int) := ⟨_, rfl⟩
          have HS := Lib.hid (show SVX = [0] by rw [hSVX, show offS a x p0 dt = 0 from by (try unfold offS); (try unfold offV); (try unfold lastsN); first | rfl | omega | ((repeat' split) <;> first | rfl | omega)])
          have HO := Lib.hid (show OVX = 0 by rw [hOVX]; exact by (try unfold offS); (try unfold offV); (try unfold lastsN); first | rfl | omega | ((repeat' split) <;> first | rfl | omega))
          rw [← hSVX, ← hOVX]
          clear hSVX hOVX
          clear ha h3
          go_enter Tryd.func24, Tryd.ntmps24
          go_upto_region 1 with fail
          rw [← hW1]
          try rw [← hg]
          clear hW1 hg
          obtain ⟨W4, gr, hW4, hgr, R4, B4, sz4⟩ := box1 W1 #[.int .i64 0] 2
          have HGRL := Lib.hid (show w.heap.size ≤ gr by have := HB1.out.size; omega)
          have HGN := Lib.hid (show g ≠ gr by have := HG1.out.lt; omega)
          have HR4 := Lib.hid R4
          have HG4 := Lib.hid (HG1.out.keep B4)
          have HB4 := Lib.hid (HB1.out.trans (B4.mono HB1.out.size))
          clear R4 B4 sz4
          go_wp2_with fail
          rw [← hW4]
          try rw [← hgr]
          clear hW4 hgr
          refine (rbinary_any 0 _).mono ?_
          rintro e w5 ⟨rfl, hb⟩
          have HR5 := Lib.hid (HR4.out.keep hb)
          have HG5 := Lib.hid (HG4.out.keep hb)
          have HB5 := Lib.hid (HB4.out.trans (hb.mono HB4.out.size))
          clear hb
          have g_0 := HG5.out.c 0 _ rfl
          have g_1 := HG5.out.c 1 _ rfl
          have g_z := HG5.out.fz
          go_wp2_with fail
          have hs := HG5.out.setRow [.int .i64 2, .int .i64 0] rfl
          have hB := set_below HB5.out HWG.out [.int .i64 2, .int .i64 0]
          have y0 : ((w5.setCell ⟨g, 0, none⟩ (.int .i64 2)).setCell ⟨g, 1, none⟩ (.int .i64 0)).cell? ⟨g, 0, none⟩ = some (.int .i64 2) := hs.c 0 _ rfl
          have y1 : ((w5.setCell ⟨g, 0, none⟩ (.int .i64 2)).setCell ⟨g, 1, none⟩ (.int .i64 0)).cell? ⟨g, 1, none⟩ = some (.int .i64 0) := hs.c 1 _ rfl
          (try simp only [Exit.inBlock, Exit.then])
          refine bodyPost_ret (by simp [results, Tryd.results24, go_sem, y0, y1]; try rfl) rfl ?_
          rw [HS.out, HO.out]
          exact ⟨gr, rfl, HGRL.out, HR5.out.other HGN.out [.int .i64 2, .int .i64 0], hB⟩
        · obtain ⟨SVX, hSVX⟩ : ∃ zz, zz = ([offS a x p0 dt] : List Int) := ⟨_, rfl⟩
          obtain ⟨OVX, hOVX⟩ : ∃ zz, zz = (offV a x p0 dt : Int) := ⟨_, rfl⟩
          have HS := Lib.hid (show SVX = [1] by rw [hSVX, show offS a x p0 dt = 1 from by (try unfold offS); (try unfold offV); (try unfold lastsN); first | rfl | omega | ((repeat' split) <;> first | rfl | omega)])
          have HO := Lib.hid (show OVX = 1 by rw [hOVX]; exact by (try unfold offS); (try unfold offV); (try unfold lastsN); first | rfl | omega | ((repeat' split) <;> first | rfl | omega))
          rw [← hSVX, ← hOVX]
          clear hSVX hOVX
          clear ha h3
          go_enter Tryd.func24, Tryd.ntmps24
          go_upto_region 1 with fail
          rw [← hW1]
          try rw [← hg]
          clear hW1 hg
          obtain ⟨W4, gr, hW4, hgr, R4, B4, sz4⟩ := box1 W1 #[.int .i64 1] 2
          have HGRL := Lib.hid (show w.heap.size ≤ gr by have := HB1.out.size; omega)
          have HGN := Lib.hid (show g ≠ gr by have := HG1.out.lt; omega)
          have HR4 := Lib.hid R4
          have HG4 := Lib.hid (HG1.out.keep B4)
          have HB4 := Lib.hid (HB1.out.trans (B4.mono HB1.out.size))
          clear R4 B4 sz4
          go_wp2_with fail
          rw [← hW4]
          try rw [← hgr]
          clear hW4 hgr
          refine (rbinary_any 1 _).mono ?_
          rintro e w5 ⟨rfl, hb⟩
          have HR5 := Lib.hid (HR4.out.keep hb)
          have HG5 := Lib.hid (HG4.out.keep hb)
          have HB5 := Lib.hid (HB4.out.trans (hb.mono HB4.out.size))
          clear hb
          have g_0 := HG5.out.c 0 _ rfl
          have g_1 := HG5.out.c 1 _ rfl
          have g_z := HG5.out.fz
          go_wp2_with fail
          have hs := HG5.out.setRow [.int .i64 2, .int .i64 1] rfl
          have hB := set_below HB5.out HWG.out [.int .i64 2, .int .i64 1]
          have y0 : ((w5.setCell ⟨g, 0, none⟩ (.int .i64 2)).setCell ⟨g, 1, none⟩ (.int .i64 1)).cell? ⟨g, 0, none⟩ = some (.int .i64 2) := hs.c 0 _ rfl
          have y1 : ((w5.setCell ⟨g, 0, none⟩ (.int .i64 2)).setCell ⟨g, 1, none⟩ (.int .i64 1)).cell? ⟨g, 1, none⟩ = some (.int .i64 1) := hs.c 1 _ rfl
          (try simp only [Exit.inBlock, Exit.then])
          refine bodyPost_ret (by simp [results, Tryd.results24, go_sem, y0, y1]; try rfl) rfl ?_
          rw [HS.out, HO.out]
          exact ⟨gr, rfl, HGRL.out, HR5.out.other HGN.out [.int .i64 2, .int .i64 1], hB⟩
set_option maxHeartbeats 4000000 in
set_option maxRecDepth 100000 in
theorem rstep_ondelay (pb po pc sb so sc vb vo vc : Nat) (p0 x a dt : Int) (w : World) (hdt : 1 ≤ dt ∧ dt ≤ 86400) (hr : 0 ≤ p0 ∧ p0 ≤ 86400) (hx0 : 0 ≤ x ∧ x ≤ p0 + 1) (ha0 : a = 0 ∨ a = 1) (q0 : w.cell? ⟨pb, po, none⟩ = some (.int .i64 p0)) (s0 : w.cell? ⟨sb, so, none⟩ = some (.int .i64 x)) (n0 : w.cell? ⟨vb, vo + 1, none⟩ = some (.int .i64 a)) :
    Calls Tryd.prog 24 #[.string ⟨#[111, 110, 100, 101, 108, 97, 121]⟩, .slice (some ⟨pb, po, none⟩) 1 pc, .slice (some ⟨sb, so, none⟩) 1 sc, .slice (some ⟨vb, vo, none⟩) 1 vc, .int .i64 dt] w fun e w' => ∃ gr, e = .returned (.tuple #[.slice (some ⟨gr, 0, none⟩) 1 1, .agg #[.int .i64 2, .int .i64 (onV a x p0 dt)]]) ∧ w.heap.size ≤ gr ∧ RowAt w' gr (flat iL [onS a x p0 dt]) ∧ Below w.heap.size w w' := by
  obtain ⟨W1, g, hW1, hg, RG, B1, sz1⟩ := box1 w #[.int .i64 0, .int .i64 0] 26
  have HG1 := Lib.hid RG
  have HB1 := Lib.hid B1
  have HWG := Lib.hid (show w.heap.size ≤ g by omega)
  have hsb : sb < w.heap.size := World.block_lt_of_cell? _ _ s0
  have hgw : g = w.heap.size := hg
  replace q0 := cellB q0 B1
  replace s0 := cellB s0 B1
  replace n0 := cellB n0 B1
  clear RG B1 sz1
  clear hsb hgw
  have e1 : IntKind.i64.wrap (x - 1) = x - 1 := IntWalk.i64_in _ (by omega)
  have e2 : IntKind.i64.wrap (x - 1 + dt) = x - 1 + dt := IntWalk.i64_in _ (by omega)
  have e3 : IntKind.i64.wrap (min (x - 1 + dt) p0 + 1) = min (x - 1 + dt) p0 + 1 := IntWalk.i64_in _ (by omega)
  by_cases ha : a = 0
  · have ba0 : (a == 0) = true := by rw [beq_iff_eq]; omega
    obtain ⟨SVX, hSVX⟩ : ∃ zz, zz = ([onS a x p0 dt] : List Int) := ⟨_, rfl⟩
    obtain ⟨OVX, hOVX⟩ : ∃ zz, zz = (onV a x p0 dt : Int) := ⟨_, rfl⟩
    have HS := Lib.hid (show SVX = [0] by rw [hSVX, show onS a x p0 dt = 0 from by (try unfold onS); (try unfold onV); first | rfl | omega | ((repeat' split) <;> first | rfl | omega)])
    have HO := Lib.hid (show OVX = 0 by rw [hOVX]; exact by (try unfold onS); (try unfold onV); first | rfl | omega | ((repeat' split) <;> first | rfl | omega))
    rw [← hSVX, ← hOVX]
    clear hSVX hOVX
    clear ha
    go_enter Tryd.func24, Tryd.ntmps24
    go_upto_region 1 with fail
    rw [← hW1]
    try rw [← hg]
    clear hW1 hg
    obtain ⟨W4, gr, hW4, hgr, R4, B4, sz4⟩ := box1 W1 #[.int .i64 0] 2
    have HGRL := Lib.hid (show w.heap.size ≤ gr by have := HB1.out.size; omega)
    have HGN := Lib.hid (show g ≠ gr by have := HG1.out.lt; omega)
    have HR4 := Lib.hid R4
    have HG4 := Lib.hid (HG1.out.keep B4)
    have HB4 := Lib.hid (HB1.out.trans (B4.mono HB1.out.size))
    clear R4 B4 sz4
    go_wp2_with fail
    rw [← hW4]
    try rw [← hgr]
    clear hW4 hgr
    refine (rbinary_any 0 _).mono ?_
    rintro e w5 ⟨rfl, hb⟩
    have HR5 := Lib.hid (HR4.out.keep hb)
    have HG5 := Lib.hid (HG4.out.keep hb)
    have HB5 := Lib.hid (HB4.out.trans (hb.mono HB4.out.size))
    clear hb
    have g_0 := HG5.out.c 0 _ rfl
    have g_1 := HG5.out.c 1 _ rfl
    have g_z := HG5.out.fz
    go_wp2_with fail
    have hs := HG5.out.setRow [.int .i64 2, .int .i64 0] rfl
    have hB := set_below HB5.out HWG.out [.int .i64 2, .int .i64 0]
    have y0 : ((w5.setCell ⟨g, 0, none⟩ (.int .i64 2)).setCell ⟨g, 1, none⟩ (.int .i64 0)).cell? ⟨g, 0, none⟩ = some (.int .i64 2) := hs.c 0 _ rfl
    have y1 : ((w5.setCell ⟨g, 0, none⟩ (.int .i64 2)).setCell ⟨g, 1, none⟩ (.int .i64 0)).cell? ⟨g, 1, none⟩ = some (.int .i64 0) := hs.c 1 _ rfl
    (try simp only [Exit.inBlock, Exit.then])
    refine bodyPost_ret (by simp [results, Tryd.results24, go_sem, y0, y1]; try rfl) rfl ?_
    rw [HS.out, HO.out]
    exact ⟨gr, rfl, HGRL.out, HR5.out.other HGN.out [.int .i64 2, .int .i64 0], hB⟩
  · have ba0 : (a == 0) = false := by rw [beq_eq_false_iff_ne]; omega
    by_cases hx : 0 < x
    · by_cases hm : min (x - 1 + dt) p0 = p0
      · have bmm : (min (x - 1 + dt) p0 == p0) = true := by rw [beq_iff_eq]; omega
        obtain ⟨SVX, hSVX⟩ : ∃ zz, zz = ([onS a x p0 dt] : List Int) := ⟨_, rfl⟩
        obtain ⟨OVX, hOVX⟩ : ∃ zz, zz = (onV a x p0 dt : Int) := ⟨_, rfl⟩
        have HS := Lib.hid (show SVX = [min (x - 1 + dt) p0 + 1] by rw [hSVX, show onS a x p0 dt = min (x - 1 + dt) p0 + 1 from by (try unfold onS); (try unfold onV); first | rfl | omega | ((repeat' split) <;> first | rfl | omega)])
        have HO := Lib.hid (show OVX = 1 by rw [hOVX]; exact by (try unfold onS); (try unfold onV); first | rfl | omega | ((repeat' split) <;> first | rfl | omega))
        rw [← hSVX, ← hOVX]
        clear hSVX hOVX
        clear ha hm
        go_enter Tryd.func24, Tryd.ntmps24
        go_upto_region 1 with fail
        rw [← hW1]
        try rw [← hg]
        clear hW1 hg
        go_wp2_with fail
        go_quiet (fail)
        obtain ⟨W2, hW2⟩ : ∃ x, x = W1.drewN nq := ⟨_, rfl⟩
        have hbd : Below W1.heap.size W1 W2 := by rw [hW2]; exact belowN _ _ _
        have HB2 := Lib.hid (HB1.out.trans (hbd.mono HB1.out.size))
        have HG2 := Lib.hid (HG1.out.keep hbd)
        have q0' := cellB q0 hbd
        rw [← hW2]
        clear hW2 hbd
        obtain ⟨W4, gr, hW4, hgr, R4, B4, sz4⟩ := box1 W2 #[.int .i64 (min (x - 1 + dt) p0 + 1)] 2
        have HGRL := Lib.hid (show w.heap.size ≤ gr by have := HB2.out.size; omega)
        have HGN := Lib.hid (show g ≠ gr by have := HG2.out.lt; omega)
        have HR4 := Lib.hid R4
        have HG4 := Lib.hid (HG2.out.keep B4)
        have HB4 := Lib.hid (HB2.out.trans (B4.mono HB2.out.size))
        clear R4 B4 sz4
        go_wp2_with fail
        rw [← hW4]
        try rw [← hgr]
        clear hW4 hgr
        refine (rbinary_any 1 _).mono ?_
        rintro e w5 ⟨rfl, hb⟩
        have HR5 := Lib.hid (HR4.out.keep hb)
        have HG5 := Lib.hid (HG4.out.keep hb)
        have HB5 := Lib.hid (HB4.out.trans (hb.mono HB4.out.size))
        clear hb
        have g_0 := HG5.out.c 0 _ rfl
        have g_1 := HG5.out.c 1 _ rfl
        have g_z := HG5.out.fz
        go_wp2_with fail
        have hs := HG5.out.setRow [.int .i64 2, .int .i64 1] rfl
        have hB := set_below HB5.out HWG.out [.int .i64 2, .int .i64 1]
        have y0 : ((w5.setCell ⟨g, 0, none⟩ (.int .i64 2)).setCell ⟨g, 1, none⟩ (.int .i64 1)).cell? ⟨g, 0, none⟩ = some (.int .i64 2) := hs.c 0 _ rfl
        have y1 : ((w5.setCell ⟨g, 0, none⟩ (.int .i64 2)).setCell ⟨g, 1, none⟩ (.int .i64 1)).cell? ⟨g, 1, none⟩ = some (.int .i64 1) := hs.c 1 _ rfl
        (try simp only [Exit.inBlock, Exit.then])
        refine bodyPost_ret (by simp [results, Tryd.results24, go_sem, y0, y1]; try rfl) rfl ?_
        rw [HS.out, HO.out]
        exact ⟨gr, rfl, HGRL.out, HR5.out.other HGN.out [.int .i64 2, .int .i64 1], hB⟩
      · have bmm : (min (x - 1 + dt) p0 == p0) = false := by rw [beq_eq_false_iff_ne]; omega
        obtain ⟨SVX, hSVX⟩ : ∃ zz, zz = ([onS a x p0 dt] : List Int) := ⟨_, rfl⟩
        obtain ⟨OVX, hOVX⟩ : ∃ zz, zz = (onV a x p0 dt : Int) := ⟨_, rfl⟩
        have HS := Lib.hid (show SVX = [min (x - 1 + dt) p0 + 1] by rw [hSVX, show onS a x p0 dt = min (x - 1 + dt) p0 + 1 from by (try unfold onS); (try unfold onV); first | rfl | omega | ((repeat' split) <;> first | rfl | omega)])
        have HO := Lib.hid (show OVX = 0 by rw [hOVX]; exact by (try unfold onS); (try unfold onV); first | rfl | omega | ((repeat' split) <;> first | rfl | omega))
        rw [← hSVX, ← hOVX]
        clear hSVX hOVX
        clear ha hm
        go_enter Tryd.func24, Tryd.ntmps24
        go_upto_region 1 with fail
        rw [← hW1]
        try rw [← hg]
        clear hW1 hg
        go_wp2_with fail
        go_quiet (fail)
        obtain ⟨W2, hW2⟩ : ∃ x, x = W1.drewN nq := ⟨_, rfl⟩
        have hbd : Below W1.heap.size W1 W2 := by rw [hW2]; exact belowN _ _ _
        have HB2 := Lib.hid (HB1.out.trans (hbd.mono HB1.out.size))
        have HG2 := Lib.hid (HG1.out.keep hbd)
        have q0' := cellB q0 hbd
        rw [← hW2]
        clear hW2 hbd
        obtain ⟨W4, gr, hW4, hgr, R4, B4, sz4⟩ := box1 W2 #[.int .i64 (min (x - 1 + dt) p0 + 1)] 2
        have HGRL := Lib.hid (show w.heap.size ≤ gr by have := HB2.out.size; omega)
        have HGN := Lib.hid (show g ≠ gr by have := HG2.out.lt; omega)
        have HR4 := Lib.hid R4
        have HG4 := Lib.hid (HG2.out.keep B4)
        have HB4 := Lib.hid (HB2.out.trans (B4.mono HB2.out.size))
        clear R4 B4 sz4
        go_wp2_with fail
        rw [← hW4]
        try rw [← hgr]
        clear hW4 hgr
        refine (rbinary_any 0 _).mono ?_
        rintro e w5 ⟨rfl, hb⟩
        have HR5 := Lib.hid (HR4.out.keep hb)
        have HG5 := Lib.hid (HG4.out.keep hb)
        have HB5 := Lib.hid (HB4.out.trans (hb.mono HB4.out.size))
        clear hb
        have g_0 := HG5.out.c 0 _ rfl
        have g_1 := HG5.out.c 1 _ rfl
        have g_z := HG5.out.fz
        go_wp2_with fail
        have hs := HG5.out.setRow [.int .i64 2, .int .i64 0] rfl
        have hB := set_below HB5.out HWG.out [.int .i64 2, .int .i64 0]
        have y0 : ((w5.setCell ⟨g, 0, none⟩ (.int .i64 2)).setCell ⟨g, 1, none⟩ (.int .i64 0)).cell? ⟨g, 0, none⟩ = some (.int .i64 2) := hs.c 0 _ rfl
        have y1 : ((w5.setCell ⟨g, 0, none⟩ (.int .i64 2)).setCell ⟨g, 1, none⟩ (.int .i64 0)).cell? ⟨g, 1, none⟩ = some (.int .i64 0) := hs.c 1 _ rfl
        (try simp only [Exit.inBlock, Exit.then])
        refine bodyPost_ret (by simp [results, Tryd.results24, go_sem, y0, y1]; try rfl) rfl ?_
        rw [HS.out, HO.out]
        exact ⟨gr, rfl, HGRL.out, HR5.out.other HGN.out [.int .i64 2, .int .i64 0], hB⟩
    · by_cases hz : 0 = p0
      · have bz : ((0 : Int) == p0) = true := by rw [beq_iff_eq]; omega
        obtain ⟨SVX, hSVX⟩ : ∃ zz, zz = ([onS a x p0 dt] : List Int) := ⟨_, rfl⟩
        obtain ⟨OVX, hOVX⟩ : ∃ zz, zz = (onV a x p0 dt : Int) := ⟨_, rfl⟩
        have HS := Lib.hid (show SVX = [1] by rw [hSVX, show onS a x p0 dt = 1 from by (try unfold onS); (try unfold onV); first | rfl | omega | ((repeat' split) <;> first | rfl | omega)])
        have HO := Lib.hid (show OVX = 1 by rw [hOVX]; exact by (try unfold onS); (try unfold onV); first | rfl | omega | ((repeat' split) <;> first | rfl | omega))
        rw [← hSVX, ← hOVX]
        clear hSVX hOVX
        clear ha hz
        go_enter Tryd.func24, Tryd.ntmps24
        go_upto_region 1 with fail
        rw [← hW1]
        try rw [← hg]
        clear hW1 hg
        obtain ⟨W4, gr, hW4, hgr, R4, B4, sz4⟩ := box1 W1 #[.int .i64 1] 2
        have HGRL := Lib.hid (show w.heap.size ≤ gr by have := HB1.out.size; omega)
        have HGN := Lib.hid (show g ≠ gr by have := HG1.out.lt; omega)
        have HR4 := Lib.hid R4
        have HG4 := Lib.hid (HG1.out.keep B4)
        have HB4 := Lib.hid (HB1.out.trans (B4.mono HB1.out.size))
        clear R4 B4 sz4
        go_wp2_with fail
        rw [← hW4]
        try rw [← hgr]
        clear hW4 hgr
        refine (rbinary_any 1 _).mono ?_
        rintro e w5 ⟨rfl, hb⟩
        have HR5 := Lib.hid (HR4.out.keep hb)
        have HG5 := Lib.hid (HG4.out.keep hb)
        have HB5 := Lib.hid (HB4.out.trans (hb.mono HB4.out.size))
        clear hb
        have g_0 := HG5.out.c 0 _ rfl
        have g_1 := HG5.out.c 1 _ rfl
        have g_z := HG5.out.fz
        go_wp2_with fail
        have hs := HG5.out.setRow [.int .i64 2, .int .i64 1] rfl
        have hB := set_below HB5.out HWG.out [.int .i64 2, .int .i64 1]
        have y0 : ((w5.setCell ⟨g, 0, none⟩ (.int .i64 2)).setCell ⟨g, 1, none⟩ (.int .i64 1)).cell? ⟨g, 0, none⟩ = some (.int .i64 2) := hs.c 0 _ rfl
        have y1 : ((w5.setCell ⟨g, 0, none⟩ (.int .i64 2)).setCell ⟨g, 1, none⟩ (.int .i64 1)).cell? ⟨g, 1, none⟩ = some (.int .i64 1) := hs.c 1 _ rfl
        (try simp only [Exit.inBlock, Exit.then])
        refine bodyPost_ret (by simp [results, Tryd.results24, go_sem, y0, y1]; try rfl) rfl ?_
        rw [HS.out, HO.out]
        exact ⟨gr, rfl, HGRL.out, HR5.out.other HGN.out [.int .i64 2, .int .i64 1], hB⟩
      · have bz : ((0 : Int) == p0) = false := by rw [beq_eq_false_iff_ne]; omega
        obtain ⟨SVX, hSVX⟩ : ∃ zz, zz = ([onS a x p0 dt] : List Int) := ⟨_, rfl⟩
        obtain ⟨OVX, hOVX⟩ : ∃ zz, zz = (onV a x p0 dt : Int) := ⟨_, rfl⟩
        have HS := Lib.hid (show SVX = [1] by rw [hSVX, show onS a x p0 dt = 1 from by (try unfold onS); (try unfold onV); first | rfl | omega | ((repeat' split) <;> first | rfl | omega)])
        have HO := Lib.hid (show OVX = 0 by rw [hOVX]; exact by (try unfold onS); (try unfold onV); first | rfl | omega | ((repeat' split) <;> first | rfl | omega))
        rw [← hSVX, ← hOVX]
        clear hSVX hOVX
        clear ha hz
        go_enter Tryd.func24, Tryd.ntmps24
        go_upto_region 1 with fail
        rw [← hW1]
        try rw [← hg]
        clear hW1 hg
        obtain ⟨W4, gr, hW4, hgr, R4, B4, sz4⟩ := box1 W1 #[.int .i64 1] 2
        have HGRL := Lib.hid (show w.heap.size ≤ gr by have := HB1.out.size; omega)
        have HGN := Lib.hid (show g ≠ gr by have := HG1.out.lt; omega)
        have HR4 := Lib.hid R4
        have HG4 := Lib.hid (HG1.out.keep B4)
        have HB4 := Lib.hid (HB1.out.trans (B4.mono HB1.out.size))
        clear R4 B4 sz4
        go_wp2_with fail
        rw [← hW4]
        try rw [← hgr]
        clear hW4 hgr
        refine (rbinary_any 0 _).mono ?_
        rintro e w5 ⟨rfl, hb⟩
        have HR5 := Lib.hid (HR4.out.keep hb)
        have HG5 := Lib.hid (HG4.out.keep hb)
        have HB5 := Lib.hid (HB4.out.trans (hb.mono HB4.out.size))
        clear hb
        have g_0 := HG5.out.c 0 _ rfl
        have g_1 := HG5.out.c 1 _ rfl
        have g_z := HG5.out.fz
        go_wp2_with fail
        have hs := HG5.out.setRow [.int .i64 2, .int .i64 0] rfl
        have hB := set_below HB5.out HWG.out [.int .i64 2, .int .i64 0]
        have y0 : ((w5.setCell ⟨g, 0, none⟩ (.int .i64 2)).setCell ⟨g, 1, none⟩ (.int .i64 0)).cell? ⟨g, 0, none⟩ = some (.int .i64 2) := hs.c 0 _ rfl
        have y1 : ((w5.setCell ⟨g, 0, none⟩ (.int .i64 2)).setCell ⟨g, 1, none⟩ (.int .i64 0)).cell? ⟨g, 1, none⟩ = some (.int .i64 0) := hs.c 1 _ rfl
        (try simp only [Exit.inBlock, Exit.then])
        refine bodyPost_ret (by simp [results, Tryd.results24, go_sem, y0, y1]; try rfl) rfl ?_
        rw [HS.out, HO.out]
        exact ⟨gr, rfl, HGRL.out, HR5.out.other HGN.out [.int .i64 2, .int .i64 0], hB⟩
set_option maxHeartbeats 4000000 in
set_option maxRecDepth 100000 in
theorem rstep_pulse (pb po pc sb so sc vb vo vc : Nat) (p0 x y a dt : Int) (w : World) (hdt : 1 ≤ dt ∧ dt ≤ 86400) (hr : 0 ≤ p0 ∧ p0 ≤ 86400) (hy : 0 ≤ y ∧ y ≤ p0) (q0 : w.cell? ⟨pb, po, none⟩ = some (.int .i64 p0)) (s0 : w.cell? ⟨sb, so, none⟩ = some (.int .i64 x)) (s1 : w.cell? ⟨sb, so + 1, none⟩ = some (.int .i64 y)) (n0 : w.cell? ⟨vb, vo + 1, none⟩ = some (.int .i64 a)) :
    Calls Tryd.prog 24 #[.string ⟨#[112, 117, 108, 115, 101]⟩, .slice (some ⟨pb, po, none⟩) 1 pc, .slice (some ⟨sb, so, none⟩) 2 sc, .slice (some ⟨vb, vo, none⟩) 1 vc, .int .i64 dt] w fun e w' => ∃ gr, e = .returned (.tuple #[.slice (some ⟨gr, 0, none⟩) 2 2, .agg #[.int .i64 2, .int .i64 (pulV a x y p0 dt)]]) ∧ w.heap.size ≤ gr ∧ RowAt w' gr (flat iL [a, pulS a x y p0 dt]) ∧ Below w.heap.size w w' := by
  obtain ⟨W1, g, hW1, hg, RG, B1, sz1⟩ := box1 w #[.int .i64 0, .int .i64 0] 26
  have HG1 := Lib.hid RG
  have HB1 := Lib.hid B1
  have HWG := Lib.hid (show w.heap.size ≤ g by omega)
  have hsb : sb < w.heap.size := World.block_lt_of_cell? _ _ s0
  have hgw : g = w.heap.size := hg
  replace q0 := cellB q0 B1
  replace s0 := cellB s0 B1
  replace s1 := cellB s1 B1
  replace n0 := cellB n0 B1
  clear RG B1 sz1
  clear hsb hgw
  have e1 : IntKind.i64.wrap (y - 1) = y - 1 := IntWalk.i64_in _ (by omega)
  have e2 : IntKind.i64.wrap (y - 1 + dt) = y - 1 + dt := IntWalk.i64_in _ (by omega)
  have e3 : IntKind.i64.wrap (y - 1 + dt + 1) = y - 1 + dt + 1 := IntWalk.i64_in _ (by omega)
  by_cases ha : a = 1
  · have ba1 : (a == 1) = true := by rw [beq_iff_eq]; omega
    by_cases hx : x = 0
    · have bx0 : (x == 0) = true := by rw [beq_iff_eq]; omega
      by_cases h2 : 0 < p0
      · obtain ⟨SVX, hSVX⟩ : ∃ zz, zz = ([a, pulS a x y p0 dt] : List Int) := ⟨_, rfl⟩
        obtain ⟨OVX, hOVX⟩ : ∃ zz, zz = (pulV a x y p0 dt : Int) := ⟨_, rfl⟩
        have HS := Lib.hid (show SVX = [a, 1] by rw [hSVX, show pulS a x y p0 dt = 1 from by (try unfold pulS); (try unfold pulV); (try unfold lastsN); first | rfl | omega | ((repeat' split) <;> first | rfl | omega)])
        have HO := Lib.hid (show OVX = 1 by rw [hOVX]; exact by (try unfold pulS); (try unfold pulV); (try unfold lastsN); first | rfl | omega | ((repeat' split) <;> first | rfl | omega))
        rw [← hSVX, ← hOVX]
        clear hSVX hOVX
        clear ha hx
        go_enter Tryd.func24, Tryd.ntmps24
        go_upto_region 1 with fail
        rw [← hW1]
        try rw [← hg]
        clear hW1 hg
        obtain ⟨W4, gr, hW4, hgr, R4, B4, sz4⟩ := box1 W1 #[.int .i64 a, .int .i64 1] 2
        have HGRL := Lib.hid (show w.heap.size ≤ gr by have := HB1.out.size; omega)
        have HGN := Lib.hid (show g ≠ gr by have := HG1.out.lt; omega)
        have HR4 := Lib.hid R4
        have HG4 := Lib.hid (HG1.out.keep B4)
        have HB4 := Lib.hid (HB1.out.trans (B4.mono HB1.out.size))
        clear R4 B4 sz4
        go_wp2_with fail
        rw [← hW4]
        try rw [← hgr]
        clear hW4 hgr
        refine (rbinary_any 1 _).mono ?_
        rintro e w5 ⟨rfl, hb⟩
        have HR5 := Lib.hid (HR4.out.keep hb)
        have HG5 := Lib.hid (HG4.out.keep hb)
        have HB5 := Lib.hid (HB4.out.trans (hb.mono HB4.out.size))
        clear hb
        have g_0 := HG5.out.c 0 _ rfl
        have g_1 := HG5.out.c 1 _ rfl
        have g_z := HG5.out.fz
        go_wp2_with fail
        have hs := HG5.out.setRow [.int .i64 2, .int .i64 1] rfl
        have hB := set_below HB5.out HWG.out [.int .i64 2, .int .i64 1]
        have y0 : ((w5.setCell ⟨g, 0, none⟩ (.int .i64 2)).setCell ⟨g, 1, none⟩ (.int .i64 1)).cell? ⟨g, 0, none⟩ = some (.int .i64 2) := hs.c 0 _ rfl
        have y1 : ((w5.setCell ⟨g, 0, none⟩ (.int .i64 2)).setCell ⟨g, 1, none⟩ (.int .i64 1)).cell? ⟨g, 1, none⟩ = some (.int .i64 1) := hs.c 1 _ rfl
        (try simp only [Exit.inBlock, Exit.then])
        refine bodyPost_ret (by simp [results, Tryd.results24, go_sem, y0, y1]; try rfl) rfl ?_
        rw [HS.out, HO.out]
        exact ⟨gr, rfl, HGRL.out, HR5.out.other HGN.out [.int .i64 2, .int .i64 1], hB⟩
      · obtain ⟨SVX, hSVX⟩ : ∃ zz, zz = ([a, pulS a x y p0 dt] : List Int) := ⟨_, rfl⟩
        obtain ⟨OVX, hOVX⟩ : ∃ zz, zz = (pulV a x y p0 dt : Int) := ⟨_, rfl⟩
        have HS := Lib.hid (show SVX = [a, 0] by rw [hSVX, show pulS a x y p0 dt = 0 from by (try unfold pulS); (try unfold pulV); (try unfold lastsN); first | rfl | omega | ((repeat' split) <;> first | rfl | omega)])
        have HO := Lib.hid (show OVX = 0 by rw [hOVX]; exact by (try unfold pulS); (try unfold pulV); (try unfold lastsN); first | rfl | omega | ((repeat' split) <;> first | rfl | omega))
        rw [← hSVX, ← hOVX]
        clear hSVX hOVX
        clear ha hx
        go_enter Tryd.func24, Tryd.ntmps24
        go_upto_region 1 with fail
        rw [← hW1]
        try rw [← hg]
        clear hW1 hg
        obtain ⟨W4, gr, hW4, hgr, R4, B4, sz4⟩ := box1 W1 #[.int .i64 a, .int .i64 0] 2
        have HGRL := Lib.hid (show w.heap.size ≤ gr by have := HB1.out.size; omega)
        have HGN := Lib.hid (show g ≠ gr by have := HG1.out.lt; omega)
        have HR4 := Lib.hid R4
        have HG4 := Lib.hid (HG1.out.keep B4)
        have HB4 := Lib.hid (HB1.out.trans (B4.mono HB1.out.size))
        clear R4 B4 sz4
        go_wp2_with fail
        rw [← hW4]
        try rw [← hgr]
        clear hW4 hgr
        refine (rbinary_any 0 _).mono ?_
        rintro e w5 ⟨rfl, hb⟩
        have HR5 := Lib.hid (HR4.out.keep hb)
        have HG5 := Lib.hid (HG4.out.keep hb)
        have HB5 := Lib.hid (HB4.out.trans (hb.mono HB4.out.size))
        clear hb
        have g_0 := HG5.out.c 0 _ rfl
        have g_1 := HG5.out.c 1 _ rfl
        have g_z := HG5.out.fz
        go_wp2_with fail
        have hs := HG5.out.setRow [.int .i64 2, .int .i64 0] rfl
        have hB := set_below HB5.out HWG.out [.int .i64 2, .int .i64 0]
        have y0 : ((w5.setCell ⟨g, 0, none⟩ (.int .i64 2)).setCell ⟨g, 1, none⟩ (.int .i64 0)).cell? ⟨g, 0, none⟩ = some (.int .i64 2) := hs.c 0 _ rfl
        have y1 : ((w5.setCell ⟨g, 0, none⟩ (.int .i64 2)).setCell ⟨g, 1, none⟩ (.int .i64 0)).cell? ⟨g, 1, none⟩ = some (.int .i64 0) := hs.c 1 _ rfl
        (try simp only [Exit.inBlock, Exit.then])
        refine bodyPost_ret (by simp [results, Tryd.results24, go_sem, y0, y1]; try rfl) rfl ?_
        rw [HS.out, HO.out]
        exact ⟨gr, rfl, HGRL.out, HR5.out.other HGN.out [.int .i64 2, .int .i64 0], hB⟩
    · have bx0 : (x == 0) = false := by rw [beq_eq_false_iff_ne]; omega
      by_cases hy : 0 < y
      · by_cases h2 : y - 1 + dt < p0
        · obtain ⟨SVX, hSVX⟩ : ∃ zz, zz = ([a, pulS a x y p0 dt] : List Int) := ⟨_, rfl⟩
          obtain ⟨OVX, hOVX⟩ : ∃ zz, zz = (pulV a x y p0 dt : Int) := ⟨_, rfl⟩
          have HS := Lib.hid (show SVX = [a, y - 1 + dt + 1] by rw [hSVX, show pulS a x y p0 dt = y - 1 + dt + 1 from by (try unfold pulS); (try unfold pulV); (try unfold lastsN); first | rfl | omega | ((repeat' split) <;> first | rfl | omega)])
          have HO := Lib.hid (show OVX = 1 by rw [hOVX]; exact by (try unfold pulS); (try unfold pulV); (try unfold lastsN); first | rfl | omega | ((repeat' split) <;> first | rfl | omega))
          rw [← hSVX, ← hOVX]
          clear hSVX hOVX
          clear ha hx
          go_enter Tryd.func24, Tryd.ntmps24
          go_upto_region 1 with fail
          rw [← hW1]
          try rw [← hg]
          clear hW1 hg
          obtain ⟨W4, gr, hW4, hgr, R4, B4, sz4⟩ := box1 W1 #[.int .i64 a, .int .i64 (y - 1 + dt + 1)] 2
          have HGRL := Lib.hid (show w.heap.size ≤ gr by have := HB1.out.size; omega)
          have HGN := Lib.hid (show g ≠ gr by have := HG1.out.lt; omega)
          have HR4 := Lib.hid R4
          have HG4 := Lib.hid (HG1.out.keep B4)
          have HB4 := Lib.hid (HB1.out.trans (B4.mono HB1.out.size))
          clear R4 B4 sz4
          go_wp2_with fail
          rw [← hW4]
          try rw [← hgr]
          clear hW4 hgr
          refine (rbinary_any 1 _).mono ?_
          rintro e w5 ⟨rfl, hb⟩
          have HR5 := Lib.hid (HR4.out.keep hb)
          have HG5 := Lib.hid (HG4.out.keep hb)
          have HB5 := Lib.hid (HB4.out.trans (hb.mono HB4.out.size))
          clear hb
          have g_0 := HG5.out.c 0 _ rfl
          have g_1 := HG5.out.c 1 _ rfl
          have g_z := HG5.out.fz
          go_wp2_with fail
          have hs := HG5.out.setRow [.int .i64 2, .int .i64 1] rfl
          have hB := set_below HB5.out HWG.out [.int .i64 2, .int .i64 1]
          have y0 : ((w5.setCell ⟨g, 0, none⟩ (.int .i64 2)).setCell ⟨g, 1, none⟩ (.int .i64 1)).cell? ⟨g, 0, none⟩ = some (.int .i64 2) := hs.c 0 _ rfl
          have y1 : ((w5.setCell ⟨g, 0, none⟩ (.int .i64 2)).setCell ⟨g, 1, none⟩ (.int .i64 1)).cell? ⟨g, 1, none⟩ = some (.int .i64 1) := hs.c 1 _ rfl
          (try simp only [Exit.inBlock, Exit.then])
          refine bodyPost_ret (by simp [results, Tryd.results24, go_sem, y0, y1]; try rfl) rfl ?_
          rw [HS.out, HO.out]
          exact ⟨gr, rfl, HGRL.out, HR5.out.other HGN.out [.int .i64 2, .int .i64 1], hB⟩
        · obtain ⟨SVX, hSVX⟩ : ∃ zz, zz = ([a, pulS a x y p0 dt] : List Int) := ⟨_, rfl⟩
          obtain ⟨OVX, hOVX⟩ : ∃ zz, zz = (pulV a x y p0 dt : Int) := ⟨_, rfl⟩
          have HS := Lib.hid (show SVX = [a, 0] by rw [hSVX, show pulS a x y p0 dt = 0 from by (try unfold pulS); (try unfold pulV); (try unfold lastsN); first | rfl | omega | ((repeat' split) <;> first | rfl | omega)])
          have HO := Lib.hid (show OVX = 0 by rw [hOVX]; exact by (try unfold pulS); (try unfold pulV); (try unfold lastsN); first | rfl | omega | ((repeat' split) <;> first | rfl | omega))
          rw [← hSVX, ← hOVX]
          clear hSVX hOVX
          clear ha hx
          go_enter Tryd.func24, Tryd.ntmps24
          go_upto_region 1 with fail
          rw [← hW1]
          try rw [← hg]
          clear hW1 hg
          obtain ⟨W4, gr, hW4, hgr, R4, B4, sz4⟩ := box1 W1 #[.int .i64 a, .int .i64 0] 2
          have HGRL := Lib.hid (show w.heap.size ≤ gr by have := HB1.out.size; omega)
          have HGN := Lib.hid (show g ≠ gr by have := HG1.out.lt; omega)
          have HR4 := Lib.hid R4
          have HG4 := Lib.hid (HG1.out.keep B4)
          have HB4 := Lib.hid (HB1.out.trans (B4.mono HB1.out.size))
          clear R4 B4 sz4
          go_wp2_with fail
          rw [← hW4]
          try rw [← hgr]
          clear hW4 hgr
          refine (rbinary_any 0 _).mono ?_
          rintro e w5 ⟨rfl, hb⟩
          have HR5 := Lib.hid (HR4.out.keep hb)
          have HG5 := Lib.hid (HG4.out.keep hb)
          have HB5 := Lib.hid (HB4.out.trans (hb.mono HB4.out.size))
          clear hb
          have g_0 := HG5.out.c 0 _ rfl
          have g_1 := HG5.out.c 1 _ rfl
          have g_z := HG5.out.fz
          go_wp2_with fail
          have hs := HG5.out.setRow [.int .i64 2, .int .i64 0] rfl
          have hB := set_below HB5.out HWG.out [.int .i64 2, .int .i64 0]
          have y0 : ((w5.setCell ⟨g, 0, none⟩ (.int .i64 2)).setCell ⟨g, 1, none⟩ (.int .i64 0)).cell? ⟨g, 0, none⟩ = some (.int .i64 2) := hs.c 0 _ rfl
          have y1 : ((w5.setCell ⟨g, 0, none⟩ (.int .i64 2)).setCell ⟨g, 1, none⟩ (.int .i64 0)).cell? ⟨g, 1, none⟩ = some (.int .i64 0) := hs.c 1 _ rfl
          (try simp only [Exit.inBlock, Exit.then])
          refine bodyPost_ret (by simp [results, Tryd.results24, go_sem, y0, y1]; try rfl) rfl ?_
          rw [HS.out, HO.out]
          exact ⟨gr, rfl, HGRL.out, HR5.out.other HGN.out [.int .i64 2, .int .i64 0], hB⟩
      · obtain ⟨SVX, hSVX⟩ : ∃ zz, zz = ([a, pulS a x y p0 dt] : List Int) := ⟨_, rfl⟩
        obtain ⟨OVX, hOVX⟩ : ∃ zz, zz = (pulV a x y p0 dt : Int) := ⟨_, rfl⟩
        have HS := Lib.hid (show SVX = [a, 0] by rw [hSVX, show pulS a x y p0 dt = 0 from by (try unfold pulS); (try unfold pulV); (try unfold lastsN); first | rfl | omega | ((repeat' split) <;> first | rfl | omega)])
        have HO := Lib.hid (show OVX = 0 by rw [hOVX]; exact by (try unfold pulS); (try unfold pulV); (try unfold lastsN); first | rfl | omega | ((repeat' split) <;> first | rfl | omega))
        rw [← hSVX, ← hOVX]
        clear hSVX hOVX
        clear ha hx
        go_enter Tryd.func24, Tryd.ntmps24
        go_upto_region 1 with fail
        rw [← hW1]
        try rw [← hg]
        clear hW1 hg
        obtain ⟨W4, gr, hW4, hgr, R4, B4, sz4⟩ := box1 W1 #[.int .i64 a, .int .i64 0] 2
        have HGRL := Lib.hid (show w.heap.size ≤ gr by have := HB1.out.size; omega)
        have HGN := Lib.hid (show g ≠ gr by have := HG1.out.lt; omega)
        have HR4 := Lib.hid R4
        have HG4 := Lib.hid (HG1.out.keep B4)
        have HB4 := Lib.hid (HB1.out.trans (B4.mono HB1.out.size))
        clear R4 B4 sz4
        go_wp2_with fail
        rw [← hW4]
        try rw [← hgr]
        clear hW4 hgr
        refine (rbinary_any 0 _).mono ?_
        rintro e w5 ⟨rfl, hb⟩
        have HR5 := Lib.hid (HR4.out.keep hb)
        have HG5 := Lib.hid (HG4.out.keep hb)
        have HB5 := Lib.hid (HB4.out.trans (hb.mono HB4.out.size))
        clear hb
        have g_0 := HG5.out.c 0 _ rfl
        have g_1 := HG5.out.c 1 _ rfl
        have g_z := HG5.out.fz
        go_wp2_with fail
        have hs := HG5.out.setRow [.int .i64 2, .int .i64 0] rfl
        have hB := set_below HB5.out HWG.out [.int .i64 2, .int .i64 0]
        have y0 : ((w5.setCell ⟨g, 0, none⟩ (.int .i64 2)).setCell ⟨g, 1, none⟩ (.int .i64 0)).cell? ⟨g, 0, none⟩ = some (.int .i64 2) := hs.c 0 _ rfl
        have y1 : ((w5.setCell ⟨g, 0, none⟩ (.int .i64 2)).setCell ⟨g, 1, none⟩ (.int .i64 0)).cell? ⟨g, 1, none⟩ = some (.int .i64 0) := hs.c 1 _ rfl
        (try simp only [Exit.inBlock, Exit.then])
        refine bodyPost_ret (by simp [results, Tryd.results24, go_sem, y0, y1]; try rfl) rfl ?_
        rw [HS.out, HO.out]
        exact ⟨gr, rfl, HGRL.out, HR5.out.other HGN.out [.int .i64 2, .int .i64 0], hB⟩
  · have ba1 : (a == 1) = false := by rw [beq_eq_false_iff_ne]; omega
    by_cases hy : 0 < y
    · by_cases h2 : y - 1 + dt < p0
      · obtain ⟨SVX, hSVX⟩ : ∃ zz, zz = ([a, pulS a x y p0 dt] : List Int) := ⟨_, rfl⟩
        obtain ⟨OVX, hOVX⟩ : ∃ zz, zz = (pulV a x y p0 dt : Int) := ⟨_, rfl⟩
        have HS := Lib.hid (show SVX = [a, y - 1 + dt + 1] by rw [hSVX, show pulS a x y p0 dt = y - 1 + dt + 1 from by (try unfold pulS); (try unfold pulV); (try unfold lastsN); first | rfl | omega | ((repeat' split) <;> first | rfl | omega)])
        have HO := Lib.hid (show OVX = 1 by rw [hOVX]; exact by (try unfold pulS); (try unfold pulV); (try unfold lastsN); first | rfl | omega | ((repeat' split) <;> first | rfl | omega))
        rw [← hSVX, ← hOVX]
        clear hSVX hOVX
        clear ha
        go_enter Tryd.func24, Tryd.ntmps24
        go_upto_region 1 with fail
        rw [← hW1]
        try rw [← hg]
        clear hW1 hg
        obtain ⟨W4, gr, hW4, hgr, R4, B4, sz4⟩ := box1 W1 #[.int .i64 a, .int .i64 (y - 1 + dt + 1)] 2
        have HGRL := Lib.hid (show w.heap.size ≤ gr by have := HB1.out.size; omega)
        have HGN := Lib.hid (show g ≠ gr by have := HG1.out.lt; omega)
        have HR4 := Lib.hid R4
        have HG4 := Lib.hid (HG1.out.keep B4)
        have HB4 := Lib.hid (HB1.out.trans (B4.mono HB1.out.size))
        clear R4 B4 sz4
        go_wp2_with fail
        rw [← hW4]
        try rw [← hgr]
        clear hW4 hgr
        refine (rbinary_any 1 _).mono ?_
        rintro e w5 ⟨rfl, hb⟩
        have HR5 := Lib.hid (HR4.out.keep hb)
        have HG5 := Lib.hid (HG4.out.keep hb)
        have HB5 := Lib.hid (HB4.out.trans (hb.mono HB4.out.size))
        clear hb
        have g_0 := HG5.out.c 0 _ rfl
        have g_1 := HG5.out.c 1 _ rfl
        have g_z := HG5.out.fz
        go_wp2_with fail
        have hs := HG5.out.setRow [.int .i64 2, .int .i64 1] rfl
        have hB := set_below HB5.out HWG.out [.int .i64 2, .int .i64 1]
        have y0 : ((w5.setCell ⟨g, 0, none⟩ (.int .i64 2)).setCell ⟨g, 1, none⟩ (.int .i64 1)).cell? ⟨g, 0, none⟩ = some (.int .i64 2) := hs.c 0 _ rfl
        have y1 : ((w5.setCell ⟨g, 0, none⟩ (.int .i64 2)).setCell ⟨g, 1, none⟩ (.int .i64 1)).cell? ⟨g, 1, none⟩ = some (.int .i64 1) := hs.c 1 _ rfl
        (try simp only [Exit.inBlock, Exit.then])
        refine bodyPost_ret (by simp [results, Tryd.results24, go_sem, y0, y1]; try rfl) rfl ?_
        rw [HS.out, HO.out]
        exact ⟨gr, rfl, HGRL.out, HR5.out.other HGN.out [.int .i64 2, .int .i64 1], hB⟩
      · obtain ⟨SVX, hSVX⟩ : ∃ zz, zz = ([a, pulS a x y p0 dt] : List Int) := ⟨_, rfl⟩
        obtain ⟨OVX, hOVX⟩ : ∃ zz, zz = (pulV a x y p0 dt : Int) := ⟨_, rfl⟩
        have HS := Lib.hid (show SVX = [a, 0] by rw [hSVX, show pulS a x y p0 dt = 0 from by (try unfold pulS); (try unfold pulV); (try unfold lastsN); first | rfl | omega | ((repeat' split) <;> first | rfl | omega)])
        have HO := Lib.hid (show OVX = 0 by rw [hOVX]; exact by (try unfold pulS); (try unfold pulV); (try unfold lastsN); first | rfl | omega | ((repeat' split) <;> first | rfl | omega))
        rw [← hSVX, ← hOVX]
        clear hSVX hOVX
        clear ha
        go_enter Tryd.func24, Tryd.ntmps24
        go_upto_region 1 with fail
        rw [← hW1]
        try rw [← hg]
        clear hW1 hg
        obtain ⟨W4, gr, hW4, hgr, R4, B4, sz4⟩ := box1 W1 #[.int .i64 a, .int .i64 0] 2
        have HGRL := Lib.hid (show w.heap.size ≤ gr by have := HB1.out.size; omega)
        have HGN := Lib.hid (show g ≠ gr by have := HG1.out.lt; omega)
        have HR4 := Lib.hid R4
        have HG4 := Lib.hid (HG1.out.keep B4)
        have HB4 := Lib.hid (HB1.out.trans (B4.mono HB1.out.size))
        clear R4 B4 sz4
        go_wp2_with fail
        rw [← hW4]
        try rw [← hgr]
        clear hW4 hgr
        refine (rbinary_any 0 _).mono ?_
        rintro e w5 ⟨rfl, hb⟩
        have HR5 := Lib.hid (HR4.out.keep hb)
        have HG5 := Lib.hid (HG4.out.keep hb)
        have HB5 := Lib.hid (HB4.out.trans (hb.mono HB4.out.size))
        clear hb
        have g_0 := HG5.out.c 0 _ rfl
        have g_1 := HG5.out.c 1 _ rfl
        have g_z := HG5.out.fz
        go_wp2_with fail
        have hs := HG5.out.setRow [.int .i64 2, .int .i64 0] rfl
        have hB := set_below HB5.out HWG.out [.int .i64 2, .int .i64 0]
        have y0 : ((w5.setCell ⟨g, 0, none⟩ (.int .i64 2)).setCell ⟨g, 1, none⟩ (.int .i64 0)).cell? ⟨g, 0, none⟩ = some (.int .i64 2) := hs.c 0 _ rfl
        have y1 : ((w5.setCell ⟨g, 0, none⟩ (.int .i64 2)).setCell ⟨g, 1, none⟩ (.int .i64 0)).cell? ⟨g, 1, none⟩ = some (.int .i64 0) := hs.c 1 _ rfl
        (try simp only [Exit.inBlock, Exit.then])
        refine bodyPost_ret (by simp [results, Tryd.results24, go_sem, y0, y1]; try rfl) rfl ?_
        rw [HS.out, HO.out]
        exact ⟨gr, rfl, HGRL.out, HR5.out.other HGN.out [.int .i64 2, .int .i64 0], hB⟩
    · obtain ⟨SVX, hSVX⟩ : ∃ zz, zz = ([a, pulS a x y p0 dt] : List Int) := ⟨_, rfl⟩
      obtain ⟨OVX, hOVX⟩ : ∃ zz, zz = (pulV a x y p0 dt : Int) := ⟨_, rfl⟩
      have HS := Lib.hid (show SVX = [a, 0] by rw [hSVX, show pulS a x y p0 dt = 0 from by (try unfold pulS); (try unfold pulV); (try unfold lastsN); first | rfl | omega | ((repeat' split) <;> first | rfl | omega)])
      have HO := Lib.hid (show OVX = 0 by rw [hOVX]; exact by (try unfold pulS); (try unfold pulV); (try unfold lastsN); first | rfl | omega | ((repeat' split) <;> first | rfl | omega))
      rw [← hSVX, ← hOVX]
      clear hSVX hOVX
      clear ha
      go_enter Tryd.func24, Tryd.ntmps24
      go_upto_region 1 with fail
      rw [← hW1]
      try rw [← hg]
      clear hW1 hg
      obtain ⟨W4, gr, hW4, hgr, R4, B4, sz4⟩ := box1 W1 #[.int .i64 a, .int .i64 0] 2
      have HGRL := Lib.hid (show w.heap.size ≤ gr by have := HB1.out.size; omega)
      have HGN := Lib.hid (show g ≠ gr by have := HG1.out.lt; omega)
      have HR4 := Lib.hid R4
      have HG4 := Lib.hid (HG1.out.keep B4)
      have HB4 := Lib.hid (HB1.out.trans (B4.mono HB1.out.size))
      clear R4 B4 sz4
      go_wp2_with fail
      rw [← hW4]
      try rw [← hgr]
      clear hW4 hgr
      refine (rbinary_any 0 _).mono ?_
      rintro e w5 ⟨rfl, hb⟩
      have HR5 := Lib.hid (HR4.out.keep hb)
      have HG5 := Lib.hid (HG4.out.keep hb)
      have HB5 := Lib.hid (HB4.out.trans (hb.mono HB4.out.size))
      clear hb
      have g_0 := HG5.out.c 0 _ rfl
      have g_1 := HG5.out.c 1 _ rfl
      have g_z := HG5.out.fz
      go_wp2_with fail
      have hs := HG5.out.setRow [.int .i64 2, .int .i64 0] rfl
      have hB := set_below HB5.out HWG.out [.int .i64 2, .int .i64 0]
      have y0 : ((w5.setCell ⟨g, 0, none⟩ (.int .i64 2)).setCell ⟨g, 1, none⟩ (.int .i64 0)).cell? ⟨g, 0, none⟩ = some (.int .i64 2) := hs.c 0 _ rfl
      have y1 : ((w5.setCell ⟨g, 0, none⟩ (.int .i64 2)).setCell ⟨g, 1, none⟩ (.int .i64 0)).cell? ⟨g, 1, none⟩ = some (.int .i64 0) := hs.c 1 _ rfl
      (try simp only [Exit.inBlock, Exit.then])
      refine bodyPost_ret (by simp [results, Tryd.results24, go_sem, y0, y1]; try rfl) rfl ?_
      rw [HS.out, HO.out]
      exact ⟨gr, rfl, HGRL.out, HR5.out.other HGN.out [.int .i64 2, .int .i64 0], hB⟩
end Go.Proofs.YtmhfkdnblemfdaaDoor
