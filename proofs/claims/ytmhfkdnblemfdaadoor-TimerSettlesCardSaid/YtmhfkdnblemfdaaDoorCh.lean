/- Settle of the block ondelay at the chapter's example: on in the sixth step. -/
import Derived.Test.YtmhfkdnblemfdaaDoorCg
namespace Go.Proofs.YtmhfkdnblemfdaaDoor
open Go.RowKit Go.Shelf

set_option linter.unusedVariables false
def lkI (k : Nat) : Int := if k = 1 then 0 else 2
def lnI (k : Nat) : Int := if k = 7 then 1 else 0
def siI (k : Nat) : Int := if k = 1 then 0 else if k = 7 then 6 else 1
set_option maxHeartbeats 16000000 in
set_option maxRecDepth 100000 in
theorem settle_ex (pa : Option Addr) (pc q qo qc : Nat) (ia : Option Addr) (ic : Nat) (w : World) (hm : MaxAt w) (hq : InS w pa 1 1 (flat iL [5])) (hx : w.cell? ⟨q, qo, none⟩ = some (.int .i64 0)) (hi : InS w ia 1 2 (flat valL [⟨2, 1⟩])) :
    Calls Tryd.prog 15 #[.string ⟨#[111, 110, 100, 101, 108, 97, 121]⟩, .slice pa 1 pc, .slice (some ⟨q, qo, none⟩) 1 qc, .slice ia 1 ic] w fun e w' => e = .returned (.tuple #[.agg #[.int .i64 2, .int .i64 1], .int .i64 6, .int .i64 0]) ∧ Below w.heap.size w w' := by
  obtain ⟨W0, g, hW0, hg, RG, B0, sz0⟩ := box1 w #[.int .i64 0, .int .i64 0] 26
  have HG0 := Lib.hid RG
  have HB0 := Lib.hid B0
  have HWG := Lib.hid (show w.heap.size ≤ g by omega)
  have HGL := Lib.hid RG.lt
  have KR := Lib.hid (resume_ex pa pc q qo qc W0 (hm.keep B0) (hq.keep B0) ((B0.cell (p := ⟨q, qo, none⟩) (World.block_lt_of_cell? _ _ hx)).trans hx))
  have HI0 := Lib.hid (hi.keep B0)
  have HP0 := Lib.hid (hq.keep B0)
  clear hm hq hx hi RG B0 sz0
  go_enter Tryd.func15, Tryd.ntmps15
  go_upto_region 1 with fail
  rw [← hW0]
  try rw [← hg]
  clear hW0 hg
  go_wp2_with fail
  refine KR.out.mono ?_
  rintro e w1 ⟨R, rfl, ⟨w5, rb, a1, c1, a2, c2, ob, rfl, hb5, hrb, hR, hS, hI2, hI3, hb51⟩, hb⟩
  have HB05 := Lib.hid hb5
  have HRB := Lib.hid hrb
  have HI2 := Lib.hid hI2
  have HI3 := Lib.hid hI3
  have HG5 := Lib.hid (HG0.out.keep hb5)
  have HI5 := Lib.hid (HI0.out.keep hb5)
  have HP5 := Lib.hid (HP0.out.keep hb5)
  obtain ⟨W2, l, hW2, hl, RL, B2, sz2⟩ := box1 w1 #[.int .i64 0, .int .i64 0] 26
  have HL2 := Lib.hid RL
  have HR2 := Lib.hid (hR.keep B2)
  have HS2 := Lib.hid (hS.keep B2)
  have HB52 := Lib.hid (hb51.trans (B2.mono hb51.size))
  have HLW := Lib.hid (show w5.heap.size < l ∧ rb ≠ l by have := hS.lt; have := hR.lt; omega)
  clear hb5 hrb hR hS hI2 hI3 hb51 hb RL B2 sz2 KR HI0 HP0
  go_upto_region 5 with fail
  rw [← hW2]
  try rw [← hl]
  clear hW2 hl
  go_wp2_with fail
  go_loopw [14, 15] (fun s n wr => ∃ k : Nat, 1 ≤ k ∧ k ≤ 7 ∧ s = .int .i64 (siI k) ∧ n = .int .i64 k ∧ Hid (RowAt wr l [.int .i64 (lkI k), .int .i64 (lnI k)] ∧ RowAt wr rb [.string ⟨#[111, 110, 100, 101, 108, 97, 121]⟩, .slice a1 1 c1, .slice a2 1 c2, .slice (some ⟨ob, 0, none⟩) 1 1, .int .i64 1, .int .i64 1, .slice pa 1 pc, .slice (some ⟨w5.heap.size, 0, none⟩) 1 1] ∧ RowAt wr w5.heap.size [.int .i64 ((k : Int) - 1)] ∧ Below w5.heap.size w5 wr)) (fun _ n _ => (8 - intOf n).toNat)
  case atStart => exact ⟨1, by omega, by omega, rfl, rfl, Lib.hid ⟨HL2.out, HR2.out, HS2.out, HB52.out⟩⟩
  case round =>
    obtain ⟨k, hk1, hk7, rfl, rfl, hH⟩ := hrel
    have HL := Lib.hid hH.out.1
    have HR := Lib.hid hH.out.2.1
    have HS := Lib.hid hH.out.2.2.1
    have HB := Lib.hid hH.out.2.2.2
    clear hH
    rcases (by omega : k = 1 ∨ k = 2 ∨ k = 3 ∨ k = 4 ∨ k = 5 ∨ k = 6 ∨ k = 7) with rfl | rfl | rfl | rfl | rfl | rfl | rfl
    · have HLc := Lib.hid (show RowAt wr l [.int .i64 0, .int .i64 0] from HL.out)
      have HSc := Lib.hid (show RowAt wr w5.heap.size [.int .i64 0] from HS.out)
      clear HL HS hk1 hk7
      have r_7 := HR.out.c 7 _ rfl
      have KC := Lib.hid (clone1_any w5.heap.size 0 1 0 wr (HSc.out.c 0 _ rfl))
      go_wp2_with fail
      refine KC.out.mono ?_
      rintro e v1 ⟨b2, c9, rfl, hc, hge, hb⟩
      have HR1 := Lib.hid (HR.out.keep hb)
      have HL1 := Lib.hid (HLc.out.keep hb)
      have HS1 := Lib.hid (HSc.out.keep hb)
      have HB1 := Lib.hid (HB.out.trans (hb.mono HB.out.size))
      have HC1 := Lib.hid hc
      have HNE := Lib.hid (show b2 ≠ w5.heap.size by have := HSc.out.lt; omega)
      have HNL := Lib.hid (show l ≠ b2 by have := HLc.out.lt; omega)
      have lb2 := World.block_lt_of_cell? _ _ hc
      clear r_7 hc hge hb KC HR HLc HSc HB
      have KS := Lib.hid (step_any w5 rb ⟨#[111, 110, 100, 101, 108, 97, 121]⟩ ⟨#[98, 105, 110, 97, 114, 121]⟩ a1 1 c1 a2 c2 ob 1 1 1 pa 1 pc [⟨⟨#[97]⟩, ⟨#[98, 105, 110, 97, 114, 121]⟩⟩] 2 2 [⟨2, 1⟩] ia ic 1 [.int .i64 0] [.int .i64 1] 0 HRB.out (by decide) (by decide) rfl (by decide) (by decide) (fun p hp => by obtain rfl := List.mem_singleton.1 hp; exact kindOk_binary) (fun v hv => by obtain rfl := List.mem_singleton.1 hv; decide) kindOk_binary HI2.out HI3.out HI5.out
        (fun w ib io ic' h1 h2 h3 h4 h5 => by
          obtain ⟨pb, po, rfl, hpl, hpc⟩ := (show InS w pa ([5] : List Int).length 1 (flat iL [5]) from HP5.out.keep h1).at iL_len (by decide)
          have p0 : w.cell? ⟨pb, po, none⟩ = some (.int .i64 5) := by have h := hpc 0 _ rfl 0 _ rfl; simpa using h
          exact eval_ondelay rb w5.heap.size 1 pb po pc ib io ic' _ _ _ _ _ 1 0 5 1 [] (by decide) (by decide) (by decide) (by decide) w h2 p0 h3 (h4 0 _ rfl)) v1 HB1.out HR1.out HS1.out)
      go_wp2_with fail
      refine KS.out.mono ?_
      rintro e v2 ⟨rfl, hS, hgr⟩
      have HR2 := Lib.hid (row_grown HR1.out hgr (by intro e; injection e with e; have := HRB.out; omega))
      have HL2 := Lib.hid (row_grown HL1.out hgr (by intro e; injection e with e; have := HLW.out.1; omega))
      have HS2 := Lib.hid hS
      have HB2 := Lib.hid (HB1.out.grown hgr HB1.out.size (fun q e => by injection e with e; omega))
      have HC2 := Lib.hid (show v2.cell? ⟨b2, 0, none⟩ = some (.int .i64 0) from (World.cell?_of_block (a := ⟨b2, 0, none⟩) (hgr.block b2 lb2 (by intro e; injection e with e; exact HNE.out e))).trans HC1.out)
      clear hS hgr KS HR1 HL1 HS1 HB1 HC1 lb2
      obtain ⟨V3, t, hV3, ht, RT, B3, sz3⟩ := box1 v2 #[.int .i64 2, .int .i64 0] 26
      have HT3 := Lib.hid RT
      have HR3 := Lib.hid (HR2.out.keep B3)
      have HL3 := Lib.hid (HL2.out.keep B3)
      have HS3 := Lib.hid (HS2.out.keep B3)
      have HB3 := Lib.hid (HB2.out.trans (B3.mono HB2.out.size))
      have HC3 := Lib.hid ((B3.cell (p := ⟨b2, 0, none⟩) (World.block_lt_of_cell? _ _ HC2.out)).trans HC2.out)
      have HTL := Lib.hid (show l ≠ t by have := HL2.out.lt; omega)
      clear RT B3 sz3 HR2 HL2 HS2 HB2 HC2
      go_upto_region 9 with fail
      rw [← hV3]
      try rw [← ht]
      clear hV3 ht
      have t_0 := HT3.out.c 0 _ rfl
      have t_1 := HT3.out.c 1 _ rfl
      have l_0 := HL3.out.c 0 _ rfl
      have l_1 := HL3.out.c 1 _ rfl
      have l_z := HL3.out.fz
      have r_7 := HR3.out.c 7 _ rfl
      go_upto_region 13 with fail
      obtain ⟨V4, hV4⟩ : ∃ v, v = V3.setCells l 0 [.int .i64 2, .int .i64 0] := ⟨_, rfl⟩
      have HL4 := Lib.hid (show RowAt V4 l [.int .i64 2, .int .i64 0] by rw [hV4]; exact HL3.out.setRow [.int .i64 2, .int .i64 0] rfl)
      have HR4 := Lib.hid (show RowAt V4 rb [.string ⟨#[111, 110, 100, 101, 108, 97, 121]⟩, .slice a1 1 c1, .slice a2 1 c2, .slice (some ⟨ob, 0, none⟩) 1 1, .int .i64 1, .int .i64 1, .slice pa 1 pc, .slice (some ⟨w5.heap.size, 0, none⟩) 1 1] by rw [hV4]; exact HR3.out.other (by have := HLW.out.2; omega) [.int .i64 2, .int .i64 0])
      have HS4 := Lib.hid (show RowAt V4 w5.heap.size [.int .i64 1] by rw [hV4]; exact HS3.out.other (by have := HLW.out.1; omega) [.int .i64 2, .int .i64 0])
      have HB4 := Lib.hid (show Below w5.heap.size w5 V4 by rw [hV4]; exact set_below HB3.out (by have := HLW.out.1; omega) [.int .i64 2, .int .i64 0])
      have HC4 := Lib.hid (show V4.cell? ⟨b2, 0, none⟩ = some (.int .i64 0) by rw [hV4]; exact (cell_setCells_other HNL.out _ 0 _ 0).trans HC3.out)
      have hch : ((V3.setCell ⟨l, 0, none⟩ (.int .i64 2)).setCell ⟨l, 1, none⟩ (.int .i64 0)) = V4 := hV4.symm
      (try simp only [hch])
      (try rw [hch])
      clear hV4 hch t_0 t_1 l_0 l_1 l_z r_7
      have r_7 := HR4.out.c 7 _ rfl
      have KE := Lib.hid (show Calls Tryd.prog 28 #[.slice (some ⟨w5.heap.size, 0, none⟩) 1 1, .slice (some ⟨b2, 0, none⟩) 1 c9] V4 fun e w' => e = .returned (.bool false) ∧ Below V4.heap.size V4 w' from equal1_any w5.heap.size 0 1 b2 c9 1 0 V4 (HS4.out.c 0 _ rfl) HC4.out)
      go_wp2_with fail
      refine KE.out.mono ?_
      rintro e v5 ⟨rfl, hb⟩
      have HL5 := Lib.hid (HL4.out.keep hb)
      have HR5 := Lib.hid (HR4.out.keep hb)
      have HS5 := Lib.hid (HS4.out.keep hb)
      have HB5 := Lib.hid (HB4.out.trans (hb.mono HB4.out.size))
      clear r_7 hb
      go_wp2_with fail
      go_roundw
      case rel => exact ⟨2, by omega, by omega, rfl, by go_num, Lib.hid ⟨HL5.out, HR5.out, HS5.out, HB5.out⟩⟩
      case measure => simp [intOf]
    · have HLc := Lib.hid (show RowAt wr l [.int .i64 2, .int .i64 0] from HL.out)
      have HSc := Lib.hid (show RowAt wr w5.heap.size [.int .i64 1] from HS.out)
      clear HL HS hk1 hk7
      have r_7 := HR.out.c 7 _ rfl
      have KC := Lib.hid (clone1_any w5.heap.size 0 1 1 wr (HSc.out.c 0 _ rfl))
      go_wp2_with fail
      refine KC.out.mono ?_
      rintro e v1 ⟨b2, c9, rfl, hc, hge, hb⟩
      have HR1 := Lib.hid (HR.out.keep hb)
      have HL1 := Lib.hid (HLc.out.keep hb)
      have HS1 := Lib.hid (HSc.out.keep hb)
      have HB1 := Lib.hid (HB.out.trans (hb.mono HB.out.size))
      have HC1 := Lib.hid hc
      have HNE := Lib.hid (show b2 ≠ w5.heap.size by have := HSc.out.lt; omega)
      have HNL := Lib.hid (show l ≠ b2 by have := HLc.out.lt; omega)
      have lb2 := World.block_lt_of_cell? _ _ hc
      clear r_7 hc hge hb KC HR HLc HSc HB
      have KS := Lib.hid (step_any w5 rb ⟨#[111, 110, 100, 101, 108, 97, 121]⟩ ⟨#[98, 105, 110, 97, 114, 121]⟩ a1 1 c1 a2 c2 ob 1 1 1 pa 1 pc [⟨⟨#[97]⟩, ⟨#[98, 105, 110, 97, 114, 121]⟩⟩] 2 2 [⟨2, 1⟩] ia ic 1 [.int .i64 1] [.int .i64 2] 0 HRB.out (by decide) (by decide) rfl (by decide) (by decide) (fun p hp => by obtain rfl := List.mem_singleton.1 hp; exact kindOk_binary) (fun v hv => by obtain rfl := List.mem_singleton.1 hv; decide) kindOk_binary HI2.out HI3.out HI5.out
        (fun w ib io ic' h1 h2 h3 h4 h5 => by
          obtain ⟨pb, po, rfl, hpl, hpc⟩ := (show InS w pa ([5] : List Int).length 1 (flat iL [5]) from HP5.out.keep h1).at iL_len (by decide)
          have p0 : w.cell? ⟨pb, po, none⟩ = some (.int .i64 5) := by have h := hpc 0 _ rfl 0 _ rfl; simpa using h
          exact eval_ondelay rb w5.heap.size 1 pb po pc ib io ic' _ _ _ _ _ 1 1 5 1 [] (by decide) (by decide) (by decide) (by decide) w h2 p0 h3 (h4 0 _ rfl)) v1 HB1.out HR1.out HS1.out)
      go_wp2_with fail
      refine KS.out.mono ?_
      rintro e v2 ⟨rfl, hS, hgr⟩
      have HR2 := Lib.hid (row_grown HR1.out hgr (by intro e; injection e with e; have := HRB.out; omega))
      have HL2 := Lib.hid (row_grown HL1.out hgr (by intro e; injection e with e; have := HLW.out.1; omega))
      have HS2 := Lib.hid hS
      have HB2 := Lib.hid (HB1.out.grown hgr HB1.out.size (fun q e => by injection e with e; omega))
      have HC2 := Lib.hid (show v2.cell? ⟨b2, 0, none⟩ = some (.int .i64 1) from (World.cell?_of_block (a := ⟨b2, 0, none⟩) (hgr.block b2 lb2 (by intro e; injection e with e; exact HNE.out e))).trans HC1.out)
      clear hS hgr KS HR1 HL1 HS1 HB1 HC1 lb2
      obtain ⟨V3, t, hV3, ht, RT, B3, sz3⟩ := box1 v2 #[.int .i64 2, .int .i64 0] 26
      have HT3 := Lib.hid RT
      have HR3 := Lib.hid (HR2.out.keep B3)
      have HL3 := Lib.hid (HL2.out.keep B3)
      have HS3 := Lib.hid (HS2.out.keep B3)
      have HB3 := Lib.hid (HB2.out.trans (B3.mono HB2.out.size))
      have HC3 := Lib.hid ((B3.cell (p := ⟨b2, 0, none⟩) (World.block_lt_of_cell? _ _ HC2.out)).trans HC2.out)
      have HTL := Lib.hid (show l ≠ t by have := HL2.out.lt; omega)
      clear RT B3 sz3 HR2 HL2 HS2 HB2 HC2
      go_upto_region 9 with fail
      rw [← hV3]
      try rw [← ht]
      clear hV3 ht
      have t_0 := HT3.out.c 0 _ rfl
      have t_1 := HT3.out.c 1 _ rfl
      have l_0 := HL3.out.c 0 _ rfl
      have l_1 := HL3.out.c 1 _ rfl
      have l_z := HL3.out.fz
      have r_7 := HR3.out.c 7 _ rfl
      go_upto_region 13 with fail
      clear t_0 t_1 l_0 l_1 l_z
      have HL4 := HL3
      have HR4 := HR3
      have HS4 := HS3
      have HB4 := HB3
      have HC4 := HC3
      have KE := Lib.hid (show Calls Tryd.prog 28 #[.slice (some ⟨w5.heap.size, 0, none⟩) 1 1, .slice (some ⟨b2, 0, none⟩) 1 c9] V3 fun e w' => e = .returned (.bool false) ∧ Below V3.heap.size V3 w' from equal1_any w5.heap.size 0 1 b2 c9 2 1 V3 (HS4.out.c 0 _ rfl) HC4.out)
      go_wp2_with fail
      refine KE.out.mono ?_
      rintro e v5 ⟨rfl, hb⟩
      have HL5 := Lib.hid (HL4.out.keep hb)
      have HR5 := Lib.hid (HR4.out.keep hb)
      have HS5 := Lib.hid (HS4.out.keep hb)
      have HB5 := Lib.hid (HB4.out.trans (hb.mono HB4.out.size))
      clear r_7 hb
      go_wp2_with fail
      go_roundw
      case rel => exact ⟨3, by omega, by omega, rfl, by go_num, Lib.hid ⟨HL5.out, HR5.out, HS5.out, HB5.out⟩⟩
      case measure => simp [intOf]
    · have HLc := Lib.hid (show RowAt wr l [.int .i64 2, .int .i64 0] from HL.out)
      have HSc := Lib.hid (show RowAt wr w5.heap.size [.int .i64 2] from HS.out)
      clear HL HS hk1 hk7
      have r_7 := HR.out.c 7 _ rfl
      have KC := Lib.hid (clone1_any w5.heap.size 0 1 2 wr (HSc.out.c 0 _ rfl))
      go_wp2_with fail
      refine KC.out.mono ?_
      rintro e v1 ⟨b2, c9, rfl, hc, hge, hb⟩
      have HR1 := Lib.hid (HR.out.keep hb)
      have HL1 := Lib.hid (HLc.out.keep hb)
      have HS1 := Lib.hid (HSc.out.keep hb)
      have HB1 := Lib.hid (HB.out.trans (hb.mono HB.out.size))
      have HC1 := Lib.hid hc
      have HNE := Lib.hid (show b2 ≠ w5.heap.size by have := HSc.out.lt; omega)
      have HNL := Lib.hid (show l ≠ b2 by have := HLc.out.lt; omega)
      have lb2 := World.block_lt_of_cell? _ _ hc
      clear r_7 hc hge hb KC HR HLc HSc HB
      have KS := Lib.hid (step_any w5 rb ⟨#[111, 110, 100, 101, 108, 97, 121]⟩ ⟨#[98, 105, 110, 97, 114, 121]⟩ a1 1 c1 a2 c2 ob 1 1 1 pa 1 pc [⟨⟨#[97]⟩, ⟨#[98, 105, 110, 97, 114, 121]⟩⟩] 2 2 [⟨2, 1⟩] ia ic 1 [.int .i64 2] [.int .i64 3] 0 HRB.out (by decide) (by decide) rfl (by decide) (by decide) (fun p hp => by obtain rfl := List.mem_singleton.1 hp; exact kindOk_binary) (fun v hv => by obtain rfl := List.mem_singleton.1 hv; decide) kindOk_binary HI2.out HI3.out HI5.out
        (fun w ib io ic' h1 h2 h3 h4 h5 => by
          obtain ⟨pb, po, rfl, hpl, hpc⟩ := (show InS w pa ([5] : List Int).length 1 (flat iL [5]) from HP5.out.keep h1).at iL_len (by decide)
          have p0 : w.cell? ⟨pb, po, none⟩ = some (.int .i64 5) := by have h := hpc 0 _ rfl 0 _ rfl; simpa using h
          exact eval_ondelay rb w5.heap.size 1 pb po pc ib io ic' _ _ _ _ _ 1 2 5 1 [] (by decide) (by decide) (by decide) (by decide) w h2 p0 h3 (h4 0 _ rfl)) v1 HB1.out HR1.out HS1.out)
      go_wp2_with fail
      refine KS.out.mono ?_
      rintro e v2 ⟨rfl, hS, hgr⟩
      have HR2 := Lib.hid (row_grown HR1.out hgr (by intro e; injection e with e; have := HRB.out; omega))
      have HL2 := Lib.hid (row_grown HL1.out hgr (by intro e; injection e with e; have := HLW.out.1; omega))
      have HS2 := Lib.hid hS
      have HB2 := Lib.hid (HB1.out.grown hgr HB1.out.size (fun q e => by injection e with e; omega))
      have HC2 := Lib.hid (show v2.cell? ⟨b2, 0, none⟩ = some (.int .i64 2) from (World.cell?_of_block (a := ⟨b2, 0, none⟩) (hgr.block b2 lb2 (by intro e; injection e with e; exact HNE.out e))).trans HC1.out)
      clear hS hgr KS HR1 HL1 HS1 HB1 HC1 lb2
      obtain ⟨V3, t, hV3, ht, RT, B3, sz3⟩ := box1 v2 #[.int .i64 2, .int .i64 0] 26
      have HT3 := Lib.hid RT
      have HR3 := Lib.hid (HR2.out.keep B3)
      have HL3 := Lib.hid (HL2.out.keep B3)
      have HS3 := Lib.hid (HS2.out.keep B3)
      have HB3 := Lib.hid (HB2.out.trans (B3.mono HB2.out.size))
      have HC3 := Lib.hid ((B3.cell (p := ⟨b2, 0, none⟩) (World.block_lt_of_cell? _ _ HC2.out)).trans HC2.out)
      have HTL := Lib.hid (show l ≠ t by have := HL2.out.lt; omega)
      clear RT B3 sz3 HR2 HL2 HS2 HB2 HC2
      go_upto_region 9 with fail
      rw [← hV3]
      try rw [← ht]
      clear hV3 ht
      have t_0 := HT3.out.c 0 _ rfl
      have t_1 := HT3.out.c 1 _ rfl
      have l_0 := HL3.out.c 0 _ rfl
      have l_1 := HL3.out.c 1 _ rfl
      have l_z := HL3.out.fz
      have r_7 := HR3.out.c 7 _ rfl
      go_upto_region 13 with fail
      clear t_0 t_1 l_0 l_1 l_z
      have HL4 := HL3
      have HR4 := HR3
      have HS4 := HS3
      have HB4 := HB3
      have HC4 := HC3
      have KE := Lib.hid (show Calls Tryd.prog 28 #[.slice (some ⟨w5.heap.size, 0, none⟩) 1 1, .slice (some ⟨b2, 0, none⟩) 1 c9] V3 fun e w' => e = .returned (.bool false) ∧ Below V3.heap.size V3 w' from equal1_any w5.heap.size 0 1 b2 c9 3 2 V3 (HS4.out.c 0 _ rfl) HC4.out)
      go_wp2_with fail
      refine KE.out.mono ?_
      rintro e v5 ⟨rfl, hb⟩
      have HL5 := Lib.hid (HL4.out.keep hb)
      have HR5 := Lib.hid (HR4.out.keep hb)
      have HS5 := Lib.hid (HS4.out.keep hb)
      have HB5 := Lib.hid (HB4.out.trans (hb.mono HB4.out.size))
      clear r_7 hb
      go_wp2_with fail
      go_roundw
      case rel => exact ⟨4, by omega, by omega, rfl, by go_num, Lib.hid ⟨HL5.out, HR5.out, HS5.out, HB5.out⟩⟩
      case measure => simp [intOf]
    · have HLc := Lib.hid (show RowAt wr l [.int .i64 2, .int .i64 0] from HL.out)
      have HSc := Lib.hid (show RowAt wr w5.heap.size [.int .i64 3] from HS.out)
      clear HL HS hk1 hk7
      have r_7 := HR.out.c 7 _ rfl
      have KC := Lib.hid (clone1_any w5.heap.size 0 1 3 wr (HSc.out.c 0 _ rfl))
      go_wp2_with fail
      refine KC.out.mono ?_
      rintro e v1 ⟨b2, c9, rfl, hc, hge, hb⟩
      have HR1 := Lib.hid (HR.out.keep hb)
      have HL1 := Lib.hid (HLc.out.keep hb)
      have HS1 := Lib.hid (HSc.out.keep hb)
      have HB1 := Lib.hid (HB.out.trans (hb.mono HB.out.size))
      have HC1 := Lib.hid hc
      have HNE := Lib.hid (show b2 ≠ w5.heap.size by have := HSc.out.lt; omega)
      have HNL := Lib.hid (show l ≠ b2 by have := HLc.out.lt; omega)
      have lb2 := World.block_lt_of_cell? _ _ hc
      clear r_7 hc hge hb KC HR HLc HSc HB
      have KS := Lib.hid (step_any w5 rb ⟨#[111, 110, 100, 101, 108, 97, 121]⟩ ⟨#[98, 105, 110, 97, 114, 121]⟩ a1 1 c1 a2 c2 ob 1 1 1 pa 1 pc [⟨⟨#[97]⟩, ⟨#[98, 105, 110, 97, 114, 121]⟩⟩] 2 2 [⟨2, 1⟩] ia ic 1 [.int .i64 3] [.int .i64 4] 0 HRB.out (by decide) (by decide) rfl (by decide) (by decide) (fun p hp => by obtain rfl := List.mem_singleton.1 hp; exact kindOk_binary) (fun v hv => by obtain rfl := List.mem_singleton.1 hv; decide) kindOk_binary HI2.out HI3.out HI5.out
        (fun w ib io ic' h1 h2 h3 h4 h5 => by
          obtain ⟨pb, po, rfl, hpl, hpc⟩ := (show InS w pa ([5] : List Int).length 1 (flat iL [5]) from HP5.out.keep h1).at iL_len (by decide)
          have p0 : w.cell? ⟨pb, po, none⟩ = some (.int .i64 5) := by have h := hpc 0 _ rfl 0 _ rfl; simpa using h
          exact eval_ondelay rb w5.heap.size 1 pb po pc ib io ic' _ _ _ _ _ 1 3 5 1 [] (by decide) (by decide) (by decide) (by decide) w h2 p0 h3 (h4 0 _ rfl)) v1 HB1.out HR1.out HS1.out)
      go_wp2_with fail
      refine KS.out.mono ?_
      rintro e v2 ⟨rfl, hS, hgr⟩
      have HR2 := Lib.hid (row_grown HR1.out hgr (by intro e; injection e with e; have := HRB.out; omega))
      have HL2 := Lib.hid (row_grown HL1.out hgr (by intro e; injection e with e; have := HLW.out.1; omega))
      have HS2 := Lib.hid hS
      have HB2 := Lib.hid (HB1.out.grown hgr HB1.out.size (fun q e => by injection e with e; omega))
      have HC2 := Lib.hid (show v2.cell? ⟨b2, 0, none⟩ = some (.int .i64 3) from (World.cell?_of_block (a := ⟨b2, 0, none⟩) (hgr.block b2 lb2 (by intro e; injection e with e; exact HNE.out e))).trans HC1.out)
      clear hS hgr KS HR1 HL1 HS1 HB1 HC1 lb2
      obtain ⟨V3, t, hV3, ht, RT, B3, sz3⟩ := box1 v2 #[.int .i64 2, .int .i64 0] 26
      have HT3 := Lib.hid RT
      have HR3 := Lib.hid (HR2.out.keep B3)
      have HL3 := Lib.hid (HL2.out.keep B3)
      have HS3 := Lib.hid (HS2.out.keep B3)
      have HB3 := Lib.hid (HB2.out.trans (B3.mono HB2.out.size))
      have HC3 := Lib.hid ((B3.cell (p := ⟨b2, 0, none⟩) (World.block_lt_of_cell? _ _ HC2.out)).trans HC2.out)
      have HTL := Lib.hid (show l ≠ t by have := HL2.out.lt; omega)
      clear RT B3 sz3 HR2 HL2 HS2 HB2 HC2
      go_upto_region 9 with fail
      rw [← hV3]
      try rw [← ht]
      clear hV3 ht
      have t_0 := HT3.out.c 0 _ rfl
      have t_1 := HT3.out.c 1 _ rfl
      have l_0 := HL3.out.c 0 _ rfl
      have l_1 := HL3.out.c 1 _ rfl
      have l_z := HL3.out.fz
      have r_7 := HR3.out.c 7 _ rfl
      go_upto_region 13 with fail
      clear t_0 t_1 l_0 l_1 l_z
      have HL4 := HL3
      have HR4 := HR3
      have HS4 := HS3
      have HB4 := HB3
      have HC4 := HC3
      have KE := Lib.hid (show Calls Tryd.prog 28 #[.slice (some ⟨w5.heap.size, 0, none⟩) 1 1, .slice (some ⟨b2, 0, none⟩) 1 c9] V3 fun e w' => e = .returned (.bool false) ∧ Below V3.heap.size V3 w' from equal1_any w5.heap.size 0 1 b2 c9 4 3 V3 (HS4.out.c 0 _ rfl) HC4.out)
      go_wp2_with fail
      refine KE.out.mono ?_
      rintro e v5 ⟨rfl, hb⟩
      have HL5 := Lib.hid (HL4.out.keep hb)
      have HR5 := Lib.hid (HR4.out.keep hb)
      have HS5 := Lib.hid (HS4.out.keep hb)
      have HB5 := Lib.hid (HB4.out.trans (hb.mono HB4.out.size))
      clear r_7 hb
      go_wp2_with fail
      go_roundw
      case rel => exact ⟨5, by omega, by omega, rfl, by go_num, Lib.hid ⟨HL5.out, HR5.out, HS5.out, HB5.out⟩⟩
      case measure => simp [intOf]
    · have HLc := Lib.hid (show RowAt wr l [.int .i64 2, .int .i64 0] from HL.out)
      have HSc := Lib.hid (show RowAt wr w5.heap.size [.int .i64 4] from HS.out)
      clear HL HS hk1 hk7
      have r_7 := HR.out.c 7 _ rfl
      have KC := Lib.hid (clone1_any w5.heap.size 0 1 4 wr (HSc.out.c 0 _ rfl))
      go_wp2_with fail
      refine KC.out.mono ?_
      rintro e v1 ⟨b2, c9, rfl, hc, hge, hb⟩
      have HR1 := Lib.hid (HR.out.keep hb)
      have HL1 := Lib.hid (HLc.out.keep hb)
      have HS1 := Lib.hid (HSc.out.keep hb)
      have HB1 := Lib.hid (HB.out.trans (hb.mono HB.out.size))
      have HC1 := Lib.hid hc
      have HNE := Lib.hid (show b2 ≠ w5.heap.size by have := HSc.out.lt; omega)
      have HNL := Lib.hid (show l ≠ b2 by have := HLc.out.lt; omega)
      have lb2 := World.block_lt_of_cell? _ _ hc
      clear r_7 hc hge hb KC HR HLc HSc HB
      have KS := Lib.hid (step_any w5 rb ⟨#[111, 110, 100, 101, 108, 97, 121]⟩ ⟨#[98, 105, 110, 97, 114, 121]⟩ a1 1 c1 a2 c2 ob 1 1 1 pa 1 pc [⟨⟨#[97]⟩, ⟨#[98, 105, 110, 97, 114, 121]⟩⟩] 2 2 [⟨2, 1⟩] ia ic 1 [.int .i64 4] [.int .i64 5] 0 HRB.out (by decide) (by decide) rfl (by decide) (by decide) (fun p hp => by obtain rfl := List.mem_singleton.1 hp; exact kindOk_binary) (fun v hv => by obtain rfl := List.mem_singleton.1 hv; decide) kindOk_binary HI2.out HI3.out HI5.out
        (fun w ib io ic' h1 h2 h3 h4 h5 => by
          obtain ⟨pb, po, rfl, hpl, hpc⟩ := (show InS w pa ([5] : List Int).length 1 (flat iL [5]) from HP5.out.keep h1).at iL_len (by decide)
          have p0 : w.cell? ⟨pb, po, none⟩ = some (.int .i64 5) := by have h := hpc 0 _ rfl 0 _ rfl; simpa using h
          exact eval_ondelay rb w5.heap.size 1 pb po pc ib io ic' _ _ _ _ _ 1 4 5 1 [] (by decide) (by decide) (by decide) (by decide) w h2 p0 h3 (h4 0 _ rfl)) v1 HB1.out HR1.out HS1.out)
      go_wp2_with fail
      refine KS.out.mono ?_
      rintro e v2 ⟨rfl, hS, hgr⟩
      have HR2 := Lib.hid (row_grown HR1.out hgr (by intro e; injection e with e; have := HRB.out; omega))
      have HL2 := Lib.hid (row_grown HL1.out hgr (by intro e; injection e with e; have := HLW.out.1; omega))
      have HS2 := Lib.hid hS
      have HB2 := Lib.hid (HB1.out.grown hgr HB1.out.size (fun q e => by injection e with e; omega))
      have HC2 := Lib.hid (show v2.cell? ⟨b2, 0, none⟩ = some (.int .i64 4) from (World.cell?_of_block (a := ⟨b2, 0, none⟩) (hgr.block b2 lb2 (by intro e; injection e with e; exact HNE.out e))).trans HC1.out)
      clear hS hgr KS HR1 HL1 HS1 HB1 HC1 lb2
      obtain ⟨V3, t, hV3, ht, RT, B3, sz3⟩ := box1 v2 #[.int .i64 2, .int .i64 0] 26
      have HT3 := Lib.hid RT
      have HR3 := Lib.hid (HR2.out.keep B3)
      have HL3 := Lib.hid (HL2.out.keep B3)
      have HS3 := Lib.hid (HS2.out.keep B3)
      have HB3 := Lib.hid (HB2.out.trans (B3.mono HB2.out.size))
      have HC3 := Lib.hid ((B3.cell (p := ⟨b2, 0, none⟩) (World.block_lt_of_cell? _ _ HC2.out)).trans HC2.out)
      have HTL := Lib.hid (show l ≠ t by have := HL2.out.lt; omega)
      clear RT B3 sz3 HR2 HL2 HS2 HB2 HC2
      go_upto_region 9 with fail
      rw [← hV3]
      try rw [← ht]
      clear hV3 ht
      have t_0 := HT3.out.c 0 _ rfl
      have t_1 := HT3.out.c 1 _ rfl
      have l_0 := HL3.out.c 0 _ rfl
      have l_1 := HL3.out.c 1 _ rfl
      have l_z := HL3.out.fz
      have r_7 := HR3.out.c 7 _ rfl
      go_upto_region 13 with fail
      clear t_0 t_1 l_0 l_1 l_z
      have HL4 := HL3
      have HR4 := HR3
      have HS4 := HS3
      have HB4 := HB3
      have HC4 := HC3
      have KE := Lib.hid (show Calls Tryd.prog 28 #[.slice (some ⟨w5.heap.size, 0, none⟩) 1 1, .slice (some ⟨b2, 0, none⟩) 1 c9] V3 fun e w' => e = .returned (.bool false) ∧ Below V3.heap.size V3 w' from equal1_any w5.heap.size 0 1 b2 c9 5 4 V3 (HS4.out.c 0 _ rfl) HC4.out)
      go_wp2_with fail
      refine KE.out.mono ?_
      rintro e v5 ⟨rfl, hb⟩
      have HL5 := Lib.hid (HL4.out.keep hb)
      have HR5 := Lib.hid (HR4.out.keep hb)
      have HS5 := Lib.hid (HS4.out.keep hb)
      have HB5 := Lib.hid (HB4.out.trans (hb.mono HB4.out.size))
      clear r_7 hb
      go_wp2_with fail
      go_roundw
      case rel => exact ⟨6, by omega, by omega, rfl, by go_num, Lib.hid ⟨HL5.out, HR5.out, HS5.out, HB5.out⟩⟩
      case measure => simp [intOf]
    · have HLc := Lib.hid (show RowAt wr l [.int .i64 2, .int .i64 0] from HL.out)
      have HSc := Lib.hid (show RowAt wr w5.heap.size [.int .i64 5] from HS.out)
      clear HL HS hk1 hk7
      have r_7 := HR.out.c 7 _ rfl
      have KC := Lib.hid (clone1_any w5.heap.size 0 1 5 wr (HSc.out.c 0 _ rfl))
      go_wp2_with fail
      refine KC.out.mono ?_
      rintro e v1 ⟨b2, c9, rfl, hc, hge, hb⟩
      have HR1 := Lib.hid (HR.out.keep hb)
      have HL1 := Lib.hid (HLc.out.keep hb)
      have HS1 := Lib.hid (HSc.out.keep hb)
      have HB1 := Lib.hid (HB.out.trans (hb.mono HB.out.size))
      have HC1 := Lib.hid hc
      have HNE := Lib.hid (show b2 ≠ w5.heap.size by have := HSc.out.lt; omega)
      have HNL := Lib.hid (show l ≠ b2 by have := HLc.out.lt; omega)
      have lb2 := World.block_lt_of_cell? _ _ hc
      clear r_7 hc hge hb KC HR HLc HSc HB
      have KS := Lib.hid (step_any w5 rb ⟨#[111, 110, 100, 101, 108, 97, 121]⟩ ⟨#[98, 105, 110, 97, 114, 121]⟩ a1 1 c1 a2 c2 ob 1 1 1 pa 1 pc [⟨⟨#[97]⟩, ⟨#[98, 105, 110, 97, 114, 121]⟩⟩] 2 2 [⟨2, 1⟩] ia ic 1 [.int .i64 5] [.int .i64 6] 1 HRB.out (by decide) (by decide) rfl (by decide) (by decide) (fun p hp => by obtain rfl := List.mem_singleton.1 hp; exact kindOk_binary) (fun v hv => by obtain rfl := List.mem_singleton.1 hv; decide) kindOk_binary HI2.out HI3.out HI5.out
        (fun w ib io ic' h1 h2 h3 h4 h5 => by
          obtain ⟨pb, po, rfl, hpl, hpc⟩ := (show InS w pa ([5] : List Int).length 1 (flat iL [5]) from HP5.out.keep h1).at iL_len (by decide)
          have p0 : w.cell? ⟨pb, po, none⟩ = some (.int .i64 5) := by have h := hpc 0 _ rfl 0 _ rfl; simpa using h
          exact eval_ondelay rb w5.heap.size 1 pb po pc ib io ic' _ _ _ _ _ 1 5 5 1 [] (by decide) (by decide) (by decide) (by decide) w h2 p0 h3 (h4 0 _ rfl)) v1 HB1.out HR1.out HS1.out)
      go_wp2_with fail
      refine KS.out.mono ?_
      rintro e v2 ⟨rfl, hS, hgr⟩
      have HR2 := Lib.hid (row_grown HR1.out hgr (by intro e; injection e with e; have := HRB.out; omega))
      have HL2 := Lib.hid (row_grown HL1.out hgr (by intro e; injection e with e; have := HLW.out.1; omega))
      have HS2 := Lib.hid hS
      have HB2 := Lib.hid (HB1.out.grown hgr HB1.out.size (fun q e => by injection e with e; omega))
      have HC2 := Lib.hid (show v2.cell? ⟨b2, 0, none⟩ = some (.int .i64 5) from (World.cell?_of_block (a := ⟨b2, 0, none⟩) (hgr.block b2 lb2 (by intro e; injection e with e; exact HNE.out e))).trans HC1.out)
      clear hS hgr KS HR1 HL1 HS1 HB1 HC1 lb2
      obtain ⟨V3, t, hV3, ht, RT, B3, sz3⟩ := box1 v2 #[.int .i64 2, .int .i64 1] 26
      have HT3 := Lib.hid RT
      have HR3 := Lib.hid (HR2.out.keep B3)
      have HL3 := Lib.hid (HL2.out.keep B3)
      have HS3 := Lib.hid (HS2.out.keep B3)
      have HB3 := Lib.hid (HB2.out.trans (B3.mono HB2.out.size))
      have HC3 := Lib.hid ((B3.cell (p := ⟨b2, 0, none⟩) (World.block_lt_of_cell? _ _ HC2.out)).trans HC2.out)
      have HTL := Lib.hid (show l ≠ t by have := HL2.out.lt; omega)
      clear RT B3 sz3 HR2 HL2 HS2 HB2 HC2
      go_upto_region 9 with fail
      rw [← hV3]
      try rw [← ht]
      clear hV3 ht
      have t_0 := HT3.out.c 0 _ rfl
      have t_1 := HT3.out.c 1 _ rfl
      have l_0 := HL3.out.c 0 _ rfl
      have l_1 := HL3.out.c 1 _ rfl
      have l_z := HL3.out.fz
      have r_7 := HR3.out.c 7 _ rfl
      go_upto_region 13 with fail
      obtain ⟨V4, hV4⟩ : ∃ v, v = V3.setCells l 0 [.int .i64 2, .int .i64 1] := ⟨_, rfl⟩
      have HL4 := Lib.hid (show RowAt V4 l [.int .i64 2, .int .i64 1] by rw [hV4]; exact HL3.out.setRow [.int .i64 2, .int .i64 1] rfl)
      have HR4 := Lib.hid (show RowAt V4 rb [.string ⟨#[111, 110, 100, 101, 108, 97, 121]⟩, .slice a1 1 c1, .slice a2 1 c2, .slice (some ⟨ob, 0, none⟩) 1 1, .int .i64 1, .int .i64 1, .slice pa 1 pc, .slice (some ⟨w5.heap.size, 0, none⟩) 1 1] by rw [hV4]; exact HR3.out.other (by have := HLW.out.2; omega) [.int .i64 2, .int .i64 1])
      have HS4 := Lib.hid (show RowAt V4 w5.heap.size [.int .i64 6] by rw [hV4]; exact HS3.out.other (by have := HLW.out.1; omega) [.int .i64 2, .int .i64 1])
      have HB4 := Lib.hid (show Below w5.heap.size w5 V4 by rw [hV4]; exact set_below HB3.out (by have := HLW.out.1; omega) [.int .i64 2, .int .i64 1])
      have HC4 := Lib.hid (show V4.cell? ⟨b2, 0, none⟩ = some (.int .i64 5) by rw [hV4]; exact (cell_setCells_other HNL.out _ 0 _ 0).trans HC3.out)
      have hch : ((V3.setCell ⟨l, 0, none⟩ (.int .i64 2)).setCell ⟨l, 1, none⟩ (.int .i64 1)) = V4 := hV4.symm
      (try simp only [hch])
      (try rw [hch])
      clear hV4 hch t_0 t_1 l_0 l_1 l_z r_7
      have r_7 := HR4.out.c 7 _ rfl
      have KE := Lib.hid (show Calls Tryd.prog 28 #[.slice (some ⟨w5.heap.size, 0, none⟩) 1 1, .slice (some ⟨b2, 0, none⟩) 1 c9] V4 fun e w' => e = .returned (.bool false) ∧ Below V4.heap.size V4 w' from equal1_any w5.heap.size 0 1 b2 c9 6 5 V4 (HS4.out.c 0 _ rfl) HC4.out)
      go_wp2_with fail
      refine KE.out.mono ?_
      rintro e v5 ⟨rfl, hb⟩
      have HL5 := Lib.hid (HL4.out.keep hb)
      have HR5 := Lib.hid (HR4.out.keep hb)
      have HS5 := Lib.hid (HS4.out.keep hb)
      have HB5 := Lib.hid (HB4.out.trans (hb.mono HB4.out.size))
      clear r_7 hb
      go_wp2_with fail
      go_roundw
      case rel => exact ⟨7, by omega, by omega, rfl, by go_num, Lib.hid ⟨HL5.out, HR5.out, HS5.out, HB5.out⟩⟩
      case measure => simp [intOf]
    · have HLc := Lib.hid (show RowAt wr l [.int .i64 2, .int .i64 1] from HL.out)
      have HSc := Lib.hid (show RowAt wr w5.heap.size [.int .i64 6] from HS.out)
      clear HL HS hk1 hk7
      have r_7 := HR.out.c 7 _ rfl
      have KC := Lib.hid (clone1_any w5.heap.size 0 1 6 wr (HSc.out.c 0 _ rfl))
      go_wp2_with fail
      refine KC.out.mono ?_
      rintro e v1 ⟨b2, c9, rfl, hc, hge, hb⟩
      have HR1 := Lib.hid (HR.out.keep hb)
      have HL1 := Lib.hid (HLc.out.keep hb)
      have HS1 := Lib.hid (HSc.out.keep hb)
      have HB1 := Lib.hid (HB.out.trans (hb.mono HB.out.size))
      have HC1 := Lib.hid hc
      have HNE := Lib.hid (show b2 ≠ w5.heap.size by have := HSc.out.lt; omega)
      have HNL := Lib.hid (show l ≠ b2 by have := HLc.out.lt; omega)
      have lb2 := World.block_lt_of_cell? _ _ hc
      clear r_7 hc hge hb KC HR HLc HSc HB
      have KS := Lib.hid (step_any w5 rb ⟨#[111, 110, 100, 101, 108, 97, 121]⟩ ⟨#[98, 105, 110, 97, 114, 121]⟩ a1 1 c1 a2 c2 ob 1 1 1 pa 1 pc [⟨⟨#[97]⟩, ⟨#[98, 105, 110, 97, 114, 121]⟩⟩] 2 2 [⟨2, 1⟩] ia ic 1 [.int .i64 6] [.int .i64 6] 1 HRB.out (by decide) (by decide) rfl (by decide) (by decide) (fun p hp => by obtain rfl := List.mem_singleton.1 hp; exact kindOk_binary) (fun v hv => by obtain rfl := List.mem_singleton.1 hv; decide) kindOk_binary HI2.out HI3.out HI5.out
        (fun w ib io ic' h1 h2 h3 h4 h5 => by
          obtain ⟨pb, po, rfl, hpl, hpc⟩ := (show InS w pa ([5] : List Int).length 1 (flat iL [5]) from HP5.out.keep h1).at iL_len (by decide)
          have p0 : w.cell? ⟨pb, po, none⟩ = some (.int .i64 5) := by have h := hpc 0 _ rfl 0 _ rfl; simpa using h
          exact eval_ondelay rb w5.heap.size 1 pb po pc ib io ic' _ _ _ _ _ 1 6 5 1 [] (by decide) (by decide) (by decide) (by decide) w h2 p0 h3 (h4 0 _ rfl)) v1 HB1.out HR1.out HS1.out)
      go_wp2_with fail
      refine KS.out.mono ?_
      rintro e v2 ⟨rfl, hS, hgr⟩
      have HR2 := Lib.hid (row_grown HR1.out hgr (by intro e; injection e with e; have := HRB.out; omega))
      have HL2 := Lib.hid (row_grown HL1.out hgr (by intro e; injection e with e; have := HLW.out.1; omega))
      have HS2 := Lib.hid hS
      have HB2 := Lib.hid (HB1.out.grown hgr HB1.out.size (fun q e => by injection e with e; omega))
      have HC2 := Lib.hid (show v2.cell? ⟨b2, 0, none⟩ = some (.int .i64 6) from (World.cell?_of_block (a := ⟨b2, 0, none⟩) (hgr.block b2 lb2 (by intro e; injection e with e; exact HNE.out e))).trans HC1.out)
      clear hS hgr KS HR1 HL1 HS1 HB1 HC1 lb2
      obtain ⟨V3, t, hV3, ht, RT, B3, sz3⟩ := box1 v2 #[.int .i64 2, .int .i64 1] 26
      have HT3 := Lib.hid RT
      have HR3 := Lib.hid (HR2.out.keep B3)
      have HL3 := Lib.hid (HL2.out.keep B3)
      have HS3 := Lib.hid (HS2.out.keep B3)
      have HB3 := Lib.hid (HB2.out.trans (B3.mono HB2.out.size))
      have HC3 := Lib.hid ((B3.cell (p := ⟨b2, 0, none⟩) (World.block_lt_of_cell? _ _ HC2.out)).trans HC2.out)
      have HTL := Lib.hid (show l ≠ t by have := HL2.out.lt; omega)
      clear RT B3 sz3 HR2 HL2 HS2 HB2 HC2
      go_upto_region 9 with fail
      rw [← hV3]
      try rw [← ht]
      clear hV3 ht
      have t_0 := HT3.out.c 0 _ rfl
      have t_1 := HT3.out.c 1 _ rfl
      have l_0 := HL3.out.c 0 _ rfl
      have l_1 := HL3.out.c 1 _ rfl
      have l_z := HL3.out.fz
      have r_7 := HR3.out.c 7 _ rfl
      go_upto_region 13 with fail
      clear t_0 t_1 l_0 l_1 l_z
      have HL4 := HL3
      have HR4 := HR3
      have HS4 := HS3
      have HB4 := HB3
      have HC4 := HC3
      have KE := Lib.hid (show Calls Tryd.prog 28 #[.slice (some ⟨w5.heap.size, 0, none⟩) 1 1, .slice (some ⟨b2, 0, none⟩) 1 c9] V3 fun e w' => e = .returned (.bool true) ∧ Below V3.heap.size V3 w' from equal1_any w5.heap.size 0 1 b2 c9 6 6 V3 (HS4.out.c 0 _ rfl) HC4.out)
      go_wp2_with fail
      refine KE.out.mono ?_
      rintro e v5 ⟨rfl, hb⟩
      have HL5 := Lib.hid (HL4.out.keep hb)
      have HR5 := Lib.hid (HR4.out.keep hb)
      have HS5 := Lib.hid (HS4.out.keep hb)
      have HB5 := Lib.hid (HB4.out.trans (hb.mono HB4.out.size))
      clear r_7 hb
      have HG6 := Lib.hid (HG5.out.keep HB5.out)
      have g_0 := HG6.out.c 0 _ rfl
      have g_1 := HG6.out.c 1 _ rfl
      have g_z := HG6.out.fz
      have l_0 := HL5.out.c 0 _ rfl
      have l_1 := HL5.out.c 1 _ rfl
      go_wp2_with fail
      have hs := HG6.out.setRow [.int .i64 2, .int .i64 1] rfl
      have y0 : ((v5.setCell ⟨g, 0, none⟩ (.int .i64 2)).setCell ⟨g, 1, none⟩ (.int .i64 1)).cell? ⟨g, 0, none⟩ = some (.int .i64 2) := hs.c 0 _ rfl
      have y1 : ((v5.setCell ⟨g, 0, none⟩ (.int .i64 2)).setCell ⟨g, 1, none⟩ (.int .i64 1)).cell? ⟨g, 1, none⟩ = some (.int .i64 1) := hs.c 1 _ rfl
      (try simp only [Exit.inBlock, Exit.then])
      refine bodyPost_ret (by simp [results, Tryd.results15, go_sem, y0, y1]; try rfl) rfl ?_
      exact ⟨rfl, set_below (HB0.out.trans ((HB05.out.trans (HB5.out.mono HB05.out.size)).mono HB0.out.size)) HWG.out [.int .i64 2, .int .i64 1]⟩
end Go.Proofs.YtmhfkdnblemfdaaDoor
