/- awake of the laws of lexer answers true. Asked: strconv's table of powers reads as laid. -/
import Derived.Test.YtaaaddmdcldclaaGreatDoorNw
import Derived.Deep.CutBlock
import Derived.Test.YtaaaddmdcldclaaGreatDoorNe
import Derived.Test.YtaaaddmdcldclaaGreatDoorNc
namespace Go.Proofs.YtaaaddmdcldclaaGreatDoor
open Go.RowKit Go.Shelf
set_option linter.unusedVariables false
set_option linter.unusedSimpArgs false

set_option maxRecDepth 100000 in
theorem aw_1 : scanS ⟨#[32, 32, 97, 116, 32, 48, 54, 58, 51, 48, 32, 61, 32, 50, 49, 46, 53, 48, 44, 32, 34, 77, 97, 105, 110, 32, 104, 97, 108, 108, 34, 58, 32, 35, 32, 104, 101, 97, 116]⟩ = ⟨1, [⟨1, ⟨#[97, 116]⟩, 0, 3⟩, ⟨4, ⟨#[]⟩, 390, 6⟩, ⟨6, ⟨#[61]⟩, 0, 12⟩, ⟨2, ⟨#[]⟩, 21500, 14⟩, ⟨6, ⟨#[44]⟩, 0, 19⟩, ⟨3, ⟨#[77, 97, 105, 110, 32, 104, 97, 108, 108]⟩, 0, 21⟩], true, ⟨#[32, 104, 101, 97, 116]⟩, 0, 0⟩ := by kernel_rfl
theorem aw_2 : scanS ⟨#[32, 97]⟩ = ⟨0, [], false, ⟨#[]⟩, 2, 2⟩ := by kernel_rfl
theorem aw_3 : scanS ⟨#[50, 48, 50, 54, 45, 49, 51, 45, 48, 49]⟩ = ⟨0, [], false, ⟨#[]⟩, 6, 1⟩ := by kernel_rfl
theorem aw_4 : spellB 4 ⟨#[]⟩ 390 = ⟨#[48, 54, 58, 51, 48]⟩ := by kernel_rfl
theorem aw_5 : readR ⟨#[48, 54, 58, 51, 48]⟩ = ⟨4, ⟨#[]⟩, 390, 5, 0⟩ := by kernel_rfl
theorem aw_6 : splitV ⟨#[97, 104, 117, 95, 49, 47, 102, 97, 110]⟩ = #[.string ⟨#[97, 104, 117, 95, 49]⟩, .string ⟨#[102, 97, 110]⟩, .int .i64 0] := by kernel_rfl
theorem aw_7 : nameB ⟨#[97, 49, 95]⟩ = true ∧ nameB ⟨#[49, 97]⟩ = false ∧ labelB ⟨#[77, 97, 105, 110, 32, 104, 97, 108, 108]⟩ = true := by refine ⟨?_, ?_, ?_⟩ <;> kernel_rfl
theorem aw_ok : tokOk 4 ⟨#[]⟩ 390 := by
  unfold tokOk
  rw [aw_4]
  exact ⟨by decide, aw_5⟩
theorem aw_scan1 (w : World) : Calls Tryz.prog 11 #[.string ⟨#[32, 32, 97, 116, 32, 48, 54, 58, 51, 48, 32, 61, 32, 50, 49, 46, 53, 48, 44, 32, 34, 77, 97, 105, 110, 32, 104, 97, 108, 108, 34, 58, 32, 35, 32, 104, 101, 97, 116]⟩] w fun e w' => (∃ a c, e = .returned (.tuple #[.agg #[.int .i64 1, .slice a 6 c, .bool true, .string ⟨#[32, 104, 101, 97, 116]⟩], .agg #[.int .i64 0, .int .i64 0, .int .i64 0]]) ∧ InS w' a 6 4 (flat tkC [⟨1, ⟨#[97, 116]⟩, 0, 3⟩, ⟨4, ⟨#[]⟩, 390, 6⟩, ⟨6, ⟨#[61]⟩, 0, 12⟩, ⟨2, ⟨#[]⟩, 21500, 14⟩, ⟨6, ⟨#[44]⟩, 0, 19⟩, ⟨3, ⟨#[77, 97, 105, 110, 32, 104, 97, 108, 108]⟩, 0, 21⟩])) ∧ Below w.heap.size w w' := by
  refine (scan_any ⟨#[32, 32, 97, 116, 32, 48, 54, 58, 51, 48, 32, 61, 32, 50, 49, 46, 53, 48, 44, 32, 34, 77, 97, 105, 110, 32, 104, 97, 108, 108, 34, 58, 32, 35, 32, 104, 101, 97, 116]⟩ w).mono ?_
  rintro e w' ⟨⟨a, c, rfl, hi⟩, hb⟩
  rw [aw_1] at hi
  rw [aw_1]
  exact ⟨⟨a, c, rfl, hi⟩, hb⟩
theorem aw_scan2 (w : World) : Calls Tryz.prog 11 #[.string ⟨#[32, 97]⟩] w fun e w' => (∃ a c, e = .returned (.tuple #[.agg #[.int .i64 0, .slice a 0 c, .bool false, .string ⟨#[]⟩], .agg #[.int .i64 2, .int .i64 0, .int .i64 2]]) ∧ InS w' a 0 4 (flat tkC [])) ∧ Below w.heap.size w w' := by
  refine (scan_any ⟨#[32, 97]⟩ w).mono ?_
  rintro e w' ⟨⟨a, c, rfl, hi⟩, hb⟩
  rw [aw_2] at hi
  rw [aw_2]
  exact ⟨⟨a, c, rfl, hi⟩, hb⟩
theorem aw_scan3 (w : World) : Calls Tryz.prog 11 #[.string ⟨#[50, 48, 50, 54, 45, 49, 51, 45, 48, 49]⟩] w fun e w' => (∃ a c, e = .returned (.tuple #[.agg #[.int .i64 0, .slice a 0 c, .bool false, .string ⟨#[]⟩], .agg #[.int .i64 6, .int .i64 0, .int .i64 1]]) ∧ InS w' a 0 4 (flat tkC [])) ∧ Below w.heap.size w w' := by
  refine (scan_any ⟨#[50, 48, 50, 54, 45, 49, 51, 45, 48, 49]⟩ w).mono ?_
  rintro e w' ⟨⟨a, c, rfl, hi⟩, hb⟩
  rw [aw_3] at hi
  rw [aw_3]
  exact ⟨⟨a, c, rfl, hi⟩, hb⟩

set_option maxHeartbeats 8000000 in
set_option maxRecDepth 100000 in
theorem awake_yes (w : World) (ht : Tab w) : Calls Tryz.prog 10 #[] w fun e w' => e = .returned (.bool true) ∧ Below w.heap.size w w' := by
  have HT := Lib.hid (fun (x : World) (hb : Below w.heap.size w x) => ht.below hb)
  clear ht
  go_enter Tryz.func10, Tryz.ntmps10
  go_wp2_with fail
  refine (aw_scan1 _).mono ?_
  rintro e w1 ⟨⟨a1, c1, rfl, hi1⟩, hb⟩
  have HI1 := Lib.hid hi1
  have HB1 := Lib.hid hb
  clear hb hi1
  have HB := HB1
  clear HB1
  obtain ⟨V1, s1, f1, hV, hs, hf, RA, RF, BB, sz⟩ := box2 w1 #[.int .i64 1, .slice a1 6 c1, .bool true, .string ⟨#[32, 104, 101, 97, 116]⟩] 25 #[.int .i64 0, .int .i64 0, .int .i64 0] 28
  have HS1 := Lib.hid RA
  have HF1 := Lib.hid RF
  have HI1 := Lib.hid (HI1.out.keep BB)
  have HBV := Lib.hid (HB.out.trans (BB.mono HB.out.size))
  clear RA RF BB HB
  go_wp2_with fail
  rw [← hV]
  try rw [← hf]
  try rw [← hs]
  clear hV hs hf
  refine (aw_scan2 _).mono ?_
  rintro e w2 ⟨⟨a2, c2, rfl, _⟩, hb⟩
  have HB := Lib.hid (HBV.out.trans (hb.mono HBV.out.size))
  have HI1 := Lib.hid (HI1.out.keep hb)
  have HS1 := Lib.hid (HS1.out.keep hb)
  have HF1 := Lib.hid (HF1.out.keep hb)
  clear hb HBV sz
  obtain ⟨V2, s2, f2, hV, hs, hf, RA, RF, BB, sz⟩ := box2 w2 #[.int .i64 0, .slice a2 0 c2, .bool false, .string ⟨#[]⟩] 25 #[.int .i64 2, .int .i64 0, .int .i64 2] 28
  have HS2 := Lib.hid RA
  have HF2 := Lib.hid RF
  have HI1 := Lib.hid (HI1.out.keep BB)
  have HS1 := Lib.hid (HS1.out.keep BB)
  have HF1 := Lib.hid (HF1.out.keep BB)
  have HBV := Lib.hid (HB.out.trans (BB.mono HB.out.size))
  clear RA RF BB HB
  go_wp2_with fail
  rw [← hV]
  try rw [← hf]
  try rw [← hs]
  clear hV hs hf
  refine (aw_scan3 _).mono ?_
  rintro e w3 ⟨⟨a3, c3, rfl, _⟩, hb⟩
  have HB := Lib.hid (HBV.out.trans (hb.mono HBV.out.size))
  have HI1 := Lib.hid (HI1.out.keep hb)
  have HS1 := Lib.hid (HS1.out.keep hb)
  have HF1 := Lib.hid (HF1.out.keep hb)
  have HS2 := Lib.hid (HS2.out.keep hb)
  have HF2 := Lib.hid (HF2.out.keep hb)
  clear hb HBV sz
  have HSP := Lib.hid (fun (x : World) (hb : Below w.heap.size w x) => (by have h := spell_any 4 ⟨#[]⟩ 390 0 (by decide) x (HT.out x hb); rw [(spell_yes aw_ok).1, (spell_yes aw_ok).2, aw_4] at h; exact h : Calls Tryz.prog 16 #[.agg #[.int .i64 4, .string ⟨#[]⟩, .int .i64 390, .int .i64 0]] x fun e w' => e = .returned (.tuple #[.string ⟨#[48, 54, 58, 51, 48]⟩, .int .i64 0]) ∧ Below x.heap.size x w'))
  obtain ⟨V3, s3, f3, hV, hs, hf, RA, RF, BB, sz⟩ := box2 w3 #[.int .i64 0, .slice a3 0 c3, .bool false, .string ⟨#[]⟩] 25 #[.int .i64 6, .int .i64 0, .int .i64 1] 28
  have HS3 := Lib.hid RA
  have HF3 := Lib.hid RF
  have HI1 := Lib.hid (HI1.out.keep BB)
  have HS1 := Lib.hid (HS1.out.keep BB)
  have HF1 := Lib.hid (HF1.out.keep BB)
  have HS2 := Lib.hid (HS2.out.keep BB)
  have HF2 := Lib.hid (HF2.out.keep BB)
  have HBV := Lib.hid (HB.out.trans (BB.mono HB.out.size))
  clear RA RF BB HB
  go_wp2_with fail
  rw [← hV]
  try rw [← hf]
  try rw [← hs]
  clear hV hs hf
  refine (HSP.out _ HBV.out).mono ?_
  rintro e w4 ⟨rfl, hb⟩
  have HB := Lib.hid (HBV.out.trans (hb.mono HBV.out.size))
  have HI1 := Lib.hid (HI1.out.keep hb)
  have HS1 := Lib.hid (HS1.out.keep hb)
  have HF1 := Lib.hid (HF1.out.keep hb)
  have HS2 := Lib.hid (HS2.out.keep hb)
  have HF2 := Lib.hid (HF2.out.keep hb)
  have HS3 := Lib.hid (HS3.out.keep hb)
  have HF3 := Lib.hid (HF3.out.keep hb)
  clear hb HBV sz
  have HSL := Lib.hid (fun (x : World) => (by have h := split_path ⟨#[97, 104, 117, 95, 49, 47, 102, 97, 110]⟩ (by decide) x; rw [aw_6] at h; exact h : Calls Tryz.prog 20 #[.string ⟨#[97, 104, 117, 95, 49, 47, 102, 97, 110]⟩] x fun e w' => e = .returned (.tuple #[.string ⟨#[97, 104, 117, 95, 49]⟩, .string ⟨#[102, 97, 110]⟩, .int .i64 0]) ∧ Below x.heap.size x w'))
  have HN1 := Lib.hid (fun (x : World) => (by have h := name_any ⟨#[97, 49, 95]⟩ x; rw [aw_7.1] at h; exact h : Calls Tryz.prog 22 #[.string ⟨#[97, 49, 95]⟩] x fun e w' => e = .returned (.bool true) ∧ Below x.heap.size x w'))
  have HN2 := Lib.hid (fun (x : World) => (by have h := name_any ⟨#[49, 97]⟩ x; rw [aw_7.2.1] at h; exact h : Calls Tryz.prog 22 #[.string ⟨#[49, 97]⟩] x fun e w' => e = .returned (.bool false) ∧ Below x.heap.size x w'))
  have HL1 := Lib.hid (fun (x : World) => (by have h := label_any ⟨#[77, 97, 105, 110, 32, 104, 97, 108, 108]⟩ (by decide) x; rw [aw_7.2.2] at h; exact h : Calls Tryz.prog 26 #[.string ⟨#[77, 97, 105, 110, 32, 104, 97, 108, 108]⟩] x fun e w' => e = .returned (.bool true) ∧ Below x.heap.size x w'))
  go_wp2_with fail
  refine (HSL.out _).mono ?_
  rintro e w5 ⟨rfl, hb⟩
  have HI1 := Lib.hid (HI1.out.keep hb)
  have HS1 := Lib.hid (HS1.out.keep hb)
  have HF1 := Lib.hid (HF1.out.keep hb)
  have HS2 := Lib.hid (HS2.out.keep hb)
  have HF2 := Lib.hid (HF2.out.keep hb)
  have HS3 := Lib.hid (HS3.out.keep hb)
  have HF3 := Lib.hid (HF3.out.keep hb)
  have HB := Lib.hid (HB.out.trans (hb.mono HB.out.size))
  clear hb
  obtain ⟨tb, tq, rfl, htl, htc⟩ := (show InS w5 a1 ([⟨1, ⟨#[97, 116]⟩, 0, 3⟩, ⟨4, ⟨#[]⟩, 390, 6⟩, ⟨6, ⟨#[61]⟩, 0, 12⟩, ⟨2, ⟨#[]⟩, 21500, 14⟩, ⟨6, ⟨#[44]⟩, 0, 19⟩, ⟨3, ⟨#[77, 97, 105, 110, 32, 104, 97, 108, 108]⟩, 0, 21⟩] : List TkF).length 4 (flat tkC [⟨1, ⟨#[97, 116]⟩, 0, 3⟩, ⟨4, ⟨#[]⟩, 390, 6⟩, ⟨6, ⟨#[61]⟩, 0, 12⟩, ⟨2, ⟨#[]⟩, 21500, 14⟩, ⟨6, ⟨#[44]⟩, 0, 19⟩, ⟨3, ⟨#[77, 97, 105, 110, 32, 104, 97, 108, 108]⟩, 0, 21⟩]) from HI1.out).at tkC_len (by decide)
  have HTC := Lib.hid (show w5.cell? ⟨tb, tq + 1 * 4 + 2, none⟩ = some (.int .i64 390) ∧ w5.cell? ⟨tb, tq + 3 * 4 + 2, none⟩ = some (.int .i64 21500) ∧ w5.cell? ⟨tb, tq + 5 * 4 + 1, none⟩ = some (.string ⟨#[77, 97, 105, 110, 32, 104, 97, 108, 108]⟩) ∧ w5.cell? ⟨tb, tq + 0 * 4 + 3, none⟩ = some (.int .i64 3) from ⟨htc 1 _ rfl 2 _ rfl, htc 3 _ rfl 2 _ rfl, htc 5 _ rfl 1 _ rfl, htc 0 _ rfl 3 _ rfl⟩)
  clear htl htc HI1
  have x1 : w5.cell? ⟨tb, tq + 4 + 2, none⟩ = some (.int .i64 390) := HTC.out.1
  have x2 : w5.cell? ⟨tb, tq + 12 + 2, none⟩ = some (.int .i64 21500) := HTC.out.2.1
  have x3 : w5.cell? ⟨tb, tq + 20 + 1, none⟩ = some (.string ⟨#[77, 97, 105, 110, 32, 104, 97, 108, 108]⟩) := HTC.out.2.2.1
  have x4 : w5.cell? ⟨tb, tq + 3, none⟩ = some (.int .i64 3) := HTC.out.2.2.2
  have s_0 := HS1.out.c 0 _ rfl
  have s_1 := HS1.out.c 1 _ rfl
  have s_2 := HS1.out.c 2 _ rfl
  have s_3 := HS1.out.c 3 _ rfl
  have f_0 := HF1.out.c 0 _ rfl
  have f_1 := HF1.out.c 1 _ rfl
  have f_2 := HF1.out.c 2 _ rfl
  have u_0 := HF2.out.c 0 _ rfl
  have u_1 := HF2.out.c 1 _ rfl
  have u_2 := HF2.out.c 2 _ rfl
  have v_0 := HF3.out.c 0 _ rfl
  have v_1 := HF3.out.c 1 _ rfl
  have v_2 := HF3.out.c 2 _ rfl
  go_wp2_with fail
  clear x1 x2 x3 x4 s_0 s_1 s_2 s_3 f_0 f_1 f_2 u_0 u_1 u_2 v_0 v_1 v_2
  refine (HN1.out _).mono ?_
  rintro e w6 ⟨rfl, hb⟩
  have HB := Lib.hid (HB.out.trans (hb.mono HB.out.size))
  clear hb
  go_wp2_with fail
  refine (HN2.out _).mono ?_
  rintro e w7 ⟨rfl, hb⟩
  have HB := Lib.hid (HB.out.trans (hb.mono HB.out.size))
  clear hb
  go_wp2_with fail
  refine (HL1.out _).mono ?_
  rintro e w8 ⟨rfl, hb⟩
  have HB := Lib.hid (HB.out.trans (hb.mono HB.out.size))
  clear hb
  go_wp2_with fail
  go_ret
  exact ⟨rfl, HB.out⟩
end Go.Proofs.YtaaaddmdcldclaaGreatDoor
