/- awake answers true: the chapter's examples. -/
import Derived.Test.YtepmeacdacnhmaaPw
namespace Go.Proofs.Ytepmeacdacnhmaa
open Go.RowKit

theorem ctl1V : ctlV 2000 60 0 100000 false false 0 0 21000 20000 30 = .tuple #[.agg #[.bool true, .int .i64 (-1000), .int .i64 0], .int .i64 1000, .int .i64 0] := by kernel_rfl
theorem ctl1 (w : World) : Calls Try.prog 9 #[.agg #[.int .i64 2000, .int .i64 60, .int .i64 0, .int .i64 100000, .bool false], .agg #[.bool false, .int .i64 0, .int .i64 0], .int .i64 21000, .int .i64 20000, .int .i64 30] w fun e w' => e = .returned (.tuple #[.agg #[.bool true, .int .i64 (-1000), .int .i64 0], .int .i64 1000, .int .i64 0]) ∧ Below w.heap.size w w' := by
  have h := control_yes 2000 60 0 100000 false false 0 0 21000 20000 30 w setB_ex (by decide) timeB_ex (by decide)
  rw [ctl1V] at h
  exact h
theorem ctl2V : ctlV 2000 60 0 100000 false true (-1000) 0 21000 20000 30 = .tuple #[.agg #[.bool true, .int .i64 0, .int .i64 0], .int .i64 2000, .int .i64 0] := by kernel_rfl
theorem ctl2 (w : World) : Calls Try.prog 9 #[.agg #[.int .i64 2000, .int .i64 60, .int .i64 0, .int .i64 100000, .bool false], .agg #[.bool true, .int .i64 (-1000), .int .i64 0], .int .i64 21000, .int .i64 20000, .int .i64 30] w fun e w' => e = .returned (.tuple #[.agg #[.bool true, .int .i64 0, .int .i64 0], .int .i64 2000, .int .i64 0]) ∧ Below w.heap.size w w' := by
  have h := control_yes 2000 60 0 100000 false true (-1000) 0 21000 20000 30 w setB_ex (by decide) timeB_ex (by decide)
  rw [ctl2V] at h
  exact h
theorem ctl3V : ctlV 2000 60 0 100000 false true 0 0 21000 21000 30 = .tuple #[.agg #[.bool true, .int .i64 0, .int .i64 0], .int .i64 0, .int .i64 0] := by kernel_rfl
theorem ctl3 (w : World) : Calls Try.prog 9 #[.agg #[.int .i64 2000, .int .i64 60, .int .i64 0, .int .i64 100000, .bool false], .agg #[.bool true, .int .i64 0, .int .i64 0], .int .i64 21000, .int .i64 21000, .int .i64 30] w fun e w' => e = .returned (.tuple #[.agg #[.bool true, .int .i64 0, .int .i64 0], .int .i64 0, .int .i64 0]) ∧ Below w.heap.size w w' := by
  have h := control_yes 2000 60 0 100000 false true 0 0 21000 21000 30 w setB_ex (by decide) timeB_ex (by decide)
  rw [ctl3V] at h
  exact h
theorem lim_exV : limV 0 10000 500 0 4 = 2000 ∧ limE 0 10000 500 0 4 = 0 := by decide +kernel
theorem set_exV : setV 0 10000 500 0 4 = 5 ∧ setF 0 10000 500 0 4 = 0 := by decide +kernel
theorem lim_ex (w : World) : Calls Try.prog 11 #[.int .i64 0, .int .i64 10000, .int .i64 500, .int .i64 0, .int .i64 4] w fun e w' => e = .returned (.tuple #[.int .i64 2000, .int .i64 0]) ∧ w = w' := by
  have h := limit_any 0 10000 500 0 4 w
  rw [lim_exV.1, lim_exV.2] at h
  exact h
theorem set_ex (w : World) : Calls Try.prog 13 #[.int .i64 0, .int .i64 10000, .int .i64 500, .int .i64 0, .int .i64 4] w fun e w' => e = .returned (.tuple #[.int .i64 5, .int .i64 0]) ∧ w = w' := by
  have h := settle_any 0 10000 500 0 4 w
  rw [set_exV.1, set_exV.2] at h
  exact h
set_option maxHeartbeats 8000000 in
set_option maxRecDepth 100000 in
theorem awake_yes (w : World) : Calls Try.prog 7 #[] w fun e w' => e = .returned (.bool true) ∧ Below w.heap.size w w' := by
  obtain ⟨W, g, hW, hg, RG, B, sz⟩ := box1 w #[.int .i64 2000, .int .i64 60, .int .i64 0, .int .i64 100000, .bool false] 26
  have HG := Lib.hid RG
  have HB := Lib.hid B
  go_enter Try.func7, Try.ntmps7
  go_upto_region 2 with fail
  rw [← hW]
  try rw [← hg]
  clear hW hg sz RG B
  have g_0 := HG.out.c 0 _ rfl
  have g_1 := HG.out.c 1 _ rfl
  have g_2 := HG.out.c 2 _ rfl
  have g_3 := HG.out.c 3 _ rfl
  have g_4 := HG.out.c 4 _ rfl
  go_wp2_with fail
  refine (ctl1 _).mono ?_
  rintro e w1 ⟨rfl, hb⟩
  obtain ⟨V1, x, hV, hx, RX, BX, sx⟩ := box1 w1 #[.bool true, .int .i64 (-1000), .int .i64 0] 28
  have hbb := hb.trans (BX.mono hb.size)
  clear g_0 g_1 g_2 g_3 g_4
  have HG1 := Lib.hid (HG.out.keep hbb)
  have HB1 := Lib.hid (HB.out.trans (hbb.mono HB.out.size))
  clear HG HB
  have HX1 := Lib.hid RX
  go_upto_region 3 with fail
  rw [← hV]
  try rw [← hx]
  clear hV hx RX BX sx hb hbb
  have g_0 := HG1.out.c 0 _ rfl
  have g_1 := HG1.out.c 1 _ rfl
  have g_2 := HG1.out.c 2 _ rfl
  have g_3 := HG1.out.c 3 _ rfl
  have g_4 := HG1.out.c 4 _ rfl
  have x_0 := HX1.out.c 0 _ rfl
  have x_1 := HX1.out.c 1 _ rfl
  have x_2 := HX1.out.c 2 _ rfl
  go_wp2_with fail
  refine (ctl2 _).mono ?_
  rintro e w2 ⟨rfl, hb⟩
  obtain ⟨V2, y, hV, hy, RX, BX, sx⟩ := box1 w2 #[.bool true, .int .i64 0, .int .i64 0] 28
  have hbb := hb.trans (BX.mono hb.size)
  clear g_0 g_1 g_2 g_3 g_4
  clear x_0 x_1 x_2
  have HG2 := Lib.hid (HG1.out.keep hbb)
  have HX2 := Lib.hid (HX1.out.keep hbb)
  have HB2 := Lib.hid (HB1.out.trans (hbb.mono HB1.out.size))
  clear HG1 HX1 HB1
  have HY2 := Lib.hid RX
  go_upto_region 4 with fail
  rw [← hV]
  try rw [← hy]
  clear hV hy RX BX sx hb hbb
  have g_0 := HG2.out.c 0 _ rfl
  have g_1 := HG2.out.c 1 _ rfl
  have g_2 := HG2.out.c 2 _ rfl
  have g_3 := HG2.out.c 3 _ rfl
  have g_4 := HG2.out.c 4 _ rfl
  have y_0 := HY2.out.c 0 _ rfl
  have y_1 := HY2.out.c 1 _ rfl
  have y_2 := HY2.out.c 2 _ rfl
  go_wp2_with fail
  refine (ctl3 _).mono ?_
  rintro e w3 ⟨rfl, hb⟩
  obtain ⟨V3, z, hV, hz, RX, BX, sx⟩ := box1 w3 #[.bool true, .int .i64 0, .int .i64 0] 28
  have hbb := hb.trans (BX.mono hb.size)
  clear g_0 g_1 g_2 g_3 g_4
  clear y_0 y_1 y_2
  have HG3 := Lib.hid (HG2.out.keep hbb)
  have HX3 := Lib.hid (HX2.out.keep hbb)
  have HY3 := Lib.hid (HY2.out.keep hbb)
  have HB3 := Lib.hid (HB2.out.trans (hbb.mono HB2.out.size))
  clear HG2 HX2 HY2 HB2
  have HZ3 := Lib.hid RX
  go_upto_region 5 with fail
  rw [← hV]
  try rw [← hz]
  clear hV hz RX BX sx hb hbb
  go_wp2_with fail
  refine (lim_ex _).mono ?_
  rintro e w' ⟨rfl, rfl⟩
  go_wp2_with fail
  refine (set_ex _).mono ?_
  rintro e w' ⟨rfl, rfl⟩
  go_wp2_with fail
  obtain ⟨V4, pb, sb, ib, hV, hp, hs, hi, RP, RS, RI, BX, sx⟩ := box3 V3 #[.int .i64 2000, .int .i64 60, .int .i64 0, .int .i64 100000, .int .i64 0] 2 #[.int .i64 0, .int .i64 0, .int .i64 0] 2 #[.int .i64 1, .int .i64 21000, .int .i64 1, .int .i64 20000, .int .i64 2, .int .i64 1] 43
  have HX4 := Lib.hid (HX3.out.keep BX)
  have HB4 := Lib.hid (HB3.out.trans (BX.mono HB3.out.size))
  clear HX3 HB3
  rw [← hV]
  try rw [← hi]
  try rw [← hs]
  try rw [← hp]
  clear hV hp hs hi BX sx
  refine (step_ex pb sb ib _ RP RS RI).mono ?_
  rintro e w5 ⟨nb, rfl, hnb, hb⟩
  obtain ⟨V5, q, hV, hq, RQ, BX, sx⟩ := box1 w5 #[.int .i64 1, .int .i64 1000] 43
  have hbb := hb.trans (BX.mono hb.size)
  have HX5 := Lib.hid (HX4.out.keep hbb)
  have HB5 := Lib.hid (HB4.out.trans (hbb.mono HB4.out.size))
  clear HX4 HB4
  have HN := Lib.hid (hnb.keep BX)
  have HQ := Lib.hid RQ
  clear RP RS RI
  go_upto_region 8 with fail
  rw [← hV]
  try rw [← hq]
  clear hV hq RQ BX sx hb hbb hnb
  have x_0 := HX5.out.c 0 _ rfl
  have x_1 := HX5.out.c 1 _ rfl
  have x_2 := HX5.out.c 2 _ rfl
  have q_0 := HQ.out.c 0 _ rfl
  have q_1 := HQ.out.c 1 _ rfl
  go_wp2_with fail
  obtain ⟨V6, tb, hV, ht, RT, BX, sx⟩ := box1 V5 #[.int .i64 1, .int .i64 (-1000), .int .i64 0] 2
  have HN6 := Lib.hid (HN.out.keep BX)
  have HQ6 := Lib.hid (HQ.out.keep BX)
  have HB6 := Lib.hid (HB5.out.trans (BX.mono HB5.out.size))
  rw [← hV]
  try rw [← ht]
  clear hV ht BX sx
  clear x_0 x_1 x_2 q_0 q_1
  refine (same_ex nb tb _ HN6.out RT).mono ?_
  rintro e w7 ⟨rfl, hb⟩
  have HQ7 := Lib.hid (HQ6.out.keep hb)
  have HB7 := Lib.hid (HB6.out.trans (hb.mono HB6.out.size))
  have q_0 := HQ7.out.c 0 _ rfl
  have q_1 := HQ7.out.c 1 _ rfl
  go_wp2_with fail
  go_ret
  exact ⟨rfl, HB7.out⟩
end Go.Proofs.Ytepmeacdacnhmaa
