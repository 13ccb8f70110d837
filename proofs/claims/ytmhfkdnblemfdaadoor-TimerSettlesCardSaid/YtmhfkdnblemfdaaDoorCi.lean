/- awake of the laws of timer answers true. Asked: MaxLen's cell holds some number. -/
import Derived.Test.YtmhfkdnblemfdaaDoorCh
namespace Go.Proofs.YtmhfkdnblemfdaaDoor
open Go.RowKit Go.Shelf

set_option linter.unusedVariables false
theorem own_row {w : World} {B e sz n : Nat} {v : Value} {xs : List Value} (h : w.ownsRow B e sz v n xs) (h0 : 0 < n) : ∃ g cap, v = .slice (some ⟨g, 0, none⟩) n cap ∧ B ≤ g ∧ RowAt w g xs := by
  rcases h.2 with ⟨_, h1⟩ | ⟨g, cap, cur, rfl, hb, hg, _, _, _, ht⟩
  · omega
  · refine ⟨g, cap, rfl, hb, ⟨fun i u hu => own_cell hg ht i u hu, fun o => ?_, ?_⟩⟩
    · simp [World.frozen?, hg]
    · exact (Array.getElem?_eq_some_iff.1 hg).1
/-- a list of lists for one run: its slice, and what it holds -/
theorem ll_run {w : World} {B : Nat} {v : Value} {bs : List Bool} (h : LL w B v bs.length (onesV bs)) : ∃ oa rs oc, v = .slice oa rs.length oc ∧ rs.length = bs.length ∧ InsOk w oa rs (insV 2 (bs.map bitN)) := by
  obtain ⟨oa, rs, oc, h1, h2, h3⟩ := ll_in h
  rw [onesV_ins] at h3
  exact ⟨oa, rs, oc, h1, h2, h3⟩
theorem bits_ok (bs : List Bool) : ∀ a ∈ bs.map bitN, a = 0 ∨ a = 1 := by
  intro a h
  obtain ⟨b, _, rfl⟩ := List.mem_map.1 h
  cases b
  · exact Or.inl rfl
  · exact Or.inr rfl
theorem ins_lit1 {w : World} {g : Nat} {x : Int} (h : RowAt w g [.int .i64 x]) : InS w (some ⟨g, 0, none⟩) 1 1 (flat iL [x]) := by
  refine ⟨rfl, by decide, .inr ⟨g, 0, rfl, h.lt, fun j u hu => ?_⟩⟩
  rw [Nat.zero_add]
  exact h.c j u hu
theorem ins_bools {w : World} {g : Nat} {bs : List Bool} (hl : bs.length ≤ 100) (h : RowAt w g (flat boolL bs)) : InS w (some ⟨g, 0, none⟩) bs.length 1 (flat boolL bs) := by
  refine ⟨by rw [flat_len boolL_len], by omega, .inr ⟨g, 0, rfl, h.lt, fun j u hu => ?_⟩⟩
  rw [Nat.zero_add]
  exact h.c j u hu
theorem ex_ondelay : flat valL (outsV 2 (ovOndelay 2 1 (([false, true, true, true, false] : List Bool).map bitN)) 5) = [.int .i64 2, .int .i64 0, .int .i64 2, .int .i64 0, .int .i64 2, .int .i64 0, .int .i64 2, .int .i64 1, .int .i64 2, .int .i64 0] := by kernel_rfl
theorem ex_offdelay : flat valL (outsV 2 (ovOffdelay 2 1 (([true, false, false, false] : List Bool).map bitN)) 4) = [.int .i64 2, .int .i64 1, .int .i64 2, .int .i64 1, .int .i64 2, .int .i64 1, .int .i64 2, .int .i64 0] := by kernel_rfl
theorem ex_pulse : flat valL (outsV 2 (ovPulse 2 1 (([true, true, true, false, true] : List Bool).map bitN)) 5) = [.int .i64 2, .int .i64 1, .int .i64 2, .int .i64 1, .int .i64 2, .int .i64 0, .int .i64 2, .int .i64 0, .int .i64 2, .int .i64 1] := by kernel_rfl
set_option maxHeartbeats 16000000 in
set_option maxRecDepth 100000 in
theorem awake_yes (w : World) (hm : MaxAt w) : Calls Tryd.prog 10 #[] w fun e w' => e = .returned (.bool true) ∧ Below w.heap.size w w' := by
  have HM := Lib.hid hm
  clear hm
  have HB0 := Lib.hid (Below.refl w.heap.size w)
  obtain ⟨W1, p0, q0, hW, hp, hq, RP, RQ, B, sz⟩ := box2 w #[.int .i64 2] 2 #[.bool false, .bool true, .bool true, .bool true, .bool false] 4
  have HP := Lib.hid RP
  have HQ := Lib.hid (show RowAt W1 q0 (flat boolL [false, true, true, true, false]) from RQ)
  have HBa := Lib.hid (HB0.out.trans (B.mono HB0.out.size))
  go_enter Tryd.func10, Tryd.ntmps10
  clear RP RQ B sz
  go_wp2_with fail
  rw [← hW]
  try rw [← hq]
  try rw [← hp]
  clear hW hp hq
  have KO := Lib.hid (on_any (some ⟨q0, 0, none⟩) 5 [false, true, true, true, false] W1 (by decide) (ins_bools (by decide) HQ.out))
  refine KO.out.mono ?_
  rintro e w2 ⟨v, rfl, hll, hb⟩
  obtain ⟨oa, rs, oc, rfl, hrl, hio⟩ := ll_run hll
  have HPb := Lib.hid (HP.out.keep hb)
  have HBb := Lib.hid (HBa.out.trans (hb.mono HBa.out.size))
  have kr := runOndelay 2 1 (([false, true, true, true, false] : List Bool).map bitN) (by decide) (by decide) (by decide) (bits_ok _) (by decide) (some ⟨p0, 0, none⟩) 1 oa oc rs w2 (HM.out.keep HBb.out) (ins_lit1 HPb.out) hio
  rw [hrl] at kr ⊢
  rw [show ([false, true, true, true, false] : List Bool).length = 5 from rfl, ex_ondelay] at kr
  simp only [List.length_cons, List.length_nil, Nat.zero_add, Nat.reduceAdd]
  have KR := Lib.hid kr
  clear kr hll hrl hio hb KO HP HQ HPb
  go_wp2_with fail
  refine KR.out.mono ?_
  rintro e w3 ⟨v, rfl, ho, hb⟩
  obtain ⟨g0, cap0, rfl, hgb, HO⟩ := own_row ho (by decide)
  have HR0 := Lib.hid HO
  have HB1 := Lib.hid (HBb.out.trans (hb.mono HBb.out.size))
  clear hb ho hgb HO KR HBa HBb
  obtain ⟨W4, p1, q1, hW, hp, hq, RP, RQ, B, sz⟩ := box2 w3 #[.int .i64 2] 2 #[.bool true, .bool false, .bool false, .bool false] 4
  have HP := Lib.hid RP
  have HQ := Lib.hid (show RowAt W4 q1 (flat boolL [true, false, false, false]) from RQ)
  have HBa := Lib.hid (HB1.out.trans (B.mono HB1.out.size))
  have HR0 := Lib.hid (HR0.out.keep B)
  clear RP RQ B sz
  go_wp2_with fail
  rw [← hW]
  try rw [← hq]
  try rw [← hp]
  clear hW hp hq
  have KO := Lib.hid (on_any (some ⟨q1, 0, none⟩) 4 [true, false, false, false] W4 (by decide) (ins_bools (by decide) HQ.out))
  refine KO.out.mono ?_
  rintro e w5 ⟨v, rfl, hll, hb⟩
  obtain ⟨oa, rs, oc, rfl, hrl, hio⟩ := ll_run hll
  have HPb := Lib.hid (HP.out.keep hb)
  have HBb := Lib.hid (HBa.out.trans (hb.mono HBa.out.size))
  have HR0 := Lib.hid (HR0.out.keep hb)
  have kr := runOffdelay 2 1 (([true, false, false, false] : List Bool).map bitN) (by decide) (by decide) (by decide) (bits_ok _) (by decide) (some ⟨p1, 0, none⟩) 1 oa oc rs w5 (HM.out.keep HBb.out) (ins_lit1 HPb.out) hio
  rw [hrl] at kr ⊢
  rw [show ([true, false, false, false] : List Bool).length = 4 from rfl, ex_offdelay] at kr
  simp only [List.length_cons, List.length_nil, Nat.zero_add, Nat.reduceAdd]
  have KR := Lib.hid kr
  clear kr hll hrl hio hb KO HP HQ HPb
  go_wp2_with fail
  refine KR.out.mono ?_
  rintro e w6 ⟨v, rfl, ho, hb⟩
  obtain ⟨g1, cap1, rfl, hgb, HO⟩ := own_row ho (by decide)
  have HR1 := Lib.hid HO
  have HB2 := Lib.hid (HBb.out.trans (hb.mono HBb.out.size))
  have HR0 := Lib.hid (HR0.out.keep hb)
  clear hb ho hgb HO KR HBa HBb
  obtain ⟨W7, p2, q2, hW, hp, hq, RP, RQ, B, sz⟩ := box2 w6 #[.int .i64 2] 2 #[.bool true, .bool true, .bool true, .bool false, .bool true] 4
  have HP := Lib.hid RP
  have HQ := Lib.hid (show RowAt W7 q2 (flat boolL [true, true, true, false, true]) from RQ)
  have HBa := Lib.hid (HB2.out.trans (B.mono HB2.out.size))
  have HR0 := Lib.hid (HR0.out.keep B)
  have HR1 := Lib.hid (HR1.out.keep B)
  clear RP RQ B sz
  go_wp2_with fail
  rw [← hW]
  try rw [← hq]
  try rw [← hp]
  clear hW hp hq
  have KO := Lib.hid (on_any (some ⟨q2, 0, none⟩) 5 [true, true, true, false, true] W7 (by decide) (ins_bools (by decide) HQ.out))
  refine KO.out.mono ?_
  rintro e w8 ⟨v, rfl, hll, hb⟩
  obtain ⟨oa, rs, oc, rfl, hrl, hio⟩ := ll_run hll
  have HPb := Lib.hid (HP.out.keep hb)
  have HBb := Lib.hid (HBa.out.trans (hb.mono HBa.out.size))
  have HR0 := Lib.hid (HR0.out.keep hb)
  have HR1 := Lib.hid (HR1.out.keep hb)
  have kr := runPulse 2 1 (([true, true, true, false, true] : List Bool).map bitN) (by decide) (by decide) (by decide) (bits_ok _) (by decide) (some ⟨p2, 0, none⟩) 1 oa oc rs w8 (HM.out.keep HBb.out) (ins_lit1 HPb.out) hio
  rw [hrl] at kr ⊢
  rw [show ([true, true, true, false, true] : List Bool).length = 5 from rfl, ex_pulse] at kr
  simp only [List.length_cons, List.length_nil, Nat.zero_add, Nat.reduceAdd]
  have KR := Lib.hid kr
  clear kr hll hrl hio hb KO HP HQ HPb
  go_wp2_with fail
  refine KR.out.mono ?_
  rintro e w9 ⟨v, rfl, ho, hb⟩
  obtain ⟨g2, cap2, rfl, hgb, HO⟩ := own_row ho (by decide)
  have HR2 := Lib.hid HO
  have HB3 := Lib.hid (HBb.out.trans (hb.mono HBb.out.size))
  have HR0 := Lib.hid (HR0.out.keep hb)
  have HR1 := Lib.hid (HR1.out.keep hb)
  clear hb ho hgb HO KR HBa HBb
  obtain ⟨W10, p9, q9, hW, hp, hq, RP, RQ, B, sz⟩ := box2 w9 #[.int .i64 5] 2 #[.int .i64 0] 2
  have HP := Lib.hid RP
  have HQ := Lib.hid RQ
  have HBa := Lib.hid (HB3.out.trans (B.mono HB3.out.size))
  have HR0 := Lib.hid (HR0.out.keep B)
  have HR1 := Lib.hid (HR1.out.keep B)
  have HR2 := Lib.hid (HR2.out.keep B)
  clear RP RQ B sz
  go_wp2_with fail
  rw [← hW]
  try rw [← hq]
  try rw [← hp]
  clear hW hp hq
  refine (lbit_any true _).mono ?_
  rintro e w11 ⟨rfl, hb⟩
  have HR0 := Lib.hid (HR0.out.keep hb)
  have HR1 := Lib.hid (HR1.out.keep hb)
  have HR2 := Lib.hid (HR2.out.keep hb)
  have HPb := Lib.hid (HP.out.keep hb)
  have HQb := Lib.hid (HQ.out.keep hb)
  have HBb := Lib.hid (HBa.out.trans (hb.mono HBa.out.size))
  obtain ⟨W12, i9, hW, hi, RI, B, sz⟩ := box1 w11 #[.int .i64 2, .int .i64 (bitN true)] 26
  have HI := Lib.hid RI
  have HPc := Lib.hid (HPb.out.keep B)
  have HQc := Lib.hid (HQb.out.keep B)
  have HBc := Lib.hid (HBb.out.trans (B.mono HBb.out.size))
  have HR0 := Lib.hid (HR0.out.keep B)
  have HR1 := Lib.hid (HR1.out.keep B)
  have HR2 := Lib.hid (HR2.out.keep B)
  have ks := settle_ex (some ⟨p9, 0, none⟩) 1 q9 0 1 (some ⟨i9, 0, none⟩) 1 W12 (HM.out.keep HBc.out) (ins_lit1 HPc.out) (HQc.out.c 0 _ rfl) ⟨rfl, by decide, .inr ⟨i9, 0, rfl, HI.out.lt, fun j u hu => by rw [Nat.zero_add]; exact HI.out.c j u hu⟩⟩
  have KS := Lib.hid ks
  clear ks hb B sz RI HP HQ HPb HQb HPc HQc HI HBa HBb
  go_wp2_with fail
  rw [← hW]
  try rw [← hi]
  clear hW hi
  go_wp2_with fail
  refine KS.out.mono ?_
  rintro e w13 ⟨rfl, hb⟩
  have HR0 := Lib.hid (HR0.out.keep hb)
  have HR1 := Lib.hid (HR1.out.keep hb)
  have HR2 := Lib.hid (HR2.out.keep hb)
  have HBd := Lib.hid (HBc.out.trans (hb.mono HBc.out.size))
  obtain ⟨W14, v9, hW, hv, RV, B, sz⟩ := box1 w13 #[.int .i64 2, .int .i64 1] 26
  have HV := Lib.hid RV
  have HBe := Lib.hid (HBd.out.trans (B.mono HBd.out.size))
  have HR0 := Lib.hid (HR0.out.keep B)
  have HR1 := Lib.hid (HR1.out.keep B)
  have HR2 := Lib.hid (HR2.out.keep B)
  clear hb RV B sz HBc HBd KS
  go_upto_region 5 with fail
  rw [← hW]
  try rw [← hv]
  clear hW hv
  have a5 := HR0.out.c 5 _ rfl
  have a7 := HR0.out.c 7 _ rfl
  have a9 := HR0.out.c 9 _ rfl
  have b5 := HR1.out.c 5 _ rfl
  have b7 := HR1.out.c 7 _ rfl
  have c3 := HR2.out.c 3 _ rfl
  have c5 := HR2.out.c 5 _ rfl
  have c9 := HR2.out.c 9 _ rfl
  have v1 := HV.out.c 1 _ rfl
  go_wp2_with fail
  refine (names_any _).mono ?_
  rintro e w15 ⟨na, nc, rfl, _, hb⟩
  have HBf := Lib.hid (HBe.out.trans (hb.mono HBe.out.size))
  clear hb
  go_wp2_with fail
  go_ret
  exact ⟨rfl, HBf.out⟩
end Go.Proofs.YtmhfkdnblemfdaaDoor
