/- awake of the laws of sequencer answers true. Asked: MaxLen's cell holds some number. -/
import Derived.Test.YthaigchklogjlaaDoorQi
namespace Go.Proofs.YthaigchklogjlaaDoor
open Go.RowKit Go.Shelf

set_option linter.unusedVariables false
set_option linter.unusedSimpArgs false
theorem ins_row {w : World} {g : Nat} {xs : List Int} (hl : xs.length ≤ 100) (h : RowAt w g (flat iL xs)) : InS w (some ⟨g, 0, none⟩) xs.length 1 (flat iL xs) := by
  refine ⟨by rw [flat_len iL_len], by omega, .inr ⟨g, 0, rfl, h.lt, fun j u hu => ?_⟩⟩
  rw [Nat.zero_add]
  exact h.c j u hu
theorem ins_val {w : World} {g : Nat} {k n : Int} (h : RowAt w g [.int .i64 k, .int .i64 n]) : InS w (some ⟨g, 0, none⟩) 1 2 (flat vdL [⟨k, n⟩]) := by
  refine ⟨rfl, by decide, .inr ⟨g, 0, rfl, h.lt, fun j u hu => ?_⟩⟩
  rw [Nat.zero_add]
  exact h.c j u hu
theorem ex_step : stageS 2 80000 30000 60 30 90000 20 0 40 = (1, 0) := by decide
def exS (k : Nat) : Int × Int := [((0 : Int), (40 : Int)), (1, 0), (1, 20), (1, 40), (2, 0)].getD k (0, 0)
def exD (k : Nat) : Int × Int := [((0 : Int), (0 : Int)), (1, 0), (1, 20), (2, 0), (2, 20), (3, 0)].getD k (0, 0)
theorem below5 {p : Nat → Prop} [DecidablePred p] {n : Nat} (h : (List.range n).all (fun k => decide (p k)) = true) : ∀ k, k < n → p k := by
  intro k hk
  have := List.all_eq_true.1 h k (List.mem_range.2 hk)
  exact of_decide_eq_true this
set_option maxHeartbeats 8000000 in
set_option maxRecDepth 100000 in
theorem awake_yes (w : World) (hm : MaxAt w) : Calls Tryd.prog 9 #[] w fun e w' => e = .returned (.bool true) ∧ Below w.heap.size w w' := by
  have HM := Lib.hid hm
  clear hm
  obtain ⟨W1, p1, p2, p3, hW, hp1, hp2, hp3, R1, R2, R3, B, sz⟩ := box3 w #[.int .i64 2, .int .i64 80000, .int .i64 30000, .int .i64 60, .int .i64 30] 2 #[.int .i64 0, .int .i64 40] 2 #[.int .i64 1, .int .i64 90000] 27
  have HR1 := Lib.hid (show RowAt W1 p1 (flat iL [2, 80000, 30000, 60, 30]) from R1)
  have HB1 := Lib.hid B
  have ks := step_stage 2 80000 30000 60 30 90000 0 40 20 (some ⟨p1, 0, none⟩) (some ⟨p2, 0, none⟩) (some ⟨p3, 0, none⟩) 5 2 1 W1 (HM.out.keep B) (by decide) (by decide) (by decide) (by decide) (by decide) (ins_row (xs := [2, 80000, 30000, 60, 30]) (by decide) R1) (ins_row (xs := [0, 40]) (by decide) R2) (ins_val R3)
  rw [ex_step] at ks
  have KS := Lib.hid ks
  clear ks R1 R2 R3 B sz
  go_enter Tryd.func9, Tryd.ntmps9
  go_wp2_with fail
  rw [← hW]
  try rw [← hp3]
  try rw [← hp2]
  try rw [← hp1]
  clear hW hp1 hp2 hp3
  refine KS.out.mono ?_
  rintro e w2 ⟨v, rfl, hown, hb⟩
  obtain ⟨va, vc, rfl, hvi⟩ := ins_own hown
  have HV2 := Lib.hid (show InS w2 va 2 1 (flat iL [1, 0]) from hvi)
  have HR2 := Lib.hid (HR1.out.keep hb)
  have HB2 := Lib.hid (HB1.out.trans (hb.mono HB1.out.size))
  obtain ⟨W3, b3, p4, hW, hb3, hp4, R1, R2, B, sz⟩ := box2 w2 #[.int .i64 3, .int .i64 2] 27 #[.int .i64 0, .int .i64 40] 2
  have HV3 := Lib.hid (HV2.out.keep B)
  have HR3 := Lib.hid (HR2.out.keep B)
  have HB3 := Lib.hid (HB2.out.trans (B.mono HB2.out.size))
  have HX3 := Lib.hid (show RowAt W3 b3 [.int .i64 3, .int .i64 2] from R1)
  have ks := settle_ok 2 80000 30000 60 30 90000 0 40 20 2 (some ⟨p1, 0, none⟩) (some ⟨p4, 0, none⟩) 5 2 exS 4 W3 (HM.out.keep HB3.out) (by decide) (by decide) (by decide) (by decide) (by decide) (by decide) (ins_row (xs := [2, 80000, 30000, 60, 30]) (by decide) HR3.out) (ins_row (xs := [0, 40]) (by decide) R2) rfl (below5 (by decide +kernel)) (below5 (by decide +kernel)) (below5 (by decide +kernel)) (below5 (by decide +kernel)) rfl (by decide)
  have KS2 := Lib.hid ks
  clear ks R1 R2 B sz hown hvi hb KS
  go_wp2_with fail
  rw [← hW]
  try rw [← hp4]
  try rw [← hb3]
  clear hW hp4 hb3
  refine KS2.out.mono ?_
  rintro e w4 ⟨rfl, hb⟩
  have HV4 := Lib.hid (HV3.out.keep hb)
  have HR4 := Lib.hid (HR3.out.keep hb)
  have HB4 := Lib.hid (HB3.out.trans (hb.mono HB3.out.size))
  have HX4 := Lib.hid (HX3.out.keep hb)
  obtain ⟨W5, p5, hW, hp5, R1, B, sz⟩ := box1 w4 #[.int .i64 3, .int .i64 30] 2
  have HV5 := Lib.hid (HV4.out.keep B)
  have HR5 := Lib.hid (HR4.out.keep B)
  have HB5 := Lib.hid (HB4.out.trans (B.mono HB4.out.size))
  have HX5 := Lib.hid (HX4.out.keep B)
  have ks := duration_ok 3 30 20 (some ⟨p5, 0, none⟩) 2 exD 5 W5 (HM.out.keep HB5.out) (by decide) (by decide) (ins_row (xs := [3, 30]) (by decide) R1) rfl (below5 (by decide +kernel)) (below5 (by decide +kernel)) (below5 (by decide +kernel)) (below5 (by decide +kernel)) rfl (by decide)
  have KS3 := Lib.hid ks
  clear ks R1 B sz hb KS2
  go_wp2_with fail
  rw [← hW]
  try rw [← hp5]
  clear hW hp5
  refine KS3.out.mono ?_
  rintro e w6 ⟨rfl, hb⟩
  have HV6 := Lib.hid (HV5.out.keep hb)
  have HR6 := Lib.hid (HR5.out.keep hb)
  have HB6 := Lib.hid (HB5.out.trans (hb.mono HB5.out.size))
  have HX6 := Lib.hid (HX5.out.keep hb)
  obtain ⟨W7, p6, hW, hp6, R1, B, sz⟩ := box1 w6 #[.int .i64 1, .int .i64 0] 2
  have HV7 := Lib.hid (HV6.out.keep B)
  have HR7 := Lib.hid (HR6.out.keep B)
  have HB7 := Lib.hid (HB6.out.trans (B.mono HB6.out.size))
  have HX7 := Lib.hid (HX6.out.keep B)
  have ks := same_yes va (some ⟨p6, 0, none⟩) vc 2 [1, 0] W7 HV7.out (ins_row (xs := [1, 0]) (by decide) R1)
  have KS4 := Lib.hid ks
  clear ks R1 B sz hb KS3
  go_wp2_with fail
  rw [← hW]
  try rw [← hp6]
  clear hW hp6
  refine KS4.out.mono ?_
  rintro e w8 ⟨rfl, hb⟩
  have HR8 := Lib.hid (HR7.out.keep hb)
  have HB8 := Lib.hid (HB7.out.trans (hb.mono HB7.out.size))
  have HX8 := Lib.hid (HX7.out.keep hb)
  have x0 := HX8.out.c 0 _ rfl
  have x1 := HX8.out.c 1 _ rfl
  have ks := check_stage (some ⟨p1, 0, none⟩) 5 [2, 80000, 30000, 60, 30] true w8 (HM.out.keep HB8.out) (ins_row (xs := [2, 80000, 30000, 60, 30]) (by decide) HR8.out) ⟨fun _ => fun k x y hx hy => by
    match k with
    | 0 => simp at hx hy; subst hx; subst hy; show inR 1 2 15 = true; exact inR_yes (by omega) (by omega)
    | 1 => simp at hx hy; subst hx; subst hy; show inR (-1000000000000) 80000 1000000000000 = true; exact inR_yes (by omega) (by omega)
    | 2 => simp at hx hy; subst hx; subst hy; show inR (-1000000000000) 30000 1000000000000 = true; exact inR_yes (by omega) (by omega)
    | 3 => simp at hx hy; subst hx; subst hy; show inR 0 60 86400 = true; exact inR_yes (by omega) (by omega)
    | 4 => simp at hx hy; subst hx; subst hy; show inR 0 30 86400 = true; exact inR_yes (by omega) (by omega)
    | k + 5 => simp at hx, fun _ => rfl⟩
  rw [begE_yes rfl rfl] at ks
  have KS5 := Lib.hid ks
  clear ks hb KS4
  go_wp2_with fail
  refine KS5.out.mono ?_
  rintro e w9 ⟨rfl, hb⟩
  have HB9 := Lib.hid (HB8.out.trans (hb.mono HB8.out.size))
  have ks := check_stage none 0 [] true w9 (HM.out.keep HB9.out) ⟨rfl, by decide, .inl rfl⟩ ⟨fun _ k x y _ h => by simp at h, fun _ => rfl⟩
  rw [begE_len (by decide)] at ks
  have KS6 := Lib.hid ks
  clear ks hb KS5 x0 x1
  go_wp2_with fail
  refine KS6.out.mono ?_
  rintro e w10 ⟨rfl, hb⟩
  have HB10 := Lib.hid (HB9.out.trans (hb.mono HB9.out.size))
  clear hb
  go_wp2_with fail
  go_ret
  exact ⟨rfl, HB10.out⟩
end Go.Proofs.YthaigchklogjlaaDoor
