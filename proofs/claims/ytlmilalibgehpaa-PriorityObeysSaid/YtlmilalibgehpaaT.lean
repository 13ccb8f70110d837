/- awake answers true. -/
import Derived.Test.YtlmilalibgehpaaTa
import Derived.Test.YtlmilalibgehpaaP
namespace Go.Proofs.Ytlmilalibgehpaa
open Go.RowKit

abbrev AwS (wb : World) (v u s x l p o : Nat) (w' : World) : Prop := w'.cell? ⟨v, 0, none⟩ = some (.int .i64 1) ∧ w'.cell? ⟨v, 1, none⟩ = some (.int .i64 21000) ∧ w'.cell? ⟨u, 0, none⟩ = some (.int .i64 1) ∧ w'.cell? ⟨u, 1, none⟩ = some (.int .i64 19000) ∧ w'.cell? ⟨s, 0, none⟩ = some (.int .i64 1) ∧ w'.cell? ⟨s, 1, none⟩ = some (.int .i64 19000) ∧ w'.cell? ⟨x, 0, none⟩ = some (.int .i64 1) ∧ w'.cell? ⟨x, 1, none⟩ = some (.int .i64 19000) ∧ w'.cell? ⟨l, 0, none⟩ = some (.int .i64 16) ∧ w'.cell? ⟨l, 1, none⟩ = some (.int .i64 1) ∧ w'.cell? ⟨l, 2, none⟩ = some (.int .i64 1) ∧ w'.cell? ⟨l, 3, none⟩ = some (.int .i64 19000) ∧ w'.cell? ⟨p, o + 1, none⟩ = some (.int .i64 2) ∧ Below wb.heap.size wb w'
theorem aws_of {wb w' : World} {v u s x l p o : Nat} (h : AwS wb v u s x l p o wb) (hb : Below wb.heap.size wb w') : AwS wb v u s x l p o w' := by
  obtain ⟨v0, v1, u0, u1, s0, s1, x0, x1, l0, l1, l2, l3, p0, _⟩ := h
  have hv : v < wb.heap.size := World.block_lt_of_cell? _ _ v0
  have hu : u < wb.heap.size := World.block_lt_of_cell? _ _ u0
  have hs : s < wb.heap.size := World.block_lt_of_cell? _ _ s0
  have hx : x < wb.heap.size := World.block_lt_of_cell? _ _ x0
  have hl : l < wb.heap.size := World.block_lt_of_cell? _ _ l0
  have hp : p < wb.heap.size := World.block_lt_of_cell? _ _ p0
  exact ⟨(hb.cell (p := ⟨v, 0, none⟩) hv).trans v0, (hb.cell (p := ⟨v, 1, none⟩) hv).trans v1, (hb.cell (p := ⟨u, 0, none⟩) hu).trans u0, (hb.cell (p := ⟨u, 1, none⟩) hu).trans u1, (hb.cell (p := ⟨s, 0, none⟩) hs).trans s0, (hb.cell (p := ⟨s, 1, none⟩) hs).trans s1, (hb.cell (p := ⟨x, 0, none⟩) hx).trans x0, (hb.cell (p := ⟨x, 1, none⟩) hx).trans x1, (hb.cell (p := ⟨l, 0, none⟩) hl).trans l0, (hb.cell (p := ⟨l, 1, none⟩) hl).trans l1, (hb.cell (p := ⟨l, 2, none⟩) hl).trans l2, (hb.cell (p := ⟨l, 3, none⟩) hl).trans l3, (hb.cell (p := ⟨p, o + 1, none⟩) hp).trans p0, hb⟩
theorem aws_bel {wb w' : World} {v u s x l p o : Nat} (h : AwS wb v u s x l p o w') : Below wb.heap.size wb w' := h.2.2.2.2.2.2.2.2.2.2.2.2.2
theorem aws_keep {wb w1 w2 : World} {v u s x l p o : Nat} (c : AwS wb v u s x l p o wb) (hb : Below w1.heap.size w1 w2) (h : AwS wb v u s x l p o w1) : AwS wb v u s x l p o w2 := aws_of c ((aws_bel h).trans (hb.mono (aws_bel h).size))
theorem aws_alloc {wb w1 : World} {v u s x l p o : Nat} (c : AwS wb v u s x l p o wb) (ob : Obj) (h : AwS wb v u s x l p o w1) : AwS wb v u s x l p o (w1.alloc ob) := aws_of c ((aws_bel h).alloc (aws_bel h).size ob)
theorem aws_in {wb w1 : World} {v u s x l p o : Nat} {a : Option Addr} {n sz : Nat} {L : List Value} (_c : AwS wb v u s x l p o wb) (h : AwS wb v u s x l p o w1) (i : InS wb a n sz L) : InS w1 a n sz L := i.keep (aws_bel h)
theorem aws_drew {wb w1 : World} {v u s x l p o : Nat} (c : AwS wb v u s x l p o wb) (h : AwS wb v u s x l p o w1) : AwS wb v u s x l p o w1.drew := aws_of c (aws_bel h).drew

set_option maxHeartbeats 8000000 in
set_option maxRecDepth 100000 in
theorem awake_yes (w : World) : Calls Try.prog 10 #[] w fun e w' => e = .returned (.bool true) ∧ Below w.heap.size w w' := by
  have HB := Lib.hid (Below.refl w.heap.size w)
  go_enter Try.func10, Try.ntmps10
  go_wp2_with fail
  refine (analog_any _ _).mono ?_
  rintro e w1 ⟨rfl, hb⟩
  have HB1 := Lib.hid (HB.out.trans (hb.mono HB.out.size))
  clear hb  HB
  go_wp2_with fail
  refine (analog_any _ _).mono ?_
  rintro e w2 ⟨rfl, hb⟩
  have hk := hb.alloc hb.size (Obj.cells L0c 25)
  have HL2 := Lib.hid (l0_ins w2 25)
  have HB2 := Lib.hid (HB1.out.trans (hk.mono HB1.out.size))
  clear hb hk  HB1
  go_wp2_with fail
  refine (analog_any _ _).mono ?_
  rintro e w3 ⟨rfl, hb⟩
  have HL3 := Lib.hid (HL2.out.keep hb)
  have HB3 := Lib.hid (HB2.out.trans (hb.mono HB2.out.size))
  clear hb HL2 HB2
  go_wp2_with fail
  refine (aw_active _ _ _ HL3.out).mono ?_
  rintro e w4 ⟨rfl, hb⟩
  have hk := hb.alloc hb.size (Obj.cells #[.int .i64 1, .int .i64 21000] 23)
  have HL4 := Lib.hid (HL3.out.keep hk)
  have HV4 := Lib.hid (row_fresh w4 #[.int .i64 1, .int .i64 21000] 23)
  have HB4 := Lib.hid (HB3.out.trans (hk.mono HB3.out.size))
  clear hb hk HL3 HB3
  go_wp2_with fail
  refine (analog_any _ _).mono ?_
  rintro e w5 ⟨rfl, hb⟩
  have HL5 := Lib.hid (HL4.out.keep hb)
  have HV5 := Lib.hid (HV4.out.keep hb)
  have HB5 := Lib.hid (HB4.out.trans (hb.mono HB4.out.size))
  clear hb HL4 HV4 HB4
  go_wp2_with fail
  refine (aw_under _ _ _ HL5.out).mono ?_
  rintro e w6 ⟨rfl, hb⟩
  have hk := hb.alloc hb.size (Obj.cells #[.int .i64 1, .int .i64 19000] 23)
  have HL6 := Lib.hid (HL5.out.keep hk)
  have HV6 := Lib.hid (HV5.out.keep hk)
  have HW6 := Lib.hid (row_fresh w6 #[.int .i64 1, .int .i64 19000] 23)
  have HB6 := Lib.hid (HB5.out.trans (hk.mono HB5.out.size))
  clear hb hk HL5 HV5 HB5
  go_wp2_with fail
  refine (aw_put _ _ _ HL6.out).mono ?_
  rintro e w7 ⟨b7, c7, rfl, hi, hb⟩
  have HL7 := Lib.hid (HL6.out.keep hb)
  have HV7 := Lib.hid (HV6.out.keep hb)
  have HW7 := Lib.hid (HW6.out.keep hb)
  have HP7 := Lib.hid hi
  have HB7 := Lib.hid (HB6.out.trans (hb.mono HB6.out.size))
  clear hb hi HL6 HV6 HW6 HB6
  go_wp2_with fail
  refine (aw_slot _ _ _ HP7.out).mono ?_
  rintro e w8 ⟨rfl, hb⟩
  have hk := hb.alloc hb.size (Obj.cells #[.int .i64 1, .int .i64 19000] 23)
  have HL8 := Lib.hid (HL7.out.keep hk)
  have HV8 := Lib.hid (HV7.out.keep hk)
  have HW8 := Lib.hid (HW7.out.keep hk)
  have HP8 := Lib.hid (HP7.out.keep hk)
  have HS8 := Lib.hid (row_fresh w8 #[.int .i64 1, .int .i64 19000] 23)
  have HB8 := Lib.hid (HB7.out.trans (hk.mono HB7.out.size))
  clear hb hk HL7 HV7 HW7 HP7 HB7
  go_wp2_with fail
  refine (aw_join _ _ _ _ _ HP8.out HL8.out).mono ?_
  rintro e w9 ⟨b9, c9, rfl, hi, hb⟩
  have HL9 := Lib.hid (HL8.out.keep hb)
  have HV9 := Lib.hid (HV8.out.keep hb)
  have HW9 := Lib.hid (HW8.out.keep hb)
  have HP9 := Lib.hid (HP8.out.keep hb)
  have HS9 := Lib.hid (HS8.out.keep hb)
  have HJ9 := Lib.hid hi
  have HB9 := Lib.hid (HB8.out.trans (hb.mono HB8.out.size))
  clear hb hi HL8 HV8 HW8 HP8 HS8 HB8
  go_wp2_with fail
  refine (analog_any _ _).mono ?_
  rintro e w10 ⟨rfl, hb⟩
  have HL10 := Lib.hid (HL9.out.keep hb)
  have HV10 := Lib.hid (HV9.out.keep hb)
  have HW10 := Lib.hid (HW9.out.keep hb)
  have HP10 := Lib.hid (HP9.out.keep hb)
  have HS10 := Lib.hid (HS9.out.keep hb)
  have HJ10 := Lib.hid (HJ9.out.keep hb)
  have HB10 := Lib.hid (HB9.out.trans (hb.mono HB9.out.size))
  clear hb HL9 HV9 HW9 HP9 HS9 HJ9 HB9
  go_wp2_with fail
  refine (aw_active2 _ _ _ HJ10.out).mono ?_
  rintro e w11 ⟨rfl, hb⟩
  have hk := hb.alloc hb.size (Obj.cells #[.int .i64 1, .int .i64 19000] 23)
  have HL11 := Lib.hid (HL10.out.keep hk)
  have HV11 := Lib.hid (HV10.out.keep hk)
  have HW11 := Lib.hid (HW10.out.keep hk)
  have HP11 := Lib.hid (HP10.out.keep hk)
  have HS11 := Lib.hid (HS10.out.keep hk)
  have HX11 := Lib.hid (row_fresh w11 #[.int .i64 1, .int .i64 19000] 23)
  have HB11 := Lib.hid (HB10.out.trans (hk.mono HB10.out.size))
  clear hb hk HL10 HV10 HW10 HP10 HS10 HJ10 HB10
  obtain ⟨p, o, rfl, hpl, hpc⟩ := (show InS _ b7 p0.length 4 (flat wrL p0) from HP11.out).at wrL_len (by decide)
  have q0 := hpc 0 _ rfl 1 (.int .i64 2) rfl
  rw [Nat.zero_mul, Nat.add_zero] at q0
  have hL := fun j u hu => ins_news HL11.out j u hu
  have k0 := hL 0 _ rfl
  have k1 := hL 1 _ rfl
  have k2 := hL 2 _ rfl
  have k3 := hL 3 _ rfl
  rw [add_plain, Nat.zero_add] at k0 k1 k2 k3
  go_upto_region 7 with fail
  obtain ⟨wb, hwb⟩ : ∃ x, x = w11.alloc (Obj.cells #[.int .i64 1, .int .i64 19000] 23) := ⟨_, rfl⟩
  rw [← hwb] at HL11 HV11 HW11 HS11 HX11 HB11 q0 k0 k1 k2 k3 ⊢
  obtain ⟨x, hx⟩ : ∃ x, x = w11.heap.size := ⟨_, rfl⟩
  rw [← hx] at HX11 ⊢
  obtain ⟨s, hs⟩ : ∃ x, x = w8.heap.size := ⟨_, rfl⟩
  rw [← hs] at HS11 ⊢
  obtain ⟨u, hu⟩ : ∃ x, x = w6.heap.size := ⟨_, rfl⟩
  rw [← hu] at HW11 ⊢
  obtain ⟨v, hv⟩ : ∃ x, x = w4.heap.size := ⟨_, rfl⟩
  rw [← hv] at HV11 ⊢
  obtain ⟨l, hl⟩ : ∃ x, x = w2.heap.size := ⟨_, rfl⟩
  rw [← hl] at HL11 k0 k1 k2 k3 ⊢
  have HC := Lib.hid (show AwS wb v u s x l p o wb from ⟨HV11.out.c 0 _ rfl, HV11.out.c 1 _ rfl, HW11.out.c 0 _ rfl, HW11.out.c 1 _ rfl, HS11.out.c 0 _ rfl, HS11.out.c 1 _ rfl, HX11.out.c 0 _ rfl, HX11.out.c 1 _ rfl, k0, k1, k2, k3, q0, Below.refl _ _⟩)
  have HCD := Lib.hid (aws_drew HC.out HC.out)
  clear hpl hpc hL hwb hx hs hu hv hl HP11
  have v_0 := HV11.out.c 0 _ rfl
  have v_1 := HV11.out.c 1 _ rfl
  have u_0 := HW11.out.c 0 _ rfl
  have u_1 := HW11.out.c 1 _ rfl
  have s_0 := HS11.out.c 0 _ rfl
  have s_1 := HS11.out.c 1 _ rfl
  have x_0 := HX11.out.c 0 _ rfl
  have x_1 := HX11.out.c 1 _ rfl
  clear HV11 HW11 HS11 HX11
  simp only [List.append_eq, List.cons_append, List.nil_append]
  go_region_held3 (fun w' => w'.cell? ⟨v, 0, none⟩ = some (.int .i64 1) ∧ w'.cell? ⟨v, 1, none⟩ = some (.int .i64 21000) ∧ w'.cell? ⟨u, 0, none⟩ = some (.int .i64 1) ∧ w'.cell? ⟨u, 1, none⟩ = some (.int .i64 19000) ∧ w'.cell? ⟨s, 0, none⟩ = some (.int .i64 1) ∧ w'.cell? ⟨s, 1, none⟩ = some (.int .i64 19000) ∧ w'.cell? ⟨x, 0, none⟩ = some (.int .i64 1) ∧ w'.cell? ⟨x, 1, none⟩ = some (.int .i64 19000) ∧ w'.cell? ⟨l, 0, none⟩ = some (.int .i64 16) ∧ w'.cell? ⟨l, 1, none⟩ = some (.int .i64 1) ∧ w'.cell? ⟨l, 2, none⟩ = some (.int .i64 1) ∧ w'.cell? ⟨l, 3, none⟩ = some (.int .i64 19000) ∧ w'.cell? ⟨p, o + 1, none⟩ = some (.int .i64 2) ∧ Below wb.heap.size wb w')
    (first | (with_reducible exact HC.out) | (with_reducible exact HCD.out) | (with_reducible exact aws_keep HC.out hb2 (by assumption)) | (with_reducible exact aws_alloc HC.out _ (by assumption)) | (with_reducible exact aws_drew HC.out (by assumption)) | go_keep)
    (first | (go_at_call 29; refine (analog_any _ _).mono ?_; rintro e x1 ⟨rfl, hb2⟩; have HS1 : Hid (AwS wb v u s x l p o x1) := aws_keep HC.out hb2 (by assumption)) | (go_at_call 12; refine (check_any _ _ _ _ _).mono ?_; rintro e x2 ⟨rfl, hb2⟩; (first | rw [aw8] | rw [aw9]); have HS2 : Hid (AwS wb v u s x l p o x2) := aws_keep HC.out hb2 (by assumption)) | (go_at_call 15; refine (aw_of _ _ _ (aws_in HC.out (by with_reducible assumption) HL11.out)).mono ?_; rintro e x4 ⟨b4, c4, rfl, hb2⟩; have HS4 : Hid (AwS wb v u s x l p o x4) := aws_keep HC.out hb2 (by assumption)) | (go_at_call 19; refine (aw_keep _ _ _ _ _ (aws_in HC.out (by first | (with_reducible assumption) | (with_reducible exact aws_alloc HC.out _ (by assumption))) HL11.out) (ins_freshN _ #[.int .i64 16] _ 1 1 rfl (by omega))).mono ?_; rintro e x5 ⟨b5, c5, rfl, hb2⟩; have HS5 : Hid (AwS wb v u s x l p o x5) := aws_keep HC.out hb2 (by assumption)))
  all_goals
    rename_i hHeld
    have hB := HB11.out.trans ((aws_bel hHeld).mono HB11.out.size)
    clear hHeld
    go_wp2_with fail
    go_ret
    exact ⟨rfl, hB⟩
end Go.Proofs.Ytlmilalibgehpaa
