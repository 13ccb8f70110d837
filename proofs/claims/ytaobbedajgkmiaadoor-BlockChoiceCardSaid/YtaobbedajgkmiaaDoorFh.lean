/- awake of the laws of block. -/
import Derived.Test.YtaobbedajgkmiaaDoorFg
import Derived.Test.YtaobbedajgkmiaaDoorEc
import Derived.Test.YtaobbedajgkmiaaDoorBi
import Derived.Deep.CutBlock
namespace Go.Proofs.YtaobbedajgkmiaaDoor
open Go.RowKit Go.Shelf Go.Maps Go.WideMaps

set_option linter.unusedVariables false
set_option linter.unusedSimpArgs false
theorem aw_mean : meanI (clV [(1, 1), (1, 2), (1, 4)]) = 2 := by kernel_rfl
theorem aw_prm : prmE [⟨⟨#[108, 111, 119]⟩, (-1000000000000), 1000000000000, (-1000000000000)⟩, ⟨⟨#[104, 105, 103, 104]⟩, (-1000000000000), 1000000000000, 1000000000000⟩] [⟨⟨#[104, 105, 103, 104]⟩, 5⟩] agLe = 0 := by kernel_rfl
theorem aw_nums : numsB [⟨⟨#[108, 111, 119]⟩, (-1000000000000), 1000000000000, (-1000000000000)⟩, ⟨⟨#[104, 105, 103, 104]⟩, (-1000000000000), 1000000000000, 1000000000000⟩] (mapD [⟨⟨#[104, 105, 103, 104]⟩, 5⟩] 1) = [-1000000000000, 5] := by kernel_rfl
theorem nil_ins (w : World) : InS w none 0 1 (flat iL []) := ⟨rfl, by decide, .inl rfl⟩
theorem row_ins1 {w : World} {g n sz : Nat} {L : List Value} (h : RowAt w g L) (hl : L.length = n * sz) (hn : n ≤ 9223372036854775807) : InS w (some ⟨g, 0, none⟩) n sz L := ⟨hl, hn, .inr ⟨g, 0, rfl, h.lt, fun j v hj => by rw [Nat.zero_add]; exact h.c j v hj⟩⟩
theorem aw_sizes : ∀ q ∈ ([⟨⟨#[104, 105, 103, 104]⟩, 5⟩] : List PrmD), q.nm.size ≤ maxLen ∧ (Lit.int .i64 q.v).wf = true := by
  intro q hq
  simp only [List.mem_singleton] at hq
  subst hq
  exact ⟨by unfold maxLen; decide, by decide⟩
theorem aw_psz : ∀ x ∈ ([⟨⟨#[108, 111, 119]⟩, (-1000000000000), 1000000000000, (-1000000000000)⟩, ⟨⟨#[104, 105, 103, 104]⟩, (-1000000000000), 1000000000000, 1000000000000⟩] : List BndD), x.nm.size ≤ maxLen := by
  intro x hx
  simp only [List.mem_cons, List.not_mem_nil, or_false] at hx
  rcases hx with rfl | rfl
  · unfold maxLen; decide
  · unfold maxLen; decide
theorem aw_params (qb : Nat) (w : World) (hm : MaxAt w) (hr : RowAt w qb [.string ⟨#[104, 105, 103, 104]⟩, .int .i64 5]) : Calls Tryd.prog 16 #[.string ⟨#[108, 105, 109, 105, 116]⟩, .slice (some ⟨qb, 0, none⟩) 1 1] w fun e w' => ∃ pa pc, e = .returned (.tuple #[.slice pa 2 pc, .int .i64 0]) ∧ InS w' pa 2 1 (flat iL [-1000000000000, 5]) ∧ Below w.heap.size w w' := by
  have hq : InS w (some ⟨qb, 0, none⟩) ([⟨⟨#[104, 105, 103, 104]⟩, 5⟩] : List PrmD).length 2 (flat prmL [⟨⟨#[104, 105, 103, 104]⟩, 5⟩]) := row_ins1 hr rfl (by decide)
  have h := params_list ⟨#[108, 105, 109, 105, 116]⟩ ⟨#[85]⟩ 1 0 [⟨⟨#[108, 111, 119]⟩, (-1000000000000), 1000000000000, (-1000000000000)⟩, ⟨⟨#[104, 105, 103, 104]⟩, (-1000000000000), 1000000000000, 1000000000000⟩] [⟨⟨#[97]⟩, ⟨#[85]⟩⟩] agLe find_limit agree_limit (some ⟨qb, 0, none⟩) 1 [⟨⟨#[104, 105, 103, 104]⟩, 5⟩] (by decide) (by decide) aw_sizes aw_psz w hm hq
  refine Calls.mono h ?_
  rintro e w' ⟨v, rfl, hpa, hb⟩
  obtain ⟨pa, pc, hvv, hpi⟩ := hpa.2 aw_prm
  refine ⟨pa, pc, ?_, ?_, hb⟩
  · rw [aw_prm, hvv]
    show Ending.returned (.tuple #[.slice pa (numsB [⟨⟨#[108, 111, 119]⟩, (-1000000000000), 1000000000000, (-1000000000000)⟩, ⟨⟨#[104, 105, 103, 104]⟩, (-1000000000000), 1000000000000, 1000000000000⟩] (mapD [⟨⟨#[104, 105, 103, 104]⟩, 5⟩] 1)).length pc, .int .i64 0]) = _
    rw [aw_nums]; rfl
  · have hpi2 : InS w' pa (numsB [⟨⟨#[108, 111, 119]⟩, (-1000000000000), 1000000000000, (-1000000000000)⟩, ⟨⟨#[104, 105, 103, 104]⟩, (-1000000000000), 1000000000000, 1000000000000⟩] (mapD [⟨⟨#[104, 105, 103, 104]⟩, 5⟩] 1)).length 1 (flat iL (numsB [⟨⟨#[108, 111, 119]⟩, (-1000000000000), 1000000000000, (-1000000000000)⟩, ⟨⟨#[104, 105, 103, 104]⟩, (-1000000000000), 1000000000000, 1000000000000⟩] (mapD [⟨⟨#[104, 105, 103, 104]⟩, 5⟩] 1))) := hpi
    rw [aw_nums] at hpi2
    exact hpi2
set_option maxHeartbeats 8000000 in
set_option maxRecDepth 100000 in
theorem awake_yes (w : World) (hm : MaxAt w) : Calls Tryd.prog 10 #[] w fun e w' => e = .returned (.bool true) ∧ Below w.heap.size w w' := by
  have HMX := Lib.hid (fun (x : World) (hb : Below w.heap.size w x) => hm.keep hb)
  clear hm
  go_enter Tryd.func10, Tryd.ntmps10
  go_wp2_with fail
  refine (analog_any _ _).mono ?_
  rintro e w1 ⟨rfl, hb1⟩
  have HB1 := Lib.hid hb1
  clear hb1
  go_wp2_with fail
  refine (analog_any _ _).mono ?_
  rintro e w2 ⟨rfl, hb2⟩
  have HB2 := Lib.hid (HB1.out.trans (hb2.mono HB1.out.size))
  clear hb2
  go_wp2_with fail
  refine (analog_any _ _).mono ?_
  rintro e w3 ⟨rfl, hb3⟩
  have HB3 := Lib.hid (HB2.out.trans (hb3.mono HB2.out.size))
  clear hb3
  obtain ⟨W4, s4, hW4, hs4, R4, B4, _⟩ := box1 w3 #[.int .i64 1, .int .i64 1, .int .i64 1, .int .i64 2, .int .i64 1, .int .i64 4] 51
  have HB4 := Lib.hid (HB3.out.trans (B4.mono HB3.out.size))
  have kv := ev_mean [(1, 1), (1, 2), (1, 4)] (by decide) (by decide) (by intro v hv; simp at hv; rcases hv with rfl | rfl | rfl <;> exact ⟨.inl rfl, rfl⟩) (by decide) none 0 (some ⟨s4, 0, none⟩) 3 W4 (HMX.out _ HB4.out) (nil_ins _) (row_ins1 R4 rfl (by decide))
  rw [aw_mean] at kv
  have KV := Lib.hid kv
  clear kv R4 B4 HB1 HB2 HB3
  go_wp2_with fail
  rw [← hW4]
  try rw [← hs4]
  clear hW4 hs4
  refine KV.out.mono ?_
  rintro e w5 ⟨rfl, hb⟩
  have HB5 := Lib.hid (HB4.out.trans (hb.mono HB4.out.size))
  clear hb KV HB4
  obtain ⟨W6, vb, hW6, hvb, R6, B6, sz6⟩ := box1 w5 #[.int .i64 1, .int .i64 2] 51
  have HB6 := Lib.hid (HB5.out.trans (B6.mono HB5.out.size))
  have HV6 := Lib.hid R6
  clear B6 R6 HB5
  go_upto_region 2 with fail
  rw [← hW6]
  try rw [← hvb]
  clear hW6 hvb
  obtain ⟨W7, qb, hW7, hqb, R7, B7, _⟩ := box1 W6 #[.string ⟨#[104, 105, 103, 104]⟩, .int .i64 5] 63
  have HB7 := Lib.hid (HB6.out.trans (B7.mono HB6.out.size))
  have HV7 := Lib.hid (HV6.out.keep B7)
  have hqb2 : qb = w5.heap.size + 1 := by omega
  have KP := Lib.hid (aw_params qb W7 (HMX.out _ HB7.out) R7)
  clear R7 B7 HB6 HV6
  go_wp2_with fail
  rw [← hW7]
  rw [← hqb2]
  clear hW7 hqb hqb2 sz6
  refine KP.out.mono ?_
  rintro e w8 ⟨pa, pc, rfl, hpi, hb⟩
  have HP8 := Lib.hid hpi
  have HB8 := Lib.hid (HB7.out.trans (hb.mono HB7.out.size))
  have HV8 := Lib.hid (HV7.out.keep hb)
  clear hb hpi KP HB7 HV7
  go_wp2_with fail
  refine (Inputs_ok ⟨#[97, 110, 100]⟩ ⟨#[98, 105, 110, 97, 114, 121]⟩ 7 0 [] [⟨⟨#[97]⟩, ⟨#[98, 105, 110, 97, 114, 121]⟩⟩, ⟨⟨#[98]⟩, ⟨#[98, 105, 110, 97, 114, 121]⟩⟩] find_and 2 rfl (by decide) (by decide) (by decide) (by decide) 3 (by decide) (by decide) _ (HMX.out _ HB8.out)).mono ?_
  rintro e w9 ⟨v, rfl, hv, hb⟩
  obtain ⟨la, lc, rfl, hli⟩ := ins_own hv
  have hl9 : InS w9 la (insK [⟨⟨#[97]⟩, ⟨#[98, 105, 110, 97, 114, 121]⟩⟩, ⟨⟨#[98]⟩, ⟨#[98, 105, 110, 97, 114, 121]⟩⟩] 3).length 2 (flat portL (insK [⟨⟨#[97]⟩, ⟨#[98, 105, 110, 97, 114, 121]⟩⟩, ⟨⟨#[98]⟩, ⟨#[98, 105, 110, 97, 114, 121]⟩⟩] 3)) := hli
  obtain ⟨lb, lo, rfl, hll, hlc⟩ := hl9.at portL_len (by decide)
  have hlo : lo = 0 := by
    rcases hv.2 with ⟨h, _⟩ | ⟨g9, cap, cur, h1, _⟩
    · cases h
    · injection h1 with h1; injection h1 with h1; injection h1
  subst hlo
  have HL9 := Lib.hid (show w9.cell? ⟨lb, 4, none⟩ = some (.string ⟨#[98]⟩) from hlc 2 ⟨⟨#[98]⟩, ⟨#[98, 105, 110, 97, 114, 121]⟩⟩ rfl 0 _ rfl)
  have HLL9 := Lib.hid hll
  have HB9 := Lib.hid (HB8.out.trans (hb.mono HB8.out.size))
  have HV9 := Lib.hid (HV8.out.keep hb)
  have HP9 := Lib.hid (HP8.out.keep hb)
  clear hv hb hli hl9 hll hlc HB8 HV8 HP8
  go_wp2_with fail
  refine (Inputs_bad ⟨#[97, 110, 100]⟩ ⟨#[98, 105, 110, 97, 114, 121]⟩ 7 0 [] [⟨⟨#[97]⟩, ⟨#[98, 105, 110, 97, 114, 121]⟩⟩, ⟨⟨#[98]⟩, ⟨#[98, 105, 110, 97, 114, 121]⟩⟩] find_and 2 rfl (by decide) (by decide) (by decide) (by decide) 9 (by decide) _ (HMX.out _ HB9.out)).mono ?_
  rintro e w10 ⟨rfl, hb⟩
  have HB10 := Lib.hid (HB9.out.trans (hb.mono HB9.out.size))
  have HV10 := Lib.hid (HV9.out.keep hb)
  have HP10 := Lib.hid (HP9.out.keep hb)
  have HL10 := Lib.hid ((hb.cell (p := ⟨lb, 4, none⟩) HLL9.out).trans HL9.out)
  have HLL := Lib.hid (Nat.lt_of_lt_of_le HLL9.out hb.size)
  have HVL := Lib.hid HV10.out.lt
  clear hb HB9 HV9 HP9 HL9 HLL9
  go_wp2_with fail
  have HS0 := Lib.hid (show (w10.cell? ⟨vb, 0, none⟩ = some (.int .i64 1) ∧ w10.cell? ⟨vb, 1, none⟩ = some (.int .i64 2) ∧ w10.cell? ⟨lb, 4, none⟩ = some (.string ⟨#[98]⟩)) from ⟨HV10.out.c 0 _ rfl, HV10.out.c 1 _ rfl, HL10.out⟩)
  refine wp_region_held_drew (S := fun w => (w.cell? ⟨vb, 0, none⟩ = some (.int .i64 1) ∧ w.cell? ⟨vb, 1, none⟩ = some (.int .i64 2) ∧ w.cell? ⟨lb, 4, none⟩ = some (.string ⟨#[98]⟩))) (by kernel_rfl) HS0.out (fun hHeld => ?_)
  have hdr : Below w10.heap.size w10 w10.drew := (Below.refl _ _).drew
  have HBX := Lib.hid (HB10.out.trans (hdr.mono HB10.out.size))
  have HPX := Lib.hid (HP10.out.keep hdr)
  obtain ⟨wx, hwx⟩ : ∃ x, x = w10.drew := ⟨_, rfl⟩
  have HVX := Lib.hid (show vb < wx.heap.size by rw [hwx]; exact HVL.out)
  have HLX := Lib.hid (show lb < wx.heap.size by rw [hwx]; exact HLL.out)
  rw [← hwx] at HBX HPX hHeld ⊢
  clear hwx hdr HB10 HP10 HV10 HL10 HS0 HVL HLL
  refine' wpAnyH_take (i := 0) (v := _) rfl (by kernel_rfl) (by kernel_rfl) (by kernel_rfl) (fun _ _ _ h => h) (Or.inl ⟨by rfl, ?_⟩) hHeld ?_
  rotate_left
  · intro w hSw
    (try dsimp only at hSw)
    go_simp
    try with_reducible rfl
  (try simp only [Act.put, List.getElem_toArray, List.getElem_cons_zero, List.getElem_cons_succ, List.setIfInBounds_toArray, List.set_cons_zero, List.set_cons_succ])
  refine' wpAnyH_take (i := 1) (v := _) rfl (by kernel_rfl) (by kernel_rfl) (by kernel_rfl) (fun _ _ _ h => h) (Or.inl ⟨by rfl, ?_⟩) hHeld ?_
  rotate_left
  · intro w hSw
    (try dsimp only at hSw)
    go_simp
    try with_reducible rfl
  (try simp only [Act.put, List.getElem_toArray, List.getElem_cons_zero, List.getElem_cons_succ, List.setIfInBounds_toArray, List.set_cons_zero, List.set_cons_succ])
  refine' wpAnyH_take (i := 2) (v := _) rfl (by kernel_rfl) (by kernel_rfl) (by kernel_rfl) (fun _ _ _ h => h) (Or.inl ⟨by rfl, ?_⟩) hHeld ?_
  rotate_left
  · intro w hSw
    (try dsimp only at hSw)
    go_simp
    try with_reducible rfl
  (try simp only [Act.put, List.getElem_toArray, List.getElem_cons_zero, List.getElem_cons_succ, List.setIfInBounds_toArray, List.set_cons_zero, List.set_cons_succ])
  refine' wpAnyH_take (i := 3) (v := _) rfl (by kernel_rfl) (by kernel_rfl) (by kernel_rfl) (fun _ _ _ h => h) (Or.inl ⟨by rfl, ?_⟩) hHeld ?_
  rotate_left
  · intro w hSw
    (try dsimp only at hSw)
    go_simp
    try with_reducible rfl
  (try simp only [Act.put, List.getElem_toArray, List.getElem_cons_zero, List.getElem_cons_succ, List.setIfInBounds_toArray, List.set_cons_zero, List.set_cons_succ])
  have hh := hHeld
  refine wpAnyH_ready (rs := [4]) (by kernel_rfl) (by simp) ?_
  refine AllReadyH.cons rfl (fun K hK => ?_) AllReadyH.nil
  go_simp
  refine (analog_any _ _).mono ?_
  rintro e wy ⟨rfl, hb⟩
  have HBY := Lib.hid (HBX.out.trans (hb.mono HBX.out.size))
  have HPY := Lib.hid (HPX.out.keep hb)
  have HVY := Lib.hid (Nat.lt_of_lt_of_le HVX.out hb.size)
  have HLY := Lib.hid (Nat.lt_of_lt_of_le HLX.out hb.size)
  have hs2 : (wy.cell? ⟨vb, 0, none⟩ = some (.int .i64 1) ∧ wy.cell? ⟨vb, 1, none⟩ = some (.int .i64 2) ∧ wy.cell? ⟨lb, 4, none⟩ = some (.string ⟨#[98]⟩)) := ⟨(hb.cell (p := ⟨vb, 0, none⟩) HVX.out).trans hh.1, (hb.cell (p := ⟨vb, 1, none⟩) HVX.out).trans hh.2.1, (hb.cell (p := ⟨lb, 4, none⟩) HLX.out).trans hh.2.2⟩
  clear hb hHeld hh HBX HPX HVX HLX
  (try go_simp)
  refine hK.out _ _ hs2 (fun hHeld => ?_)
  clear hK K hs2
  (try simp only [Act.put, List.getElem_toArray, List.getElem_cons_zero, List.getElem_cons_succ, List.setIfInBounds_toArray, List.set_cons_zero, List.set_cons_succ])
  refine' wpAnyH_take (i := 5) (v := _) rfl (by kernel_rfl) (by kernel_rfl) (by kernel_rfl) (fun _ _ _ h => h) (Or.inl ⟨by rfl, ?_⟩) hHeld ?_
  rotate_left
  · intro w hSw
    (try dsimp only at hSw)
    go_simp
    try with_reducible rfl
  (try simp only [Act.put, List.getElem_toArray, List.getElem_cons_zero, List.getElem_cons_succ, List.setIfInBounds_toArray, List.set_cons_zero, List.set_cons_succ])
  refine' wpAnyH_take (i := 6) (v := _) rfl (by kernel_rfl) (by kernel_rfl) (by kernel_rfl) (fun _ _ _ h => h) (Or.inl ⟨by rfl, ?_⟩) hHeld ?_
  rotate_left
  · intro w hSw
    (try dsimp only at hSw)
    go_simp
    try with_reducible rfl
  (try simp only [Act.put, List.getElem_toArray, List.getElem_cons_zero, List.getElem_cons_succ, List.setIfInBounds_toArray, List.set_cons_zero, List.set_cons_succ])
  refine' wpAnyH_take (i := 7) (v := _) rfl (by kernel_rfl) (by kernel_rfl) (by kernel_rfl) (fun _ _ _ h => h) (Or.inl ⟨by rfl, ?_⟩) hHeld ?_
  rotate_left
  · intro w hSw
    (try dsimp only at hSw)
    go_simp
    try with_reducible rfl
  (try simp only [Act.put, List.getElem_toArray, List.getElem_cons_zero, List.getElem_cons_succ, List.setIfInBounds_toArray, List.set_cons_zero, List.set_cons_succ])
  refine' wpAnyH_take (i := 8) (v := _) rfl (by kernel_rfl) (by kernel_rfl) (by kernel_rfl) (fun _ _ _ h => h) (Or.inl ⟨by rfl, ?_⟩) hHeld ?_
  rotate_left
  · intro w hSw
    (try dsimp only at hSw)
    go_simp
    try with_reducible rfl
  (try simp only [Act.put, List.getElem_toArray, List.getElem_cons_zero, List.getElem_cons_succ, List.setIfInBounds_toArray, List.set_cons_zero, List.set_cons_succ])
  refine' wpAnyH_take (i := 9) (v := _) rfl (by kernel_rfl) (by kernel_rfl) (by kernel_rfl) (fun _ _ _ h => h) (Or.inl ⟨by rfl, ?_⟩) hHeld ?_
  rotate_left
  · intro w hSw
    (try dsimp only at hSw)
    go_simp
    try with_reducible rfl
  (try simp only [Act.put, List.getElem_toArray, List.getElem_cons_zero, List.getElem_cons_succ, List.setIfInBounds_toArray, List.set_cons_zero, List.set_cons_succ])
  refine' wpAnyH_take (i := 10) (v := _) rfl (by kernel_rfl) (by kernel_rfl) (by kernel_rfl) (fun _ _ _ h => h) (Or.inl ⟨by rfl, ?_⟩) hHeld ?_
  rotate_left
  · intro w hSw
    (try dsimp only at hSw)
    go_simp
    try with_reducible rfl
  (try simp only [Act.put, List.getElem_toArray, List.getElem_cons_zero, List.getElem_cons_succ, List.setIfInBounds_toArray, List.set_cons_zero, List.set_cons_succ])
  refine' wpAnyH_take (i := 11) (v := _) rfl (by kernel_rfl) (by kernel_rfl) (by kernel_rfl) (fun _ _ _ h => h) (Or.inl ⟨by rfl, ?_⟩) hHeld ?_
  rotate_left
  · intro w hSw
    (try dsimp only at hSw)
    go_simp
    try with_reducible rfl
  (try simp only [Act.put, List.getElem_toArray, List.getElem_cons_zero, List.getElem_cons_succ, List.setIfInBounds_toArray, List.set_cons_zero, List.set_cons_succ])
  refine' wpAnyH_take (i := 12) (v := _) rfl (by kernel_rfl) (by kernel_rfl) (by kernel_rfl) (fun _ _ _ h => h) (Or.inl ⟨by rfl, ?_⟩) hHeld ?_
  rotate_left
  · intro w hSw
    (try dsimp only at hSw)
    go_simp
    try with_reducible rfl
  (try simp only [Act.put, List.getElem_toArray, List.getElem_cons_zero, List.getElem_cons_succ, List.setIfInBounds_toArray, List.set_cons_zero, List.set_cons_succ])
  have hh := hHeld
  obtain ⟨wz, nb, hwz, hnb, RN, BN, _⟩ := box1 wy #[.int .i64 (-1000000000000), .int .i64 5] 2
  have HBZ := Lib.hid (HBY.out.trans (BN.mono HBY.out.size))
  have HPZ := Lib.hid (HPY.out.keep BN)
  have HNZ := Lib.hid (show InS wz (some ⟨nb, 0, none⟩) 2 1 (flat iL [-1000000000000, 5]) from row_ins1 RN rfl (by decide))
  have HVZ := Lib.hid (Nat.lt_of_lt_of_le HVY.out BN.size)
  have HLZ := Lib.hid (Nat.lt_of_lt_of_le HLY.out BN.size)
  have hs2 : (wz.cell? ⟨vb, 0, none⟩ = some (.int .i64 1) ∧ wz.cell? ⟨vb, 1, none⟩ = some (.int .i64 2) ∧ wz.cell? ⟨lb, 4, none⟩ = some (.string ⟨#[98]⟩)) := ⟨(BN.cell (p := ⟨vb, 0, none⟩) HVY.out).trans hh.1, (BN.cell (p := ⟨vb, 1, none⟩) HVY.out).trans hh.2.1, (BN.cell (p := ⟨lb, 4, none⟩) HLY.out).trans hh.2.2⟩
  clear RN BN hHeld hh HBY HPY HVY HLY
  refine wpAnyH_ready (rs := [13]) (by kernel_rfl) (by simp) ?_
  refine AllReadyH.cons rfl (fun K hK => ?_) AllReadyH.nil
  go_simp
  rw [← hwz] at *
  try rw [← hnb]
  clear hwz hnb
  refine hK.out _ _ hs2 (fun hHeld => ?_)
  clear hK K hs2
  (try simp only [Act.put, List.getElem_toArray, List.getElem_cons_zero, List.getElem_cons_succ, List.setIfInBounds_toArray, List.set_cons_zero, List.set_cons_succ])
  have hh := hHeld
  refine wpAnyH_ready (rs := [14]) (by kernel_rfl) (by simp) ?_
  refine AllReadyH.cons rfl (fun K hK => ?_) AllReadyH.nil
  go_simp
  refine (same_yes [-1000000000000, 5] 2 rfl pa _ pc 2 _ HPZ.out HNZ.out).mono ?_
  rintro e wu ⟨rfl, hb⟩
  have HBU := Lib.hid (HBZ.out.trans (hb.mono HBZ.out.size))
  have hs2 : (wu.cell? ⟨vb, 0, none⟩ = some (.int .i64 1) ∧ wu.cell? ⟨vb, 1, none⟩ = some (.int .i64 2) ∧ wu.cell? ⟨lb, 4, none⟩ = some (.string ⟨#[98]⟩)) := ⟨(hb.cell (p := ⟨vb, 0, none⟩) HVZ.out).trans hh.1, (hb.cell (p := ⟨vb, 1, none⟩) HVZ.out).trans hh.2.1, (hb.cell (p := ⟨lb, 4, none⟩) HLZ.out).trans hh.2.2⟩
  clear hb hHeld hh HBZ HPZ HVZ HLZ HNZ
  (try go_simp)
  refine hK.out _ _ hs2 (fun hHeld => ?_)
  clear hK K hs2
  (try simp only [Act.put, List.getElem_toArray, List.getElem_cons_zero, List.getElem_cons_succ, List.setIfInBounds_toArray, List.set_cons_zero, List.set_cons_succ])
  refine' wpAnyH_take (i := 15) (v := _) rfl (by kernel_rfl) (by kernel_rfl) (by kernel_rfl) (fun _ _ _ h => h) (Or.inl ⟨by rfl, ?_⟩) hHeld ?_
  rotate_left
  · intro w hSw
    (try dsimp only at hSw)
    go_simp
    try with_reducible rfl
  (try simp only [Act.put, List.getElem_toArray, List.getElem_cons_zero, List.getElem_cons_succ, List.setIfInBounds_toArray, List.set_cons_zero, List.set_cons_succ])
  refine' wpAnyH_take (i := 16) (v := _) rfl (by kernel_rfl) (by kernel_rfl) (by kernel_rfl) (fun _ _ _ h => h) (Or.inl ⟨by rfl, ?_⟩) hHeld ?_
  rotate_left
  · intro w hSw
    (try dsimp only at hSw)
    go_simp
    try with_reducible rfl
  (try simp only [Act.put, List.getElem_toArray, List.getElem_cons_zero, List.getElem_cons_succ, List.setIfInBounds_toArray, List.set_cons_zero, List.set_cons_succ])
  refine' wpAnyH_take (i := 17) (v := _) rfl (by kernel_rfl) (by kernel_rfl) (by kernel_rfl) (fun _ _ _ h => h) (Or.inl ⟨by rfl, ?_⟩) hHeld ?_
  rotate_left
  · intro w hSw
    (try dsimp only at hSw)
    go_simp
    try with_reducible rfl
  (try simp only [Act.put, List.getElem_toArray, List.getElem_cons_zero, List.getElem_cons_succ, List.setIfInBounds_toArray, List.set_cons_zero, List.set_cons_succ])
  refine' wpAnyH_take (i := 18) (v := _) rfl (by kernel_rfl) (by kernel_rfl) (by kernel_rfl) (fun _ _ _ h => h) (Or.inl ⟨by rfl, ?_⟩) hHeld ?_
  rotate_left
  · intro w hSw
    (try dsimp only at hSw)
    go_simp
    try with_reducible rfl
  (try simp only [Act.put, List.getElem_toArray, List.getElem_cons_zero, List.getElem_cons_succ, List.setIfInBounds_toArray, List.set_cons_zero, List.set_cons_succ])
  refine' wpAnyH_take (i := 19) (v := _) rfl (by kernel_rfl) (by kernel_rfl) (by kernel_rfl) (fun _ _ _ h => h) (Or.inl ⟨by rfl, ?_⟩) hHeld ?_
  rotate_left
  · intro w hSw
    (try dsimp only at hSw)
    go_simp
    try with_reducible rfl
  (try simp only [Act.put, List.getElem_toArray, List.getElem_cons_zero, List.getElem_cons_succ, List.setIfInBounds_toArray, List.set_cons_zero, List.set_cons_succ])
  refine' wpAnyH_take (i := 20) (v := _) rfl (by kernel_rfl) (by kernel_rfl) (by kernel_rfl) (fun _ _ _ h => h) (Or.inl ⟨by rfl, ?_⟩) hHeld ?_
  rotate_left
  · intro w hSw
    (try dsimp only at hSw)
    go_simp
    try with_reducible rfl
  (try simp only [Act.put, List.getElem_toArray, List.getElem_cons_zero, List.getElem_cons_succ, List.setIfInBounds_toArray, List.set_cons_zero, List.set_cons_succ])
  refine' wpAnyH_take (i := 21) (v := _) rfl (by kernel_rfl) (by kernel_rfl) (by kernel_rfl) (fun _ _ _ h => h) (Or.inl ⟨by rfl, ?_⟩) hHeld ?_
  rotate_left
  · intro w hSw
    (try dsimp only at hSw)
    go_simp
    try with_reducible rfl
  (try simp only [Act.put, List.getElem_toArray, List.getElem_cons_zero, List.getElem_cons_succ, List.setIfInBounds_toArray, List.set_cons_zero, List.set_cons_succ])
  refine' wpAnyH_take (i := 22) (v := _) rfl (by kernel_rfl) (by kernel_rfl) (by kernel_rfl) (fun _ _ _ h => h) (Or.inl ⟨by rfl, ?_⟩) hHeld ?_
  rotate_left
  · intro w hSw
    (try dsimp only at hSw)
    go_simp
    try with_reducible rfl
  (try simp only [Act.put, List.getElem_toArray, List.getElem_cons_zero, List.getElem_cons_succ, List.setIfInBounds_toArray, List.set_cons_zero, List.set_cons_succ])
  refine' wpAnyH_take (i := 23) (v := _) rfl (by kernel_rfl) (by kernel_rfl) (by kernel_rfl) (fun _ _ _ h => h) (Or.inl ⟨by rfl, ?_⟩) hHeld ?_
  rotate_left
  · intro w hSw
    (try dsimp only at hSw)
    go_simp
    try with_reducible rfl
  (try simp only [Act.put, List.getElem_toArray, List.getElem_cons_zero, List.getElem_cons_succ, List.setIfInBounds_toArray, List.set_cons_zero, List.set_cons_succ])
  refine' wpAnyH_take (i := 24) (v := _) rfl (by kernel_rfl) (by kernel_rfl) (by kernel_rfl) (fun _ _ _ h => h) (Or.inl ⟨by rfl, ?_⟩) hHeld ?_
  rotate_left
  · intro w hSw
    (try dsimp only at hSw)
    go_simp
    try with_reducible rfl
  (try simp only [Act.put, List.getElem_toArray, List.getElem_cons_zero, List.getElem_cons_succ, List.setIfInBounds_toArray, List.set_cons_zero, List.set_cons_succ])
  refine' wpAnyH_take (i := 25) (v := _) rfl (by kernel_rfl) (by kernel_rfl) (by kernel_rfl) (fun _ _ _ h => h) (Or.inl ⟨by rfl, ?_⟩) hHeld ?_
  rotate_left
  · intro w hSw
    (try dsimp only at hSw)
    go_simp
    try with_reducible rfl
  (try simp only [Act.put, List.getElem_toArray, List.getElem_cons_zero, List.getElem_cons_succ, List.setIfInBounds_toArray, List.set_cons_zero, List.set_cons_succ])
  refine' wpAnyH_take (i := 26) (v := _) rfl (by kernel_rfl) (by kernel_rfl) (by kernel_rfl) (fun _ _ _ h => h) (Or.inl ⟨by rfl, ?_⟩) hHeld ?_
  rotate_left
  · intro w hSw
    (try dsimp only at hSw)
    go_simp
    try with_reducible rfl
  (try simp only [Act.put, List.getElem_toArray, List.getElem_cons_zero, List.getElem_cons_succ, List.setIfInBounds_toArray, List.set_cons_zero, List.set_cons_succ])
  refine' wpAnyH_take (i := 27) (v := _) rfl (by kernel_rfl) (by kernel_rfl) (by kernel_rfl) (fun _ _ _ h => h) (Or.inl ⟨by rfl, ?_⟩) hHeld ?_
  rotate_left
  · intro w hSw
    (try dsimp only at hSw)
    go_simp
    try with_reducible rfl
  (try simp only [Act.put, List.getElem_toArray, List.getElem_cons_zero, List.getElem_cons_succ, List.setIfInBounds_toArray, List.set_cons_zero, List.set_cons_succ])
  refine' wpAnyH_take (i := 28) (v := _) rfl (by kernel_rfl) (by kernel_rfl) (by kernel_rfl) (fun _ _ _ h => h) (Or.inl ⟨by rfl, ?_⟩) hHeld ?_
  rotate_left
  · intro w hSw
    (try dsimp only at hSw)
    go_simp
    try with_reducible rfl
  (try simp only [Act.put, List.getElem_toArray, List.getElem_cons_zero, List.getElem_cons_succ, List.setIfInBounds_toArray, List.set_cons_zero, List.set_cons_succ])
  refine' wpAnyH_take (i := 29) (v := _) rfl (by kernel_rfl) (by kernel_rfl) (by kernel_rfl) (fun _ _ _ h => h) (Or.inl ⟨by rfl, ?_⟩) hHeld ?_
  rotate_left
  · intro w hSw
    (try dsimp only at hSw)
    go_simp
    try with_reducible rfl
  (try simp only [Act.put, List.getElem_toArray, List.getElem_cons_zero, List.getElem_cons_succ, List.setIfInBounds_toArray, List.set_cons_zero, List.set_cons_succ])
  refine' wpAnyH_take (i := 30) (v := _) rfl (by kernel_rfl) (by kernel_rfl) (by kernel_rfl) (fun _ _ _ h => h) (Or.inl ⟨by rfl, ?_⟩) hHeld ?_
  rotate_left
  · intro w hSw
    (try dsimp only at hSw)
    go_simp
    try with_reducible rfl
  (try simp only [Act.put, List.getElem_toArray, List.getElem_cons_zero, List.getElem_cons_succ, List.setIfInBounds_toArray, List.set_cons_zero, List.set_cons_succ])
  refine' wpAnyH_take (i := 31) (v := _) rfl (by kernel_rfl) (by kernel_rfl) (by kernel_rfl) (fun _ _ _ h => h) (Or.inl ⟨by rfl, ?_⟩) hHeld ?_
  rotate_left
  · intro w hSw
    (try dsimp only at hSw)
    go_simp
    try with_reducible rfl
  (try simp only [Act.put, List.getElem_toArray, List.getElem_cons_zero, List.getElem_cons_succ, List.setIfInBounds_toArray, List.set_cons_zero, List.set_cons_succ])
  refine' wpAnyH_take (i := 32) (v := _) rfl (by kernel_rfl) (by kernel_rfl) (by kernel_rfl) (fun _ _ _ h => h) (Or.inl ⟨by rfl, ?_⟩) hHeld ?_
  rotate_left
  · intro w hSw
    (try dsimp only at hSw)
    go_simp
    try with_reducible rfl
  (try simp only [Act.put, List.getElem_toArray, List.getElem_cons_zero, List.getElem_cons_succ, List.setIfInBounds_toArray, List.set_cons_zero, List.set_cons_succ])
  refine' wpAnyH_take (i := 33) (v := _) rfl (by kernel_rfl) (by kernel_rfl) (by kernel_rfl) (fun _ _ _ h => h) (Or.inl ⟨by rfl, ?_⟩) hHeld ?_
  rotate_left
  · intro w hSw
    (try dsimp only at hSw)
    go_simp
    try with_reducible rfl
  (try simp only [Act.put, List.getElem_toArray, List.getElem_cons_zero, List.getElem_cons_succ, List.setIfInBounds_toArray, List.set_cons_zero, List.set_cons_succ])
  refine' wpAnyH_take (i := 34) (v := _) rfl (by kernel_rfl) (by kernel_rfl) (by kernel_rfl) (fun _ _ _ h => h) (Or.inl ⟨by rfl, ?_⟩) hHeld ?_
  rotate_left
  · intro w hSw
    (try dsimp only at hSw)
    go_simp
    try with_reducible rfl
  (try simp only [Act.put, List.getElem_toArray, List.getElem_cons_zero, List.getElem_cons_succ, List.setIfInBounds_toArray, List.set_cons_zero, List.set_cons_succ])
  refine' wpAnyH_take (i := 35) (v := _) rfl (by kernel_rfl) (by kernel_rfl) (by kernel_rfl) (fun _ _ _ h => h) (Or.inl ⟨by rfl, ?_⟩) hHeld ?_
  rotate_left
  · intro w hSw
    (try dsimp only at hSw)
    go_simp
    try with_reducible rfl
  (try simp only [Act.put, List.getElem_toArray, List.getElem_cons_zero, List.getElem_cons_succ, List.setIfInBounds_toArray, List.set_cons_zero, List.set_cons_succ])
  refine' wpAnyH_take (i := 36) (v := _) rfl (by kernel_rfl) (by kernel_rfl) (by kernel_rfl) (fun _ _ _ h => h) (Or.inl ⟨by rfl, ?_⟩) hHeld ?_
  rotate_left
  · intro w hSw
    (try dsimp only at hSw)
    go_simp
    try with_reducible rfl
  (try simp only [Act.put, List.getElem_toArray, List.getElem_cons_zero, List.getElem_cons_succ, List.setIfInBounds_toArray, List.set_cons_zero, List.set_cons_succ])
  refine wpAnyH_done (by kernel_rfl) ?_ _
  (try simp only [Act.put, List.getElem_toArray, List.getElem_cons_zero, List.getElem_cons_succ, List.setIfInBounds_toArray, List.set_cons_zero, List.set_cons_succ])
  clear hHeld
  go_wp2_with fail
  go_ret
  exact ⟨rfl, HBU.out⟩
end Go.Proofs.YtaobbedajgkmiaaDoor
