/- The specification's Same, at two lists of the same tokens. -/
import Derived.Test.YtaaaddmdcldclaaGreatDoorNu
import Derived.Deep.CutBlock
namespace Go.Proofs.YtaaaddmdcldclaaGreatDoor
open Go.RowKit Go.Shelf
set_option linter.unusedVariables false
set_option linter.unusedSimpArgs false

theorem ins_tok_at {w : World} {a : Option Addr} {N : Nat} {L : List TkF} (hN : N = L.length) (h : InS w a N 4 (flat tkC L)) (i : Nat) (k m c : Int) (t : ByteArray) (hx : L[i]? = some ⟨k, t, m, c⟩) : ∃ b o, a = some ⟨b, o, none⟩ ∧ b < w.heap.size ∧ w.cell? ⟨b, o + i * 4, none⟩ = some (.int .i64 k) ∧ w.cell? ⟨b, o + i * 4 + 1, none⟩ = some (.string t) ∧ w.cell? ⟨b, o + i * 4 + 2, none⟩ = some (.int .i64 m) ∧ w.cell? ⟨b, o + i * 4 + 3, none⟩ = some (.int .i64 c) := by
  subst hN
  have hk := (List.getElem?_eq_some_iff.1 hx).1
  obtain ⟨b, o, rfl, hb, hc⟩ := h.at tkC_len (by omega)
  have h2 := hc i _ hx 0 _ rfl
  rw [Nat.add_zero] at h2
  exact ⟨b, o, rfl, hb, h2, hc i _ hx 1 _ rfl, hc i _ hx 2 _ rfl, hc i _ hx 3 _ rfl⟩
theorem keep8 {w1 w2 : World} {b1 o1 b2 o2 i : Nat} {k m c : Int} {t : ByteArray} (hb : Below w1.heap.size w1 w2) (h : w1.cell? ⟨b1, o1 + i * 4, none⟩ = some (.int .i64 k) ∧ w1.cell? ⟨b1, o1 + i * 4 + 1, none⟩ = some (.string t) ∧ w1.cell? ⟨b1, o1 + i * 4 + 2, none⟩ = some (.int .i64 m) ∧ w1.cell? ⟨b1, o1 + i * 4 + 3, none⟩ = some (.int .i64 c) ∧ w1.cell? ⟨b2, o2 + i * 4, none⟩ = some (.int .i64 k) ∧ w1.cell? ⟨b2, o2 + i * 4 + 1, none⟩ = some (.string t) ∧ w1.cell? ⟨b2, o2 + i * 4 + 2, none⟩ = some (.int .i64 m) ∧ w1.cell? ⟨b2, o2 + i * 4 + 3, none⟩ = some (.int .i64 c)) : w2.cell? ⟨b1, o1 + i * 4, none⟩ = some (.int .i64 k) ∧ w2.cell? ⟨b1, o1 + i * 4 + 1, none⟩ = some (.string t) ∧ w2.cell? ⟨b1, o1 + i * 4 + 2, none⟩ = some (.int .i64 m) ∧ w2.cell? ⟨b1, o1 + i * 4 + 3, none⟩ = some (.int .i64 c) ∧ w2.cell? ⟨b2, o2 + i * 4, none⟩ = some (.int .i64 k) ∧ w2.cell? ⟨b2, o2 + i * 4 + 1, none⟩ = some (.string t) ∧ w2.cell? ⟨b2, o2 + i * 4 + 2, none⟩ = some (.int .i64 m) ∧ w2.cell? ⟨b2, o2 + i * 4 + 3, none⟩ = some (.int .i64 c) := by
  obtain ⟨h0, h1, h2, h3, h4, h5, h6, h7⟩ := h
  exact ⟨(hb.cell (p := ⟨b1, o1 + i * 4, none⟩) (World.block_lt_of_cell? _ _ h0)).trans h0, (hb.cell (p := ⟨b1, o1 + i * 4 + 1, none⟩) (World.block_lt_of_cell? _ _ h1)).trans h1, (hb.cell (p := ⟨b1, o1 + i * 4 + 2, none⟩) (World.block_lt_of_cell? _ _ h2)).trans h2, (hb.cell (p := ⟨b1, o1 + i * 4 + 3, none⟩) (World.block_lt_of_cell? _ _ h3)).trans h3, (hb.cell (p := ⟨b2, o2 + i * 4, none⟩) (World.block_lt_of_cell? _ _ h4)).trans h4, (hb.cell (p := ⟨b2, o2 + i * 4 + 1, none⟩) (World.block_lt_of_cell? _ _ h5)).trans h5, (hb.cell (p := ⟨b2, o2 + i * 4 + 2, none⟩) (World.block_lt_of_cell? _ _ h6)).trans h6, (hb.cell (p := ⟨b2, o2 + i * 4 + 3, none⟩) (World.block_lt_of_cell? _ _ h7)).trans h7⟩

set_option maxHeartbeats 8000000 in
set_option maxRecDepth 100000 in
theorem same_list (L : List TkF) (N c1 c2 : Nat) (a1 a2 : Option Addr) (hN : N = L.length) (hmx : N ≤ 1000) (w : World) (h1 : InS w a1 N 4 (flat tkC L)) (h2 : InS w a2 N 4 (flat tkC L)) : Calls Tryz.prog 13 #[.slice a1 N c1, .slice a2 N c2, .bool true] w fun e w' => e = .returned (.bool true) ∧ Below w.heap.size w w' := by
  have HI1 := Lib.hid h1
  have HI2 := Lib.hid h2
  have HN := Lib.hid hN
  have HMX := Lib.hid hmx
  clear h1 h2 hN hmx
  go_enter Tryz.func13, Tryz.ntmps13
  go_wp2_with fail
  go_loopw [7] (fun iv wr => ∃ i : Nat, i ≤ N ∧ iv = .int .i64 i ∧ Hid (Below w.heap.size w wr)) (fun iv _ => N - (intOf iv).toNat)
  case atStart => exact ⟨0, Nat.zero_le _, rfl, Lib.hid (Below.refl _ _)⟩
  case round =>
    obtain ⟨i, hi, rfl, hH⟩ := hrel
    have HB := Lib.hid hH.out
    clear hH
    by_cases hlt : i < N
    · obtain ⟨⟨k, t, m, c⟩, hx⟩ : ∃ x, L[i]? = some x := ⟨_, List.getElem?_eq_getElem (by rw [← HN.out]; exact hlt)⟩
      obtain ⟨b1, o1, rfl, hl1, p0, p1, p2, p3⟩ := ins_tok_at HN.out HI1.out i k m c t hx
      obtain ⟨b2, o2, rfl, hl2, q0, q1, q2, q3⟩ := ins_tok_at HN.out HI2.out i k m c t hx
      have hkeep := fun (b o : Nat) (v : Value) (hl : b < w.heap.size) (h : w.cell? ⟨b, o, none⟩ = some v) => (HB.out.cell (p := ⟨b, o, none⟩) hl).trans h
      have s0 : wr.cell? ⟨b1, o1 + i * 4, none⟩ = some (.int .i64 k) ∧ wr.cell? ⟨b1, o1 + i * 4 + 1, none⟩ = some (.string t) ∧ wr.cell? ⟨b1, o1 + i * 4 + 2, none⟩ = some (.int .i64 m) ∧ wr.cell? ⟨b1, o1 + i * 4 + 3, none⟩ = some (.int .i64 c) ∧ wr.cell? ⟨b2, o2 + i * 4, none⟩ = some (.int .i64 k) ∧ wr.cell? ⟨b2, o2 + i * 4 + 1, none⟩ = some (.string t) ∧ wr.cell? ⟨b2, o2 + i * 4 + 2, none⟩ = some (.int .i64 m) ∧ wr.cell? ⟨b2, o2 + i * 4 + 3, none⟩ = some (.int .i64 c) := ⟨hkeep _ _ _ hl1 p0, hkeep _ _ _ hl1 p1, hkeep _ _ _ hl1 p2, hkeep _ _ _ hl1 p3, hkeep _ _ _ hl2 q0, hkeep _ _ _ hl2 q1, hkeep _ _ _ hl2 q2, hkeep _ _ _ hl2 q3⟩
      have k1 : (0 : Int) ≤ (i : Int) := by omega
      have k2 : (i : Int) < (N : Int) := by omega
      have k3 : IntKind.i64.wrap ((i : Int) + 1) = (i : Int) + 1 := IntWalk.i64_in _ (by have := HMX.out; omega)
      have k4 : (i : Int).toNat = i := by omega
      clear p0 p1 p2 p3 q0 q1 q2 q3 hx hl1 hl2 hkeep
      go_wp2_with fail
      refine wp_region_held_drew (S := fun w => w.cell? ⟨b1, o1 + i * 4, none⟩ = some (.int .i64 k) ∧ w.cell? ⟨b1, o1 + i * 4 + 1, none⟩ = some (.string t) ∧ w.cell? ⟨b1, o1 + i * 4 + 2, none⟩ = some (.int .i64 m) ∧ w.cell? ⟨b1, o1 + i * 4 + 3, none⟩ = some (.int .i64 c) ∧ w.cell? ⟨b2, o2 + i * 4, none⟩ = some (.int .i64 k) ∧ w.cell? ⟨b2, o2 + i * 4 + 1, none⟩ = some (.string t) ∧ w.cell? ⟨b2, o2 + i * 4 + 2, none⟩ = some (.int .i64 m) ∧ w.cell? ⟨b2, o2 + i * 4 + 3, none⟩ = some (.int .i64 c)) (by kernel_rfl) s0 (fun hHeld => ?_)
      clear s0
      have hdr : Below wr.heap.size wr wr.drew := (Below.refl _ _).drew
      have HB9 := Lib.hid (HB.out.trans (hdr.mono HB.out.size))
      obtain ⟨W9, hW9⟩ : ∃ z, z = wr.drew := ⟨_, rfl⟩
      rw [← hW9] at HB9 hHeld ⊢
      clear hW9 hdr
      refine' wpAnyH_take (i := 0) (v := _) rfl (by kernel_rfl) (by kernel_rfl) (by kernel_rfl) (fun _ _ _ h => h) (Or.inl ⟨by rfl, ?_⟩) hHeld ?_
      rotate_left
      · intro w hSw
        (try dsimp only at hSw)
        go_simp
        try with_reducible rfl
      (try simp only [Act.put, List.getElem_toArray, List.getElem_cons_zero, List.getElem_cons_succ, List.setIfInBounds_toArray, List.set_cons_zero, List.set_cons_succ])
      refine' wpAnyH_take (i := 1) (v := _) rfl (by kernel_rfl) (by kernel_rfl) (by kernel_rfl) (fun _ _ _ h => h) (Or.inl ⟨by rfl, ?_⟩) hHeld ?_
      rotate_left
      · intro w hSw
        (try dsimp only at hSw)
        go_simp
        try with_reducible rfl
      (try simp only [Act.put, List.getElem_toArray, List.getElem_cons_zero, List.getElem_cons_succ, List.setIfInBounds_toArray, List.set_cons_zero, List.set_cons_succ])
      refine' wpAnyH_take (i := 2) (v := _) rfl (by kernel_rfl) (by kernel_rfl) (by kernel_rfl) (fun _ _ _ h => h) (Or.inl ⟨by rfl, ?_⟩) hHeld ?_
      rotate_left
      · intro w hSw
        (try dsimp only at hSw)
        go_simp
        try with_reducible rfl
      (try simp only [Act.put, List.getElem_toArray, List.getElem_cons_zero, List.getElem_cons_succ, List.setIfInBounds_toArray, List.set_cons_zero, List.set_cons_succ])
      refine' wpAnyH_take (i := 3) (v := _) rfl (by kernel_rfl) (by kernel_rfl) (by kernel_rfl) (fun _ _ _ h => h) (Or.inl ⟨by rfl, ?_⟩) hHeld ?_
      rotate_left
      · intro w hSw
        (try dsimp only at hSw)
        go_simp
        try with_reducible rfl
      (try simp only [Act.put, List.getElem_toArray, List.getElem_cons_zero, List.getElem_cons_succ, List.setIfInBounds_toArray, List.set_cons_zero, List.set_cons_succ])
      refine' wpAnyH_take (i := 4) (v := _) rfl (by kernel_rfl) (by kernel_rfl) (by kernel_rfl) (fun _ _ _ h => h) (Or.inl ⟨by rfl, ?_⟩) hHeld ?_
      rotate_left
      · intro w hSw
        (try dsimp only at hSw)
        go_simp
        try with_reducible rfl
      (try simp only [Act.put, List.getElem_toArray, List.getElem_cons_zero, List.getElem_cons_succ, List.setIfInBounds_toArray, List.set_cons_zero, List.set_cons_succ])
      refine' wpAnyH_take (i := 5) (v := _) rfl (by kernel_rfl) (by kernel_rfl) (by kernel_rfl) (fun _ _ _ h => h) (Or.inl ⟨by rfl, ?_⟩) hHeld ?_
      rotate_left
      · intro w hSw
        (try dsimp only at hSw)
        go_simp
        try with_reducible rfl
      (try simp only [Act.put, List.getElem_toArray, List.getElem_cons_zero, List.getElem_cons_succ, List.setIfInBounds_toArray, List.set_cons_zero, List.set_cons_succ])
      refine' wpAnyH_take (i := 6) (v := _) rfl (by kernel_rfl) (by kernel_rfl) (by kernel_rfl) (fun _ _ _ h => h) (Or.inl ⟨by rfl, ?_⟩) hHeld ?_
      rotate_left
      · intro w hSw
        (try dsimp only at hSw)
        go_simp
        try with_reducible rfl
      (try simp only [Act.put, List.getElem_toArray, List.getElem_cons_zero, List.getElem_cons_succ, List.setIfInBounds_toArray, List.set_cons_zero, List.set_cons_succ])
      refine' wpAnyH_take (i := 7) (v := _) rfl (by kernel_rfl) (by kernel_rfl) (by kernel_rfl) (fun _ _ _ h => h) (Or.inl ⟨by rfl, ?_⟩) hHeld ?_
      rotate_left
      · intro w hSw
        (try dsimp only at hSw)
        go_simp
        try with_reducible rfl
      (try simp only [Act.put, List.getElem_toArray, List.getElem_cons_zero, List.getElem_cons_succ, List.setIfInBounds_toArray, List.set_cons_zero, List.set_cons_succ])
      have HS9 := Lib.hid hHeld
      have HXW9 := Lib.hid (Below.refl W9.heap.size W9)
      refine wpAnyH_ready (rs := [8, 9]) (by kernel_rfl) (by simp) ?_
      refine AllReadyH.cons rfl (fun K hK => ?_) (AllReadyH.cons rfl (fun K hK => ?_) AllReadyH.nil)
      · go_simp
        obtain ⟨u1, e, hW, hb, RA, BB, sz⟩ := box1 W9 #[.int .i64 0, .string ⟨#[]⟩, .int .i64 0, .int .i64 0] 40
        have HXu1 := Lib.hid (HXW9.out.trans (BB.mono HXW9.out.size))
        have HReu1 := Lib.hid RA
        have HLe := Lib.hid (show W9.heap.size ≤ e by rw [hb]; exact HXW9.out.size)
        have HSX := keep8 HXu1.out HS9.out
        rw [← hW]
        try rw [← hb]
        clear hW hb RA BB sz hHeld
        refine hK.out _ _ HSX (fun hHeld => ?_)
        clear hK K HSX
        (try simp only [Act.put, List.getElem_toArray, List.getElem_cons_zero, List.getElem_cons_succ, List.setIfInBounds_toArray, List.set_cons_zero, List.set_cons_succ])
        refine wpAnyH_ready (rs := [9]) (by kernel_rfl) (by simp) ?_
        refine AllReadyH.cons rfl (fun K hK => ?_) AllReadyH.nil
        go_simp
        obtain ⟨u2, d, hW, hb, RA, BB, sz⟩ := box1 u1 #[.int .i64 0, .string ⟨#[]⟩, .int .i64 0, .int .i64 0] 40
        have HXu2 := Lib.hid (HXu1.out.trans (BB.mono HXu1.out.size))
        have HRdu2 := Lib.hid RA
        have HLd := Lib.hid (show W9.heap.size ≤ d by rw [hb]; exact HXu1.out.size)
        have HReu2 := Lib.hid (HReu1.out.keep BB)
        have ned : e ≠ d := by have := HReu1.out.lt; omega
        have nde : d ≠ e := fun e => ned e.symm
        have HSX := keep8 HXu2.out HS9.out
        rw [← hW]
        try rw [← hb]
        clear hW hb RA BB sz hHeld
        refine hK.out _ _ HSX (fun hHeld => ?_)
        clear hK K HSX
        (try simp only [Act.put, List.getElem_toArray, List.getElem_cons_zero, List.getElem_cons_succ, List.setIfInBounds_toArray, List.set_cons_zero, List.set_cons_succ])
        refine wpAnyH_ready (rs := [10]) (by kernel_rfl) (by simp) ?_
        refine AllReadyH.cons rfl (fun K hK => ?_) AllReadyH.nil
        have z_0 := HReu2.out.c 0 _ rfl
        have z_1 := HReu2.out.c 1 _ rfl
        have z_2 := HReu2.out.c 2 _ rfl
        have z_3 := HReu2.out.c 3 _ rfl
        have z_z := HReu2.out.fz
        go_simp
        obtain ⟨u3, hw2⟩ : ∃ x, x = ((((u2.setCell ⟨e, 0, none⟩ (.int .i64 k)).setCell ⟨e, 1, none⟩ (.string t)).setCell ⟨e, 2, none⟩ (.int .i64 m)).setCell ⟨e, 3, none⟩ (.int .i64 c)) := ⟨_, rfl⟩
        have hw3 : u3 = u2.setCells e 0 [.int .i64 k, .string t, .int .i64 m, .int .i64 c] := hw2
        have HXu3 := Lib.hid (show Below W9.heap.size W9 u3 by rw [hw3]; exact set_below HXu2.out HLe.out [.int .i64 k, .string t, .int .i64 m, .int .i64 c])
        have HReu3 := Lib.hid (show RowAt u3 e [.int .i64 k, .string t, .int .i64 m, .int .i64 c] by rw [hw3]; exact HReu2.out.setRow [.int .i64 k, .string t, .int .i64 m, .int .i64 c] rfl)
        have HRdu3 := Lib.hid (show RowAt u3 d [.int .i64 0, .string ⟨#[]⟩, .int .i64 0, .int .i64 0] by rw [hw3]; exact HRdu2.out.other ned [.int .i64 k, .string t, .int .i64 m, .int .i64 c])
        have HSX := keep8 HXu3.out HS9.out
        rw [← hw2]
        clear hw2 hw3 hHeld z_0 z_1 z_2 z_3 z_z
        refine hK.out _ _ HSX (fun hHeld => ?_)
        clear hK K HSX
        (try simp only [Act.put, List.getElem_toArray, List.getElem_cons_zero, List.getElem_cons_succ, List.setIfInBounds_toArray, List.set_cons_zero, List.set_cons_succ])
        refine wpAnyH_ready (rs := [11]) (by kernel_rfl) (by simp) ?_
        refine AllReadyH.cons rfl (fun K hK => ?_) AllReadyH.nil
        have z_0 := HRdu3.out.c 0 _ rfl
        have z_1 := HRdu3.out.c 1 _ rfl
        have z_2 := HRdu3.out.c 2 _ rfl
        have z_3 := HRdu3.out.c 3 _ rfl
        have z_z := HRdu3.out.fz
        go_simp
        obtain ⟨u4, hw2⟩ : ∃ x, x = ((((u3.setCell ⟨d, 0, none⟩ (.int .i64 k)).setCell ⟨d, 1, none⟩ (.string t)).setCell ⟨d, 2, none⟩ (.int .i64 m)).setCell ⟨d, 3, none⟩ (.int .i64 c)) := ⟨_, rfl⟩
        have hw3 : u4 = u3.setCells d 0 [.int .i64 k, .string t, .int .i64 m, .int .i64 c] := hw2
        have HXu4 := Lib.hid (show Below W9.heap.size W9 u4 by rw [hw3]; exact set_below HXu3.out HLd.out [.int .i64 k, .string t, .int .i64 m, .int .i64 c])
        have HRdu4 := Lib.hid (show RowAt u4 d [.int .i64 k, .string t, .int .i64 m, .int .i64 c] by rw [hw3]; exact HRdu3.out.setRow [.int .i64 k, .string t, .int .i64 m, .int .i64 c] rfl)
        have HReu4 := Lib.hid (show RowAt u4 e [.int .i64 k, .string t, .int .i64 m, .int .i64 c] by rw [hw3]; exact HReu3.out.other nde [.int .i64 k, .string t, .int .i64 m, .int .i64 c])
        have HSX := keep8 HXu4.out HS9.out
        rw [← hw2]
        clear hw2 hw3 hHeld z_0 z_1 z_2 z_3 z_z
        refine hK.out _ _ HSX (fun hHeld => ?_)
        clear hK K HSX
        (try simp only [Act.put, List.getElem_toArray, List.getElem_cons_zero, List.getElem_cons_succ, List.setIfInBounds_toArray, List.set_cons_zero, List.set_cons_succ])
        refine wpAnyH_done (by kernel_rfl) ?_ _
        (try simp only [Act.put, List.getElem_toArray, List.getElem_cons_zero, List.getElem_cons_succ, List.setIfInBounds_toArray, List.set_cons_zero, List.set_cons_succ])
        clear hHeld
        have HBf := Lib.hid (HB9.out.trans (HXu4.out.mono HB9.out.size))
        have x_0 := HReu4.out.c 0 _ rfl
        have x_1 := HReu4.out.c 1 _ rfl
        have x_2 := HReu4.out.c 2 _ rfl
        have x_3 := HReu4.out.c 3 _ rfl
        have y_0 := HRdu4.out.c 0 _ rfl
        have y_1 := HRdu4.out.c 1 _ rfl
        have y_2 := HRdu4.out.c 2 _ rfl
        have y_3 := HRdu4.out.c 3 _ rfl
        go_wp2_with fail
        go_roundw
        case rel => exact ⟨i + 1, by omega, by go_num, Lib.hid HBf.out⟩
        case measure => (simp [intOf]) <;> omega
      · go_simp
        obtain ⟨u1, d, hW, hb, RA, BB, sz⟩ := box1 W9 #[.int .i64 0, .string ⟨#[]⟩, .int .i64 0, .int .i64 0] 40
        have HXu1 := Lib.hid (HXW9.out.trans (BB.mono HXW9.out.size))
        have HRdu1 := Lib.hid RA
        have HLd := Lib.hid (show W9.heap.size ≤ d by rw [hb]; exact HXW9.out.size)
        have HSX := keep8 HXu1.out HS9.out
        rw [← hW]
        try rw [← hb]
        clear hW hb RA BB sz hHeld
        refine hK.out _ _ HSX (fun hHeld => ?_)
        clear hK K HSX
        (try simp only [Act.put, List.getElem_toArray, List.getElem_cons_zero, List.getElem_cons_succ, List.setIfInBounds_toArray, List.set_cons_zero, List.set_cons_succ])
        refine wpAnyH_ready (rs := [8]) (by kernel_rfl) (by simp) ?_
        refine AllReadyH.cons rfl (fun K hK => ?_) AllReadyH.nil
        go_simp
        obtain ⟨u2, e, hW, hb, RA, BB, sz⟩ := box1 u1 #[.int .i64 0, .string ⟨#[]⟩, .int .i64 0, .int .i64 0] 40
        have HXu2 := Lib.hid (HXu1.out.trans (BB.mono HXu1.out.size))
        have HReu2 := Lib.hid RA
        have HLe := Lib.hid (show W9.heap.size ≤ e by rw [hb]; exact HXu1.out.size)
        have HRdu2 := Lib.hid (HRdu1.out.keep BB)
        have nde : d ≠ e := by have := HRdu1.out.lt; omega
        have ned : e ≠ d := fun e => nde e.symm
        have HSX := keep8 HXu2.out HS9.out
        rw [← hW]
        try rw [← hb]
        clear hW hb RA BB sz hHeld
        refine hK.out _ _ HSX (fun hHeld => ?_)
        clear hK K HSX
        (try simp only [Act.put, List.getElem_toArray, List.getElem_cons_zero, List.getElem_cons_succ, List.setIfInBounds_toArray, List.set_cons_zero, List.set_cons_succ])
        refine wpAnyH_ready (rs := [10]) (by kernel_rfl) (by simp) ?_
        refine AllReadyH.cons rfl (fun K hK => ?_) AllReadyH.nil
        have z_0 := HReu2.out.c 0 _ rfl
        have z_1 := HReu2.out.c 1 _ rfl
        have z_2 := HReu2.out.c 2 _ rfl
        have z_3 := HReu2.out.c 3 _ rfl
        have z_z := HReu2.out.fz
        go_simp
        obtain ⟨u3, hw2⟩ : ∃ x, x = ((((u2.setCell ⟨e, 0, none⟩ (.int .i64 k)).setCell ⟨e, 1, none⟩ (.string t)).setCell ⟨e, 2, none⟩ (.int .i64 m)).setCell ⟨e, 3, none⟩ (.int .i64 c)) := ⟨_, rfl⟩
        have hw3 : u3 = u2.setCells e 0 [.int .i64 k, .string t, .int .i64 m, .int .i64 c] := hw2
        have HXu3 := Lib.hid (show Below W9.heap.size W9 u3 by rw [hw3]; exact set_below HXu2.out HLe.out [.int .i64 k, .string t, .int .i64 m, .int .i64 c])
        have HReu3 := Lib.hid (show RowAt u3 e [.int .i64 k, .string t, .int .i64 m, .int .i64 c] by rw [hw3]; exact HReu2.out.setRow [.int .i64 k, .string t, .int .i64 m, .int .i64 c] rfl)
        have HRdu3 := Lib.hid (show RowAt u3 d [.int .i64 0, .string ⟨#[]⟩, .int .i64 0, .int .i64 0] by rw [hw3]; exact HRdu2.out.other ned [.int .i64 k, .string t, .int .i64 m, .int .i64 c])
        have HSX := keep8 HXu3.out HS9.out
        rw [← hw2]
        clear hw2 hw3 hHeld z_0 z_1 z_2 z_3 z_z
        refine hK.out _ _ HSX (fun hHeld => ?_)
        clear hK K HSX
        (try simp only [Act.put, List.getElem_toArray, List.getElem_cons_zero, List.getElem_cons_succ, List.setIfInBounds_toArray, List.set_cons_zero, List.set_cons_succ])
        refine wpAnyH_ready (rs := [11]) (by kernel_rfl) (by simp) ?_
        refine AllReadyH.cons rfl (fun K hK => ?_) AllReadyH.nil
        have z_0 := HRdu3.out.c 0 _ rfl
        have z_1 := HRdu3.out.c 1 _ rfl
        have z_2 := HRdu3.out.c 2 _ rfl
        have z_3 := HRdu3.out.c 3 _ rfl
        have z_z := HRdu3.out.fz
        go_simp
        obtain ⟨u4, hw2⟩ : ∃ x, x = ((((u3.setCell ⟨d, 0, none⟩ (.int .i64 k)).setCell ⟨d, 1, none⟩ (.string t)).setCell ⟨d, 2, none⟩ (.int .i64 m)).setCell ⟨d, 3, none⟩ (.int .i64 c)) := ⟨_, rfl⟩
        have hw3 : u4 = u3.setCells d 0 [.int .i64 k, .string t, .int .i64 m, .int .i64 c] := hw2
        have HXu4 := Lib.hid (show Below W9.heap.size W9 u4 by rw [hw3]; exact set_below HXu3.out HLd.out [.int .i64 k, .string t, .int .i64 m, .int .i64 c])
        have HRdu4 := Lib.hid (show RowAt u4 d [.int .i64 k, .string t, .int .i64 m, .int .i64 c] by rw [hw3]; exact HRdu3.out.setRow [.int .i64 k, .string t, .int .i64 m, .int .i64 c] rfl)
        have HReu4 := Lib.hid (show RowAt u4 e [.int .i64 k, .string t, .int .i64 m, .int .i64 c] by rw [hw3]; exact HReu3.out.other nde [.int .i64 k, .string t, .int .i64 m, .int .i64 c])
        have HSX := keep8 HXu4.out HS9.out
        rw [← hw2]
        clear hw2 hw3 hHeld z_0 z_1 z_2 z_3 z_z
        refine hK.out _ _ HSX (fun hHeld => ?_)
        clear hK K HSX
        (try simp only [Act.put, List.getElem_toArray, List.getElem_cons_zero, List.getElem_cons_succ, List.setIfInBounds_toArray, List.set_cons_zero, List.set_cons_succ])
        refine wpAnyH_done (by kernel_rfl) ?_ _
        (try simp only [Act.put, List.getElem_toArray, List.getElem_cons_zero, List.getElem_cons_succ, List.setIfInBounds_toArray, List.set_cons_zero, List.set_cons_succ])
        clear hHeld
        have HBf := Lib.hid (HB9.out.trans (HXu4.out.mono HB9.out.size))
        have x_0 := HReu4.out.c 0 _ rfl
        have x_1 := HReu4.out.c 1 _ rfl
        have x_2 := HReu4.out.c 2 _ rfl
        have x_3 := HReu4.out.c 3 _ rfl
        have y_0 := HRdu4.out.c 0 _ rfl
        have y_1 := HRdu4.out.c 1 _ rfl
        have y_2 := HRdu4.out.c 2 _ rfl
        have y_3 := HRdu4.out.c 3 _ rfl
        go_wp2_with fail
        go_roundw
        case rel => exact ⟨i + 1, by omega, by go_num, Lib.hid HBf.out⟩
        case measure => (simp [intOf]) <;> omega
    · obtain rfl : i = N := by omega
      go_wp2_with fail
      go_ret
      exact ⟨rfl, HB.out⟩
end Go.Proofs.YtaaaddmdcldclaaGreatDoor
