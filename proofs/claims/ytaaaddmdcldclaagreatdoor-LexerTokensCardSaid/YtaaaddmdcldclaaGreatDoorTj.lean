/- Contract of the specification's Spell. -/
import Derived.Test.YtaaaddmdcldclaaGreatDoorPg
import Derived.Deep.CutBlock
namespace Go.Proofs.YtaaaddmdcldclaaGreatDoor
open Go.RowKit Go.Shelf
set_option linter.unusedVariables false
set_option linter.unusedSimpArgs false

theorem dgl_two (m : Nat) : Fx.bs (dgl m 2) = Cv.bs (Cv.two (m : Int)) := by
  show Fx.bs [UInt8.ofNat (48 + m / 10 ^ 1 % 10), UInt8.ofNat (48 + m / 10 ^ 0 % 10)] = Cv.bs [Cv.dgt ((m : Int).toNat / 10), Cv.dgt (m : Int).toNat]
  unfold Cv.dgt
  rw [Int.toNat_natCast, show m / 10 ^ 1 = m / 10 by omega, show m / 10 ^ 0 = m by simp]
  rfl
theorem valid_kind {k n : Int} {t : ByteArray} (h : validB k t n = true) : k = 1 ∨ (k = 2 ∧ -1000000000000 ≤ n ∧ n ≤ 1000000000000) ∨ k = 3 ∨ (k = 4 ∧ 0 ≤ n ∧ n < 1440) ∨ k = 5 ∨ k = 6 := by
  unfold validB at h
  split at h
  · exact .inl ‹_›
  · split at h
    · simp only [Bool.and_eq_true, decide_eq_true_eq] at h
      exact .inr (.inl ⟨‹_›, h.1.2, h.2⟩)
    · split at h
      · exact .inr (.inr (.inl ‹_›))
      · split at h
        · simp only [Bool.and_eq_true, decide_eq_true_eq] at h
          exact .inr (.inr (.inr (.inl ⟨‹_›, h.1.2, h.2⟩)))
        · split at h
          · exact .inr (.inr (.inr (.inr (.inl ‹_›))))
          · split at h
            · exact .inr (.inr (.inr (.inr (.inr ‹_›))))
            · cases h
set_option maxHeartbeats 8000000 in
set_option maxRecDepth 100000 in
theorem rspell_any (k : Int) (t : ByteArray) (n a : Int) (ht : t.size ≤ 1000000) (w : World) : Calls Tryz.prog 17 #[.agg #[.int .i64 k, .string t, .int .i64 n, .int .i64 a]] w fun e w' => e = .returned (.tuple #[.string (spellS k t n), .int .i64 (spellE k t n)]) ∧ Below w.heap.size w w' := by
  have hva := fun w => rvalid_any k t n a ht w
  cases hv : validB k t n
  · have HY := Lib.hid (spell_no (fun h => by rw [(ok_iff k t n).1 h] at hv; cases hv))
    rw [hv] at hva
    have HVA := Lib.hid hva
    clear hva hv
    obtain ⟨W, g, hW, hg, R1, B, sz⟩ := box1 w #[.int .i64 (k), .string t, .int .i64 n, .int .i64 a] 40
    have HB := Lib.hid B
    have HG := Lib.hid R1
    clear B R1 sz
    go_enter Tryz.func17, Tryz.ntmps17
    go_upto_region 1 with fail
    rw [← hW]
    try rw [← hg]
    clear hW hg
    have g_0 := HG.out.c 0 _ rfl
    have g_1 := HG.out.c 1 _ rfl
    have g_2 := HG.out.c 2 _ rfl
    have g_3 := HG.out.c 3 _ rfl
    go_wp2_with fail
    refine (HVA.out _).mono ?_
    rintro e w1 ⟨rfl, hb⟩
    have HG := Lib.hid (HG.out.keep hb)
    have HB := Lib.hid (HB.out.trans (hb.mono HB.out.size))
    clear hb g_0 g_1 g_2 g_3
    have g_0 := HG.out.c 0 _ rfl
    have g_1 := HG.out.c 1 _ rfl
    have g_2 := HG.out.c 2 _ rfl
    have g_3 := HG.out.c 3 _ rfl
    go_wp2_with fail
    go_ret2
    exact ⟨by rw [HY.out.1, HY.out.2]; (first | done | rfl), HB.out⟩
  have HSY := Lib.hid (spell_yes ((ok_iff k t n).2 hv))
  have hk := valid_kind hv
  rw [hv] at hva
  have HVA := Lib.hid hva
  clear hva hv
  rcases hk with rfl | ⟨rfl, hn0, hn1⟩ | rfl | ⟨rfl, hn0, hn1⟩ | rfl | rfl
  · have HY := Lib.hid (show spellS 1 t n = t ∧ spellE 1 t n = 0 from ⟨HSY.out.1.trans (spell_self _ _ (by decide)), HSY.out.2⟩)
    obtain ⟨W, g, hW, hg, R1, B, sz⟩ := box1 w #[.int .i64 (1), .string t, .int .i64 n, .int .i64 a] 40
    have HB := Lib.hid B
    have HG := Lib.hid R1
    clear B R1 sz
    go_enter Tryz.func17, Tryz.ntmps17
    go_upto_region 1 with fail
    rw [← hW]
    try rw [← hg]
    clear hW hg
    have g_0 := HG.out.c 0 _ rfl
    have g_1 := HG.out.c 1 _ rfl
    have g_2 := HG.out.c 2 _ rfl
    have g_3 := HG.out.c 3 _ rfl
    go_wp2_with fail
    refine (HVA.out _).mono ?_
    rintro e w1 ⟨rfl, hb⟩
    have HG := Lib.hid (HG.out.keep hb)
    have HB := Lib.hid (HB.out.trans (hb.mono HB.out.size))
    clear hb g_0 g_1 g_2 g_3
    have g_0 := HG.out.c 0 _ rfl
    have g_1 := HG.out.c 1 _ rfl
    have g_2 := HG.out.c 2 _ rfl
    have g_3 := HG.out.c 3 _ rfl
    go_wp2_with fail
    go_ret2
    exact ⟨by rw [HY.out.1, HY.out.2]; (first | done | rfl), HB.out⟩
  · have HY := Lib.hid (show spellS 2 t n = Fx.textB n ∧ spellE 2 t n = 0 from ⟨HSY.out.1.trans ((if_neg (by decide)).trans ((if_neg (by decide)).trans (if_pos rfl))), HSY.out.2⟩)
    have HDC := Lib.hid (fun w => decimal_any n hn0 hn1 w)
    clear hn0 hn1 HSY
    obtain ⟨W, g, hW, hg, R1, B, sz⟩ := box1 w #[.int .i64 (2), .string t, .int .i64 n, .int .i64 a] 40
    have HB := Lib.hid B
    have HG := Lib.hid R1
    clear B R1 sz
    go_enter Tryz.func17, Tryz.ntmps17
    go_upto_region 1 with fail
    rw [← hW]
    try rw [← hg]
    clear hW hg
    have g_0 := HG.out.c 0 _ rfl
    have g_1 := HG.out.c 1 _ rfl
    have g_2 := HG.out.c 2 _ rfl
    have g_3 := HG.out.c 3 _ rfl
    go_wp2_with fail
    refine (HVA.out _).mono ?_
    rintro e w1 ⟨rfl, hb⟩
    have HG := Lib.hid (HG.out.keep hb)
    have HB := Lib.hid (HB.out.trans (hb.mono HB.out.size))
    clear hb g_0 g_1 g_2 g_3
    have g_0 := HG.out.c 0 _ rfl
    have g_1 := HG.out.c 1 _ rfl
    have g_2 := HG.out.c 2 _ rfl
    have g_3 := HG.out.c 3 _ rfl
    go_wp2_with fail
    refine (HDC.out _).mono ?_
    rintro e w2 ⟨rfl, hb⟩
    have HB := Lib.hid (HB.out.trans (hb.mono HB.out.size))
    clear hb g_0 g_1 g_2 g_3
    go_wp2_with fail
    go_ret2
    exact ⟨by rw [HY.out.1, HY.out.2]; (first | done | rfl), HB.out⟩
  · have HY := Lib.hid (show spellS 3 t n = ⟨#[34]⟩ ++ t ++ ⟨#[34]⟩ ∧ spellE 3 t n = 0 from ⟨HSY.out.1.trans ((if_neg (by decide)).trans (if_pos rfl)), HSY.out.2⟩)
    have z1 : ¬ 9223372036854775807 < 1 + t.size := by omega
    have z2 : ¬ 9223372036854775807 < 1 + t.size + 1 := by omega
    clear HSY
    obtain ⟨W, g, hW, hg, R1, B, sz⟩ := box1 w #[.int .i64 (3), .string t, .int .i64 n, .int .i64 a] 40
    have HB := Lib.hid B
    have HG := Lib.hid R1
    clear B R1 sz
    go_enter Tryz.func17, Tryz.ntmps17
    go_upto_region 1 with fail
    rw [← hW]
    try rw [← hg]
    clear hW hg
    have g_0 := HG.out.c 0 _ rfl
    have g_1 := HG.out.c 1 _ rfl
    have g_2 := HG.out.c 2 _ rfl
    have g_3 := HG.out.c 3 _ rfl
    go_wp2_with fail
    refine (HVA.out _).mono ?_
    rintro e w1 ⟨rfl, hb⟩
    have HG := Lib.hid (HG.out.keep hb)
    have HB := Lib.hid (HB.out.trans (hb.mono HB.out.size))
    clear hb g_0 g_1 g_2 g_3
    have g_0 := HG.out.c 0 _ rfl
    have g_1 := HG.out.c 1 _ rfl
    have g_2 := HG.out.c 2 _ rfl
    have g_3 := HG.out.c 3 _ rfl
    go_wp2_with fail
    go_ret2
    exact ⟨by rw [HY.out.1, HY.out.2]; (first | done | rfl), HB.out⟩
  · obtain ⟨m, rfl⟩ := Int.eq_ofNat_of_zero_le hn0
    have hd1 := fun w => digits_any (m / 60) 2 2 (by omega) (by decide) ⟨by omega, Nat.le_refl 2⟩ (fun k hk => .inr hk) w
    have hd2 := fun w => digits_any (m % 60) 2 2 (by omega) (by decide) ⟨by omega, Nat.le_refl 2⟩ (fun k hk => .inr hk) w
    rw [dgl_two] at hd1 hd2
    have hcl : Cv.bs (Cv.clockL (m : Int)) = Cv.bs (Cv.two ((m / 60 : Nat) : Int)) ++ ⟨#[58]⟩ ++ Cv.bs (Cv.two ((m % 60 : Nat) : Int)) := by
      rw [show (⟨#[58]⟩ : ByteArray) = Cv.bs [58] from rfl, Cv.bs_append, Cv.bs_append]
      rfl
    have HYY := Lib.hid (show spellS 4 t m = Cv.bs (Cv.two ((m / 60 : Nat) : Int)) ++ ⟨#[58]⟩ ++ Cv.bs (Cv.two ((m % 60 : Nat) : Int)) ∧ spellE 4 t m = 0 from ⟨HSY.out.1.trans (((if_neg (by decide)).trans ((if_neg (by decide)).trans ((if_neg (by decide)).trans ((if_pos rfl).trans (if_pos ⟨hn0, hn1⟩))))).trans hcl), HSY.out.2⟩)
    have s1 : (Cv.bs (Cv.two ((m / 60 : Nat) : Int))).size = 2 := rfl
    have s2 : (Cv.bs (Cv.two ((m % 60 : Nat) : Int))).size = 2 := rfl
    obtain ⟨D1, hD1⟩ : ∃ D, D = Cv.bs (Cv.two ((m / 60 : Nat) : Int)) := ⟨_, rfl⟩
    obtain ⟨D2, hD2⟩ : ∃ D, D = Cv.bs (Cv.two ((m % 60 : Nat) : Int)) := ⟨_, rfl⟩
    rw [← hD1] at hd1 s1 HYY
    rw [← hD2] at hd2 s2 HYY
    obtain ⟨A, hA⟩ : ∃ A, A = m / 60 := ⟨_, rfl⟩
    obtain ⟨C, hC⟩ : ∃ A, A = m % 60 := ⟨_, rfl⟩
    rw [← hA] at hd1
    rw [← hC] at hd2
    have HD1 := Lib.hid (show ∀ w, Calls Tryz.prog 38 #[.int .i64 (A : Nat), .int .i64 2] w fun e w' => e = .returned (.string D1) ∧ Below w.heap.size w w' from hd1)
    have HD2 := Lib.hid (show ∀ w, Calls Tryz.prog 38 #[.int .i64 (C : Nat), .int .i64 2] w fun e w' => e = .returned (.string D2) ∧ Below w.heap.size w w' from hd2)
    obtain ⟨n, hnn⟩ : ∃ n : Int, n = (m : Int) := ⟨_, rfl⟩
    rw [← hnn] at HVA HYY ⊢
    have r1 : IntKind.i64.wrap (Int.tdiv n 60) = (A : Int) := by
      rw [Int.tdiv_eq_ediv_of_nonneg (by omega)]
      have h : n / 60 = (A : Int) := by omega
      rw [h]; exact IntWalk.i64_in _ ⟨by omega, by omega⟩
    have r2 : Int.tmod n 60 = (C : Int) := by
      rw [Int.tmod_eq_emod_of_nonneg (by omega)]
      omega
    have g1 : ¬ 9223372036854775807 < D1.size + 1 := by omega
    have g2 : ¬ 9223372036854775807 < D1.size + 1 + D2.size := by omega
    have HY := HYY
    clear hd1 hd2 hcl hD1 hD2 hA hC hnn hn0 hn1 HYY HSY
    obtain ⟨W, g, hW, hg, R1, B, sz⟩ := box1 w #[.int .i64 (4), .string t, .int .i64 n, .int .i64 a] 40
    have HB := Lib.hid B
    have HG := Lib.hid R1
    clear B R1 sz
    go_enter Tryz.func17, Tryz.ntmps17
    go_upto_region 1 with fail
    rw [← hW]
    try rw [← hg]
    clear hW hg
    have g_0 := HG.out.c 0 _ rfl
    have g_1 := HG.out.c 1 _ rfl
    have g_2 := HG.out.c 2 _ rfl
    have g_3 := HG.out.c 3 _ rfl
    go_wp2_with fail
    refine (HVA.out _).mono ?_
    rintro e w1 ⟨rfl, hb⟩
    have HG := Lib.hid (HG.out.keep hb)
    have HB := Lib.hid (HB.out.trans (hb.mono HB.out.size))
    clear hb g_0 g_1 g_2 g_3
    have g_0 := HG.out.c 0 _ rfl
    have g_1 := HG.out.c 1 _ rfl
    have g_2 := HG.out.c 2 _ rfl
    have g_3 := HG.out.c 3 _ rfl
    go_wp2_with fail
    have s0 : w1.cell? ⟨g, 2, none⟩ = some (.int .i64 n) := g_2
    refine wp_region_held_drew (S := fun w => w.cell? ⟨g, 2, none⟩ = some (.int .i64 n)) (by kernel_rfl) s0 (fun hHeld => ?_)
    clear s0 g_0 g_1 g_2 g_3
    have HB := Lib.hid HB.out.drew
    obtain ⟨W9, hW9⟩ : ∃ z, z = w1.drew := ⟨_, rfl⟩
    rw [← hW9] at HB hHeld ⊢
    clear hW9
    refine' wpAnyH_take (i := 0) (v := _) rfl (by kernel_rfl) (by kernel_rfl) (by kernel_rfl) (fun _ _ _ h => h) (Or.inl ⟨by rfl, ?_⟩) hHeld ?_
    rotate_left
    · intro w hSw
      (try dsimp only at hSw)
      go_simp
      try with_reducible rfl
    (try simp only [Act.put, List.getElem_toArray, List.getElem_cons_zero, List.getElem_cons_succ, List.setIfInBounds_toArray, List.set_cons_zero, List.set_cons_succ])
    refine' wpAnyH_take (i := 1) (v := _) rfl (by kernel_rfl) (by kernel_rfl) (by kernel_rfl) (fun _ _ _ h => h) (Or.inl ⟨by rfl, ?_⟩) hHeld ?_
    rotate_left
    · intro w hSw
      (try dsimp only at hSw)
      go_simp
      try with_reducible rfl
    (try simp only [Act.put, List.getElem_toArray, List.getElem_cons_zero, List.getElem_cons_succ, List.setIfInBounds_toArray, List.set_cons_zero, List.set_cons_succ])
    refine' wpAnyH_take (i := 2) (v := _) rfl (by kernel_rfl) (by kernel_rfl) (by kernel_rfl) (fun _ _ _ h => h) (Or.inl ⟨by rfl, ?_⟩) hHeld ?_
    rotate_left
    · intro w hSw
      (try dsimp only at hSw)
      go_simp
      try with_reducible rfl
    (try simp only [Act.put, List.getElem_toArray, List.getElem_cons_zero, List.getElem_cons_succ, List.setIfInBounds_toArray, List.set_cons_zero, List.set_cons_succ])
    refine' wpAnyH_take (i := 5) (v := _) rfl (by kernel_rfl) (by kernel_rfl) (by kernel_rfl) (fun _ _ _ h => h) (Or.inl ⟨by rfl, ?_⟩) hHeld ?_
    rotate_left
    · intro w hSw
      (try dsimp only at hSw)
      go_simp
      try with_reducible rfl
    (try simp only [Act.put, List.getElem_toArray, List.getElem_cons_zero, List.getElem_cons_succ, List.setIfInBounds_toArray, List.set_cons_zero, List.set_cons_succ])
    refine' wpAnyH_take (i := 6) (v := _) rfl (by kernel_rfl) (by kernel_rfl) (by kernel_rfl) (fun _ _ _ h => h) (Or.inl ⟨by rfl, ?_⟩) hHeld ?_
    rotate_left
    · intro w hSw
      (try dsimp only at hSw)
      go_simp
      try with_reducible rfl
    (try simp only [Act.put, List.getElem_toArray, List.getElem_cons_zero, List.getElem_cons_succ, List.setIfInBounds_toArray, List.set_cons_zero, List.set_cons_succ])
    refine' wpAnyH_take (i := 7) (v := _) rfl (by kernel_rfl) (by kernel_rfl) (by kernel_rfl) (fun _ _ _ h => h) (Or.inl ⟨by rfl, ?_⟩) hHeld ?_
    rotate_left
    · intro w hSw
      (try dsimp only at hSw)
      go_simp
      try with_reducible rfl
    (try simp only [Act.put, List.getElem_toArray, List.getElem_cons_zero, List.getElem_cons_succ, List.setIfInBounds_toArray, List.set_cons_zero, List.set_cons_succ])
    refine wpAnyH_ready (rs := [3]) (by kernel_rfl) (by simp) ?_
    refine AllReadyH.cons rfl (fun K hK => ?_) AllReadyH.nil
    go_simp
    refine (HD1.out _).mono ?_
    rintro e w2 ⟨rfl, hb⟩
    have HB := Lib.hid (HB.out.trans (hb.mono HB.out.size))
    have HSX : w2.cell? ⟨g, 2, none⟩ = some (.int .i64 n) := (hb.cell (p := ⟨g, 2, none⟩) (World.block_lt_of_cell? _ _ hHeld)).trans hHeld
    clear hb hHeld
    (try go_simp)
    refine hK.out _ _ HSX (fun hHeld => ?_)
    clear hK K HSX
    (try simp only [Act.put, List.getElem_toArray, List.getElem_cons_zero, List.getElem_cons_succ, List.setIfInBounds_toArray, List.set_cons_zero, List.set_cons_succ])
    refine' wpAnyH_take (i := 4) (v := _) rfl (by kernel_rfl) (by kernel_rfl) (by kernel_rfl) (fun _ _ _ h => h) (Or.inl ⟨by rfl, ?_⟩) hHeld ?_
    rotate_left
    · intro w hSw
      (try dsimp only at hSw)
      go_simp
      try with_reducible rfl
    (try simp only [Act.put, List.getElem_toArray, List.getElem_cons_zero, List.getElem_cons_succ, List.setIfInBounds_toArray, List.set_cons_zero, List.set_cons_succ])
    refine wpAnyH_ready (rs := [8]) (by kernel_rfl) (by simp) ?_
    refine AllReadyH.cons rfl (fun K hK => ?_) AllReadyH.nil
    go_simp
    refine (HD2.out _).mono ?_
    rintro e w2 ⟨rfl, hb⟩
    have HB := Lib.hid (HB.out.trans (hb.mono HB.out.size))
    have HSX : w2.cell? ⟨g, 2, none⟩ = some (.int .i64 n) := (hb.cell (p := ⟨g, 2, none⟩) (World.block_lt_of_cell? _ _ hHeld)).trans hHeld
    clear hb hHeld
    (try go_simp)
    refine hK.out _ _ HSX (fun hHeld => ?_)
    clear hK K HSX
    (try simp only [Act.put, List.getElem_toArray, List.getElem_cons_zero, List.getElem_cons_succ, List.setIfInBounds_toArray, List.set_cons_zero, List.set_cons_succ])
    refine' wpAnyH_take (i := 9) (v := _) rfl (by kernel_rfl) (by kernel_rfl) (by kernel_rfl) (fun _ _ _ h => h) (Or.inl ⟨by rfl, ?_⟩) hHeld ?_
    rotate_left
    · intro w hSw
      (try dsimp only at hSw)
      go_simp
      try with_reducible rfl
    (try simp only [Act.put, List.getElem_toArray, List.getElem_cons_zero, List.getElem_cons_succ, List.setIfInBounds_toArray, List.set_cons_zero, List.set_cons_succ])
    refine' wpAnyH_take (i := 10) (v := _) rfl (by kernel_rfl) (by kernel_rfl) (by kernel_rfl) (fun _ _ _ h => h) (Or.inl ⟨by rfl, ?_⟩) hHeld ?_
    rotate_left
    · intro w hSw
      (try dsimp only at hSw)
      go_simp
      try with_reducible rfl
    (try simp only [Act.put, List.getElem_toArray, List.getElem_cons_zero, List.getElem_cons_succ, List.setIfInBounds_toArray, List.set_cons_zero, List.set_cons_succ])
    refine' wpAnyH_take (i := 11) (v := _) rfl (by kernel_rfl) (by kernel_rfl) (by kernel_rfl) (fun _ _ _ h => h) (Or.inl ⟨by rfl, ?_⟩) hHeld ?_
    rotate_left
    · intro w hSw
      (try dsimp only at hSw)
      go_simp
      try with_reducible rfl
    (try simp only [Act.put, List.getElem_toArray, List.getElem_cons_zero, List.getElem_cons_succ, List.setIfInBounds_toArray, List.set_cons_zero, List.set_cons_succ])
    refine wpAnyH_done (by kernel_rfl) ?_ _
    (try simp only [Act.put, List.getElem_toArray, List.getElem_cons_zero, List.getElem_cons_succ, List.setIfInBounds_toArray, List.set_cons_zero, List.set_cons_succ])
    clear hHeld
    go_wp2_with fail
    go_ret2
    exact ⟨by rw [HY.out.1, HY.out.2]; (first | done | rfl), HB.out⟩
  · have HY := Lib.hid (show spellS 5 t n = t ∧ spellE 5 t n = 0 from ⟨HSY.out.1.trans (spell_self _ _ (by decide)), HSY.out.2⟩)
    obtain ⟨W, g, hW, hg, R1, B, sz⟩ := box1 w #[.int .i64 (5), .string t, .int .i64 n, .int .i64 a] 40
    have HB := Lib.hid B
    have HG := Lib.hid R1
    clear B R1 sz
    go_enter Tryz.func17, Tryz.ntmps17
    go_upto_region 1 with fail
    rw [← hW]
    try rw [← hg]
    clear hW hg
    have g_0 := HG.out.c 0 _ rfl
    have g_1 := HG.out.c 1 _ rfl
    have g_2 := HG.out.c 2 _ rfl
    have g_3 := HG.out.c 3 _ rfl
    go_wp2_with fail
    refine (HVA.out _).mono ?_
    rintro e w1 ⟨rfl, hb⟩
    have HG := Lib.hid (HG.out.keep hb)
    have HB := Lib.hid (HB.out.trans (hb.mono HB.out.size))
    clear hb g_0 g_1 g_2 g_3
    have g_0 := HG.out.c 0 _ rfl
    have g_1 := HG.out.c 1 _ rfl
    have g_2 := HG.out.c 2 _ rfl
    have g_3 := HG.out.c 3 _ rfl
    go_wp2_with fail
    go_ret2
    exact ⟨by rw [HY.out.1, HY.out.2]; (first | done | rfl), HB.out⟩
  · have HY := Lib.hid (show spellS 6 t n = t ∧ spellE 6 t n = 0 from ⟨HSY.out.1.trans (spell_self _ _ (by decide)), HSY.out.2⟩)
    obtain ⟨W, g, hW, hg, R1, B, sz⟩ := box1 w #[.int .i64 (6), .string t, .int .i64 n, .int .i64 a] 40
    have HB := Lib.hid B
    have HG := Lib.hid R1
    clear B R1 sz
    go_enter Tryz.func17, Tryz.ntmps17
    go_upto_region 1 with fail
    rw [← hW]
    try rw [← hg]
    clear hW hg
    have g_0 := HG.out.c 0 _ rfl
    have g_1 := HG.out.c 1 _ rfl
    have g_2 := HG.out.c 2 _ rfl
    have g_3 := HG.out.c 3 _ rfl
    go_wp2_with fail
    refine (HVA.out _).mono ?_
    rintro e w1 ⟨rfl, hb⟩
    have HG := Lib.hid (HG.out.keep hb)
    have HB := Lib.hid (HB.out.trans (hb.mono HB.out.size))
    clear hb g_0 g_1 g_2 g_3
    have g_0 := HG.out.c 0 _ rfl
    have g_1 := HG.out.c 1 _ rfl
    have g_2 := HG.out.c 2 _ rfl
    have g_3 := HG.out.c 3 _ rfl
    go_wp2_with fail
    go_ret2
    exact ⟨by rw [HY.out.1, HY.out.2]; (first | done | rfl), HB.out⟩
end Go.Proofs.YtaaaddmdcldclaaGreatDoor
