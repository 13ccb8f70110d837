/- The law LexerTokens. -/
import Derived.Test.YtaaaddmdcldclaaGreatDoorTj
import Derived.Test.YtaaaddmdcldclaaGreatDoorNy
namespace Go.Proofs.YtaaaddmdcldclaaGreatDoor
open Go.RowKit Go.Shelf
set_option linter.unusedVariables false
set_option linter.unusedSimpArgs false

theorem valid_same (k n : Int) (t : ByteArray) : (spellE k t n == 0) = validB k t n := by
  cases h : validB k t n
  · rw [(spell_no (fun h2 => by rw [(ok_iff k t n).1 h2] at h; cases h)).2]; rfl
  · rw [(spell_yes ((ok_iff k t n).2 h)).2]; rfl
theorem keep4 {w1 w2 : World} {g : Nat} {k n a : Int} {t : ByteArray} (hb : Below w1.heap.size w1 w2) (h : w1.cell? ⟨g, 0, none⟩ = some (.int .i64 k) ∧ w1.cell? ⟨g, 1, none⟩ = some (.string t) ∧ w1.cell? ⟨g, 2, none⟩ = some (.int .i64 n) ∧ w1.cell? ⟨g, 3, none⟩ = some (.int .i64 a)) : w2.cell? ⟨g, 0, none⟩ = some (.int .i64 k) ∧ w2.cell? ⟨g, 1, none⟩ = some (.string t) ∧ w2.cell? ⟨g, 2, none⟩ = some (.int .i64 n) ∧ w2.cell? ⟨g, 3, none⟩ = some (.int .i64 a) :=
  ⟨(hb.cell (p := ⟨g, 0, none⟩) (World.block_lt_of_cell? _ _ h.1)).trans h.1, (hb.cell (p := ⟨g, 1, none⟩) (World.block_lt_of_cell? _ _ h.2.1)).trans h.2.1, (hb.cell (p := ⟨g, 2, none⟩) (World.block_lt_of_cell? _ _ h.2.2.1)).trans h.2.2.1, (hb.cell (p := ⟨g, 3, none⟩) (World.block_lt_of_cell? _ _ h.2.2.2)).trans h.2.2.2⟩
set_option maxHeartbeats 8000000 in
set_option maxRecDepth 100000 in
theorem tokens_law (k : Int) (t : ByteArray) (n a : Int) (w : World) (ht : Tab w) : Calls Tryz.prog 5 #[.agg #[.int .i64 k, .string t, .int .i64 n, .int .i64 a]] w fun e w' => e = .returned (.bool true) ∧ Below w.heap.size w w' := by
  have HAW := Lib.hid (fun (x : World) (hb : Below w.heap.size w x) => awake_yes x (ht.below hb))
  by_cases h2 : 200 < t.size
  · have k2 : (200 : Int) < (t.size : Int) := by omega
    clear ht h2
    obtain ⟨W, g, hW, hg, R1, B, sz⟩ := box1 w #[.int .i64 k, .string t, .int .i64 n, .int .i64 a] 40
    have HB := Lib.hid B
    have HG := Lib.hid R1
    clear B R1 sz
    go_enter Tryz.func5, Tryz.ntmps5
    go_upto_region 1 with fail
    rw [← hW]
    try rw [← hg]
    clear hW hg
    go_wp2_with fail
    refine (HAW.out _ HB.out).mono ?_
    rintro e w1 ⟨rfl, hb⟩
    have HG := Lib.hid (HG.out.keep hb)
    have HB := Lib.hid (HB.out.trans (hb.mono HB.out.size))
    clear hb
    have g_0 := HG.out.c 0 _ rfl
    have g_1 := HG.out.c 1 _ rfl
    have g_2 := HG.out.c 2 _ rfl
    have g_3 := HG.out.c 3 _ rfl
    go_wp2_with fail
    go_ret
    exact ⟨rfl, HB.out⟩
  have k2 : ¬ (200 : Int) < (t.size : Int) := by omega
  have hva := fun (x : World) (hb : Below w.heap.size w x) => valid_any k t n a (by omega) x (ht.below hb)
  have hsp := fun (x : World) (hb : Below w.heap.size w x) => spell_any k t n a (by omega) x (ht.below hb)
  have hrv := fun (x : World) => rvalid_any k t n a (by omega) x
  have hrs := fun (x : World) => rspell_any k t n a (by omega) x
  simp only [valid_same] at hva
  obtain ⟨V, hV⟩ : ∃ V, V = validB k t n := ⟨_, rfl⟩
  obtain ⟨S, hS⟩ : ∃ V, V = spellS k t n := ⟨_, rfl⟩
  obtain ⟨E, hE⟩ : ∃ V, V = spellE k t n := ⟨_, rfl⟩
  rw [← hV] at hva hrv
  rw [← hS, ← hE] at hsp hrs
  have HVA := Lib.hid hva
  have HSP := Lib.hid hsp
  have HRV := Lib.hid hrv
  have HRS := Lib.hid hrs
  clear hva hsp hrv hrs hV hS hE ht h2
  obtain ⟨W, g, hW, hg, R1, B, sz⟩ := box1 w #[.int .i64 k, .string t, .int .i64 n, .int .i64 a] 40
  have HB := Lib.hid B
  have HG := Lib.hid R1
  clear B R1 sz
  go_enter Tryz.func5, Tryz.ntmps5
  go_upto_region 1 with fail
  rw [← hW]
  try rw [← hg]
  clear hW hg
  go_wp2_with fail
  refine (HAW.out _ HB.out).mono ?_
  rintro e w1 ⟨rfl, hb⟩
  have HG := Lib.hid (HG.out.keep hb)
  have HB := Lib.hid (HB.out.trans (hb.mono HB.out.size))
  clear hb
  have g_0 := HG.out.c 0 _ rfl
  have g_1 := HG.out.c 1 _ rfl
  have g_2 := HG.out.c 2 _ rfl
  have g_3 := HG.out.c 3 _ rfl
  go_wp2_with fail
  clear g_0 g_1 g_2 g_3
  refine (HSP.out _ HB.out).mono ?_
  rintro e w1 ⟨rfl, hb⟩
  have HG := Lib.hid (HG.out.keep hb)
  have HB := Lib.hid (HB.out.trans (hb.mono HB.out.size))
  clear hb
  have g_0 := HG.out.c 0 _ rfl
  have g_1 := HG.out.c 1 _ rfl
  have g_2 := HG.out.c 2 _ rfl
  have g_3 := HG.out.c 3 _ rfl
  go_wp2_with fail
  clear g_0 g_1 g_2 g_3
  refine (HRS.out _).mono ?_
  rintro e w1 ⟨rfl, hb⟩
  have HG := Lib.hid (HG.out.keep hb)
  have HB := Lib.hid (HB.out.trans (hb.mono HB.out.size))
  clear hb
  have g_0 := HG.out.c 0 _ rfl
  have g_1 := HG.out.c 1 _ rfl
  have g_2 := HG.out.c 2 _ rfl
  have g_3 := HG.out.c 3 _ rfl
  go_wp2_with fail
  have s0 : w1.cell? ⟨g, 0, none⟩ = some (.int .i64 k) ∧ w1.cell? ⟨g, 1, none⟩ = some (.string t) ∧ w1.cell? ⟨g, 2, none⟩ = some (.int .i64 n) ∧ w1.cell? ⟨g, 3, none⟩ = some (.int .i64 a) := ⟨g_0, g_1, g_2, g_3⟩
  refine wp_region_held_drew (S := fun w => w.cell? ⟨g, 0, none⟩ = some (.int .i64 k) ∧ w.cell? ⟨g, 1, none⟩ = some (.string t) ∧ w.cell? ⟨g, 2, none⟩ = some (.int .i64 n) ∧ w.cell? ⟨g, 3, none⟩ = some (.int .i64 a)) (by kernel_rfl) s0 (fun hHeld => ?_)
  clear s0
  clear g_0 g_1 g_2 g_3
  have HB := Lib.hid HB.out.drew
  obtain ⟨W9, hW9⟩ : ∃ z, z = w1.drew := ⟨_, rfl⟩
  rw [← hW9] at HB hHeld ⊢
  clear hW9
  refine' wpAnyH_take (i := 0) (v := _) rfl (by kernel_rfl) (by kernel_rfl) (by kernel_rfl) (fun _ _ _ h => h) (Or.inl ⟨by rfl, ?_⟩) hHeld ?_
  rotate_left
  · intro w hSw
    (try dsimp only at hSw)
    go_simp
    try with_reducible rfl
  (try simp only [Act.put, List.getElem_toArray, List.getElem_cons_zero, List.getElem_cons_succ, List.setIfInBounds_toArray, List.set_cons_zero, List.set_cons_succ])
  refine' wpAnyH_take (i := 2) (v := _) rfl (by kernel_rfl) (by kernel_rfl) (by kernel_rfl) (fun _ _ _ h => h) (Or.inl ⟨by rfl, ?_⟩) hHeld ?_
  rotate_left
  · intro w hSw
    (try dsimp only at hSw)
    go_simp
    try with_reducible rfl
  (try simp only [Act.put, List.getElem_toArray, List.getElem_cons_zero, List.getElem_cons_succ, List.setIfInBounds_toArray, List.set_cons_zero, List.set_cons_succ])
  refine wpAnyH_ready (rs := [1]) (by kernel_rfl) (by simp) ?_
  refine AllReadyH.cons rfl (fun K hK => ?_) AllReadyH.nil
  go_simp
  refine (HVA.out _ HB.out).mono ?_
  rintro e w2 ⟨rfl, hb⟩
  have HB := Lib.hid (HB.out.trans (hb.mono HB.out.size))
  have HSX := keep4 hb hHeld
  clear hb hHeld
  (try go_simp)
  refine hK.out _ _ HSX (fun hHeld => ?_)
  clear hK K HSX
  (try simp only [Act.put, List.getElem_toArray, List.getElem_cons_zero, List.getElem_cons_succ, List.setIfInBounds_toArray, List.set_cons_zero, List.set_cons_succ])
  refine wpAnyH_ready (rs := [3]) (by kernel_rfl) (by simp) ?_
  refine AllReadyH.cons rfl (fun K hK => ?_) AllReadyH.nil
  go_simp
  refine (HRV.out _).mono ?_
  rintro e w2 ⟨rfl, hb⟩
  have HB := Lib.hid (HB.out.trans (hb.mono HB.out.size))
  have HSX := keep4 hb hHeld
  clear hb hHeld
  (try go_simp)
  refine hK.out _ _ HSX (fun hHeld => ?_)
  clear hK K HSX
  (try simp only [Act.put, List.getElem_toArray, List.getElem_cons_zero, List.getElem_cons_succ, List.setIfInBounds_toArray, List.set_cons_zero, List.set_cons_succ])
  refine' wpAnyH_take (i := 4) (v := _) rfl (by kernel_rfl) (by kernel_rfl) (by kernel_rfl) (fun _ _ _ h => h) (Or.inl ⟨by rfl, ?_⟩) hHeld ?_
  rotate_left
  · intro w hSw
    (try dsimp only at hSw)
    go_simp
    try with_reducible rfl
  (try simp only [Act.put, List.getElem_toArray, List.getElem_cons_zero, List.getElem_cons_succ, List.setIfInBounds_toArray, List.set_cons_zero, List.set_cons_succ])
  refine' wpAnyH_take (i := 5) (v := _) rfl (by kernel_rfl) (by kernel_rfl) (by kernel_rfl) (fun _ _ _ h => h) (Or.inl ⟨by rfl, ?_⟩) hHeld ?_
  rotate_left
  · intro w hSw
    (try dsimp only at hSw)
    go_simp
    try with_reducible rfl
  (try simp only [Act.put, List.getElem_toArray, List.getElem_cons_zero, List.getElem_cons_succ, List.setIfInBounds_toArray, List.set_cons_zero, List.set_cons_succ])
  refine' wpAnyH_take (i := 6) (v := _) rfl (by kernel_rfl) (by kernel_rfl) (by kernel_rfl) (fun _ _ _ h => h) (Or.inl ⟨by rfl, ?_⟩) hHeld ?_
  rotate_left
  · intro w hSw
    (try dsimp only at hSw)
    go_simp
    try with_reducible rfl
  (try simp only [Act.put, List.getElem_toArray, List.getElem_cons_zero, List.getElem_cons_succ, List.setIfInBounds_toArray, List.set_cons_zero, List.set_cons_succ])
  refine' wpAnyH_take (i := 7) (v := _) rfl (by kernel_rfl) (by kernel_rfl) (by kernel_rfl) (fun _ _ _ h => h) (Or.inl ⟨by rfl, ?_⟩) hHeld ?_
  rotate_left
  · intro w hSw
    (try dsimp only at hSw)
    go_simp
    try with_reducible rfl
  (try simp only [Act.put, List.getElem_toArray, List.getElem_cons_zero, List.getElem_cons_succ, List.setIfInBounds_toArray, List.set_cons_zero, List.set_cons_succ])
  refine' wpAnyH_take (i := 8) (v := _) rfl (by kernel_rfl) (by kernel_rfl) (by kernel_rfl) (fun _ _ _ h => h) (Or.inl ⟨by rfl, ?_⟩) hHeld ?_
  rotate_left
  · intro w hSw
    (try dsimp only at hSw)
    go_simp
    try with_reducible rfl
  (try simp only [Act.put, List.getElem_toArray, List.getElem_cons_zero, List.getElem_cons_succ, List.setIfInBounds_toArray, List.set_cons_zero, List.set_cons_succ])
  refine' wpAnyH_take (i := 9) (v := _) rfl (by kernel_rfl) (by kernel_rfl) (by kernel_rfl) (fun _ _ _ h => h) (Or.inl ⟨by rfl, ?_⟩) hHeld ?_
  rotate_left
  · intro w hSw
    (try dsimp only at hSw)
    go_simp
    try with_reducible rfl
  (try simp only [Act.put, List.getElem_toArray, List.getElem_cons_zero, List.getElem_cons_succ, List.setIfInBounds_toArray, List.set_cons_zero, List.set_cons_succ])
  refine' wpAnyH_take (i := 10) (v := _) rfl (by kernel_rfl) (by kernel_rfl) (by kernel_rfl) (fun _ _ _ h => h) (Or.inl ⟨by rfl, ?_⟩) hHeld ?_
  rotate_left
  · intro w hSw
    (try dsimp only at hSw)
    go_simp
    try with_reducible rfl
  (try simp only [Act.put, List.getElem_toArray, List.getElem_cons_zero, List.getElem_cons_succ, List.setIfInBounds_toArray, List.set_cons_zero, List.set_cons_succ])
  refine' wpAnyH_take (i := 11) (v := _) rfl (by kernel_rfl) (by kernel_rfl) (by kernel_rfl) (fun _ _ _ h => h) (Or.inl ⟨by rfl, ?_⟩) hHeld ?_
  rotate_left
  · intro w hSw
    (try dsimp only at hSw)
    go_simp
    try with_reducible rfl
  (try simp only [Act.put, List.getElem_toArray, List.getElem_cons_zero, List.getElem_cons_succ, List.setIfInBounds_toArray, List.set_cons_zero, List.set_cons_succ])
  refine' wpAnyH_take (i := 12) (v := _) rfl (by kernel_rfl) (by kernel_rfl) (by kernel_rfl) (fun _ _ _ h => h) (Or.inl ⟨by rfl, ?_⟩) hHeld ?_
  rotate_left
  · intro w hSw
    (try dsimp only at hSw)
    go_simp
    try with_reducible rfl
  (try simp only [Act.put, List.getElem_toArray, List.getElem_cons_zero, List.getElem_cons_succ, List.setIfInBounds_toArray, List.set_cons_zero, List.set_cons_succ])
  refine' wpAnyH_take (i := 13) (v := _) rfl (by kernel_rfl) (by kernel_rfl) (by kernel_rfl) (fun _ _ _ h => h) (Or.inl ⟨by rfl, ?_⟩) hHeld ?_
  rotate_left
  · intro w hSw
    (try dsimp only at hSw)
    go_simp
    try with_reducible rfl
  (try simp only [Act.put, List.getElem_toArray, List.getElem_cons_zero, List.getElem_cons_succ, List.setIfInBounds_toArray, List.set_cons_zero, List.set_cons_succ])
  refine' wpAnyH_take (i := 14) (v := _) rfl (by kernel_rfl) (by kernel_rfl) (by kernel_rfl) (fun _ _ _ h => h) (Or.inl ⟨by rfl, ?_⟩) hHeld ?_
  rotate_left
  · intro w hSw
    (try dsimp only at hSw)
    go_simp
    try with_reducible rfl
  (try simp only [Act.put, List.getElem_toArray, List.getElem_cons_zero, List.getElem_cons_succ, List.setIfInBounds_toArray, List.set_cons_zero, List.set_cons_succ])
  refine' wpAnyH_take (i := 15) (v := _) rfl (by kernel_rfl) (by kernel_rfl) (by kernel_rfl) (fun _ _ _ h => h) (Or.inl ⟨by rfl, ?_⟩) hHeld ?_
  rotate_left
  · intro w hSw
    (try dsimp only at hSw)
    go_simp
    try with_reducible rfl
  (try simp only [Act.put, List.getElem_toArray, List.getElem_cons_zero, List.getElem_cons_succ, List.setIfInBounds_toArray, List.set_cons_zero, List.set_cons_succ])
  refine wpAnyH_done (by kernel_rfl) ?_ _
  (try simp only [Act.put, List.getElem_toArray, List.getElem_cons_zero, List.getElem_cons_succ, List.setIfInBounds_toArray, List.set_cons_zero, List.set_cons_succ])
  clear hHeld
  go_wp2_with fail
  go_ret
  exact ⟨(by first | done | rfl | simp), HB.out⟩
end Go.Proofs.YtaaaddmdcldclaaGreatDoor
