/- The law Library. -/
import Derived.Test.YtaobbedajgkmiaaDoorFw
namespace Go.Proofs.YtaobbedajgkmiaaDoor
open Go.RowKit Go.Shelf

set_option linter.unusedVariables false
set_option linter.unusedSimpArgs false
set_option maxHeartbeats 16000000 in
set_option maxRecDepth 100000 in
theorem library_law (s : ByteArray) (w : World) (hs : s.size ≤ maxLen) (hm : MaxAt w) :
    Calls Tryd.prog 3 #[.string s] w fun e w' => e = .returned (.bool true) ∧ Below w.heap.size w w' := by
  have KAW := Lib.hid (awake_yes w hm)
  unfold maxLen at hs
  have HMX := Lib.hid (fun (x : World) (hb : Below w.heap.size w x) => hm.keep hb)
  clear hm
  by_cases hbig : 100 < s.size
  · go_enter Tryd.func3, Tryd.ntmps3
    go_wp2_with fail
    refine KAW.out.mono ?_
    rintro e w1 ⟨rfl, hb⟩
    have HB1 := Lib.hid hb
    clear hb
    go_wp2_with fail
    go_ret
    exact ⟨rfl, HB1.out⟩
  · go_enter Tryd.func3, Tryd.ntmps3
    go_wp2_with fail
    refine KAW.out.mono ?_
    rintro e w1 ⟨rfl, hb⟩
    have HB1 := Lib.hid hb
    clear hb
    go_wp2_with fail
    refine (library18 _).mono ?_
    rintro e w2 ⟨rfl, hw2⟩
    obtain ⟨B, hB⟩ : ∃ x, x = w1.heap.size := ⟨_, rfl⟩
    have HL2 := Lib.hid (show LibAt w2 B from fun j o hj => by rw [hw2, hB]; exact allocsL_at _ w1 j o (by rw [← hB]; exact hj))
    have HB2 := Lib.hid (HB1.out.trans ((show Below w1.heap.size w1 w2 by rw [hw2]; exact allocsL_below _ w1 _ (Nat.le_refl _)).mono HB1.out.size))
    rw [← hB]
    clear hw2 hB HB1
    go_wp2_with fail
    refine (names_any _).mono ?_
    rintro e w3 ⟨na, nc, rfl, hn, hb⟩
    have HL := Lib.hid (HL2.out.keep hb)
    have HN := Lib.hid hn
    have HW := Lib.hid (HB2.out.trans (hb.mono HB2.out.size))
    clear hb hn HL2 HB2
    go_wp2_with fail
    go_loopw [5] (fun i wr => ∃ k : Nat, k ≤ 33 ∧ i = .int .i64 k ∧ Hid (Below w3.heap.size w3 wr)) (fun i _ => 33 - (intOf i).toNat)
    case atStart => exact ⟨0, Nat.zero_le _, rfl, Lib.hid (Below.refl _ _)⟩
    case round =>
      obtain ⟨k, hk, rfl, HB⟩ := hrel
      by_cases hlt : k < 33
      · obtain ⟨hnm, ro, rm, rs, pl, il, ag, KN, KL⟩ := libRow k hlt
        obtain ⟨b1, b2, b3, hrow, j1, j2, j3⟩ := KL B wr (HL.out.keep HB.out)
        obtain ⟨nb, no, rfl, hnl, hnc⟩ := (show InS wr na (nmK 33).length 1 (flat nL (nmK 33)) by rw [nmK_len]; exact HN.out.keep HB.out).at nL_len (by rw [nmK_len]; decide)
        have n0 : wr.cell? ⟨nb, no + k, none⟩ = some (.string (rowR k).nm) := by
          have h := hnc k (rowAt k).nm (by unfold nmK; rw [List.getElem?_map, List.getElem?_range hlt]; rfl) 0 _ rfl
          rw [hnm] at h
          simpa using h
        have cells := fun j u hj hu => lib_cell (HL.out.keep HB.out) k hlt j u hj hu
        rw [hrow] at cells
        have l0 : wr.cell? ⟨B + 77, k * 6, none⟩ = some (.string (rowR k).nm) := cells 0 _ (by decide) rfl
        have l1 := cells 1 _ (by decide) rfl
        have l2 := cells 2 _ (by decide) rfl
        have l3 := cells 3 _ (by decide) rfl
        have l4 := cells 4 _ (by decide) rfl
        have l5 := cells 5 _ (by decide) rfl
        obtain ⟨N1, hN1⟩ : ∃ n, n = pl.length := ⟨_, rfl⟩
        obtain ⟨N2, hN2⟩ : ∃ n, n = il.length := ⟨_, rfl⟩
        have HN1 := Lib.hid hN1
        have HN2 := Lib.hid hN2
        rw [← hN1] at l1 j1
        rw [← hN2] at l2 j2
        have HKF := Lib.hid KN.f
        obtain ⟨rn, hrn⟩ : ∃ x, x = (rowR k).nm := ⟨_, rfl⟩
        rw [← hrn] at HKF n0 l0
        obtain ⟨L77, hL77⟩ : ∃ x, x = B + 77 := ⟨_, rfl⟩
        rw [← hL77] at l0 l1 l2 l3 l4 l5
        have HL77 := Lib.hid hL77
        have J1 := Lib.hid j1
        have J2 := Lib.hid j2
        have J3 := Lib.hid j3
        have HN0 := Lib.hid n0
        have HLC := Lib.hid (And.intro l0 (And.intro l1 (And.intro l2 (And.intro l3 (And.intro l4 l5)))))
        have HNL0 := Lib.hid hnl
        have HLL0 := Lib.hid (World.block_lt_of_cell? _ _ l0)
        have kk : (k : Int) < 33 := by omega
        have kd : decide (k < 33) = true := decide_eq_true hlt
        clear hnm KN KL hrow j1 j2 j3 hnl hnc cells hN1 hN2 hrn
        rw [← hL77]
        clear hL77
        go_wp2_with fail
        refine (HKF.out _ (HMX.out _ (HW.out.trans (HB.out.mono HW.out.size)))).mono ?_
        rintro e w4 ⟨D, rfl, ⟨v1, v2, ob, rfl, p1, p2, p3, p4⟩, hb⟩
        obtain ⟨a1, c1, rfl, i1⟩ := ins_own p1
        obtain ⟨a2, c2, rfl, i2⟩ := ins_own p2
        obtain ⟨_, _, h3, i3⟩ := ins_own p3
        injection h3 with h3 _ h4
        subst h3 h4
        rw [← HN1.out] at i1 ⊢
        rw [← HN2.out] at i2 ⊢
        obtain ⟨w5, g, hW5, hg, RG, B5, sz5⟩ := box1 w4 #[.string rn, .slice a1 N1 c1, .slice a2 N2 c2, .slice (some ⟨ob, 0, none⟩) 1 1, .int .i64 rs, .int .i64 rm] 30
        have HG5 := Lib.hid RG
        have hb5 := hb.trans (B5.mono hb.size)
        have HB5 := Lib.hid (HB.out.trans (hb5.mono HB.out.size))
        have I1 := Lib.hid (i1.keep B5)
        have I2 := Lib.hid (i2.keep B5)
        have I3 := Lib.hid (show InS w5 (some ⟨ob, 0, none⟩) 1 2 (flat portL [⟨⟨#[111, 117, 116]⟩, ro⟩]) from i3.keep B5)
        have J1 := Lib.hid (J1.out.keep hb5)
        have J2 := Lib.hid (J2.out.keep hb5)
        have J3 := Lib.hid (show InS w5 b3 1 2 (flat portL [⟨⟨#[111, 117, 116]⟩, ro⟩]) from J3.out.keep hb5)
        have n0 := (hb5.cell (p := ⟨nb, no + k, none⟩) HNL0.out).trans HN0.out
        have l0 := (hb5.cell (p := ⟨L77, k * 6, none⟩) HLL0.out).trans HLC.out.1
        have l1 := (hb5.cell (p := ⟨L77, k * 6 + 1, none⟩) HLL0.out).trans HLC.out.2.1
        have l2 := (hb5.cell (p := ⟨L77, k * 6 + 2, none⟩) HLL0.out).trans HLC.out.2.2.1
        have l3 := (hb5.cell (p := ⟨L77, k * 6 + 3, none⟩) HLL0.out).trans HLC.out.2.2.2.1
        have l4 := (hb5.cell (p := ⟨L77, k * 6 + 4, none⟩) HLL0.out).trans HLC.out.2.2.2.2.1
        have l5 := (hb5.cell (p := ⟨L77, k * 6 + 5, none⟩) HLL0.out).trans HLC.out.2.2.2.2.2
        have HNL := Lib.hid (Nat.lt_of_lt_of_le HNL0.out hb5.size)
        have HLL := Lib.hid (Nat.lt_of_lt_of_le HLL0.out hb5.size)
        have g_0 := RG.c 0 _ rfl
        have g_1 := RG.c 1 _ rfl
        have g_2 := RG.c 2 _ rfl
        have g_3 := RG.c 3 _ rfl
        have g_4 := RG.c 4 _ rfl
        have g_5 := RG.c 5 _ rfl
        have e3 : (rn.toList != rn.toList) = false := by simp
        clear p1 p2 p3 p4 hb i1 i2 i3 RG B5 sz5 hb5 HNL0 HLL0 HN0 HLC HKF
        go_upto_region 13 with fail
        rw [← hW5]
        try rw [← hg]
        clear hW5 hg
        go_wp2_with fail
        have HS0 := Lib.hid (show (w5.cell? ⟨nb, no + k, none⟩ = some (.string rn) ∧ w5.cell? ⟨L77, k * 6, none⟩ = some (.string rn) ∧ w5.cell? ⟨L77, k * 6 + 1, none⟩ = some (.slice b1 N1 N1) ∧ w5.cell? ⟨L77, k * 6 + 2, none⟩ = some (.slice b2 N2 N2) ∧ w5.cell? ⟨L77, k * 6 + 3, none⟩ = some (.slice b3 1 1) ∧ w5.cell? ⟨L77, k * 6 + 4, none⟩ = some (.int .i64 rs) ∧ w5.cell? ⟨L77, k * 6 + 5, none⟩ = some (.int .i64 rm) ∧ w5.cell? ⟨g, 0, none⟩ = some (.string rn) ∧ w5.cell? ⟨g, 1, none⟩ = some (.slice a1 N1 c1) ∧ w5.cell? ⟨g, 2, none⟩ = some (.slice a2 N2 c2) ∧ w5.cell? ⟨g, 3, none⟩ = some (.slice (some ⟨ob, 0, none⟩) 1 1) ∧ w5.cell? ⟨g, 4, none⟩ = some (.int .i64 rs) ∧ w5.cell? ⟨g, 5, none⟩ = some (.int .i64 rm)) from ⟨n0, l0, l1, l2, l3, l4, l5, g_0, g_1, g_2, g_3, g_4, g_5⟩)
        refine wp_region_held_drew (S := fun w => (w.cell? ⟨nb, no + k, none⟩ = some (.string rn) ∧ w.cell? ⟨L77, k * 6, none⟩ = some (.string rn) ∧ w.cell? ⟨L77, k * 6 + 1, none⟩ = some (.slice b1 N1 N1) ∧ w.cell? ⟨L77, k * 6 + 2, none⟩ = some (.slice b2 N2 N2) ∧ w.cell? ⟨L77, k * 6 + 3, none⟩ = some (.slice b3 1 1) ∧ w.cell? ⟨L77, k * 6 + 4, none⟩ = some (.int .i64 rs) ∧ w.cell? ⟨L77, k * 6 + 5, none⟩ = some (.int .i64 rm) ∧ w.cell? ⟨g, 0, none⟩ = some (.string rn) ∧ w.cell? ⟨g, 1, none⟩ = some (.slice a1 N1 c1) ∧ w.cell? ⟨g, 2, none⟩ = some (.slice a2 N2 c2) ∧ w.cell? ⟨g, 3, none⟩ = some (.slice (some ⟨ob, 0, none⟩) 1 1) ∧ w.cell? ⟨g, 4, none⟩ = some (.int .i64 rs) ∧ w.cell? ⟨g, 5, none⟩ = some (.int .i64 rm))) (by kernel_rfl) HS0.out (fun hHeld => ?_)
        have hdr : Below w5.heap.size w5 w5.drew := (Below.refl _ _).drew
        have HBX := Lib.hid (HB5.out.trans (hdr.mono HB5.out.size))
        obtain ⟨wx, hwx⟩ : ∃ x, x = w5.drew := ⟨_, rfl⟩
        have HX5 := Lib.hid (show Below w5.heap.size w5 wx by rw [hwx]; exact hdr)
        have HGB := Lib.hid (show g < wx.heap.size by have := HX5.out.size; have := HG5.out.lt; omega)
        have HNB := Lib.hid (show nb < wx.heap.size by have := HX5.out.size; have := HNL.out; omega)
        have HLB := Lib.hid (show L77 < wx.heap.size by have := HX5.out.size; have := HLL.out; omega)
        rw [← hwx] at HBX hHeld ⊢
        clear hwx hdr HS0 n0 l0 l1 l2 l3 l4 l5 g_0 g_1 g_2 g_3 g_4 g_5
        refine' wpAnyH_take (i := 0) (v := _) rfl (by kernel_rfl) (by kernel_rfl) (by kernel_rfl) (fun _ _ _ h => h) (Or.inl ⟨by rfl, ?_⟩) hHeld ?_
        rotate_left
        · intro w hSw
          (try dsimp only at hSw)
          go_simp
          try with_reducible rfl
        (try simp only [Act.put, List.getElem_toArray, List.getElem_cons_zero, List.getElem_cons_succ, List.setIfInBounds_toArray, List.set_cons_zero, List.set_cons_succ])
        refine' wpAnyH_take (i := 1) (v := _) rfl (by kernel_rfl) (by kernel_rfl) (by kernel_rfl) (fun _ _ _ h => h) (Or.inl ⟨by rfl, ?_⟩) hHeld ?_
        rotate_left
        · intro w hSw
          (try dsimp only at hSw)
          go_simp
          try with_reducible rfl
        (try simp only [Act.put, List.getElem_toArray, List.getElem_cons_zero, List.getElem_cons_succ, List.setIfInBounds_toArray, List.set_cons_zero, List.set_cons_succ])
        refine' wpAnyH_take (i := 2) (v := _) rfl (by kernel_rfl) (by kernel_rfl) (by kernel_rfl) (fun _ _ _ h => h) (Or.inl ⟨by rfl, ?_⟩) hHeld ?_
        rotate_left
        · intro w hSw
          (try dsimp only at hSw)
          go_simp
          try with_reducible rfl
        (try simp only [Act.put, List.getElem_toArray, List.getElem_cons_zero, List.getElem_cons_succ, List.setIfInBounds_toArray, List.set_cons_zero, List.set_cons_succ])
        refine' wpAnyH_take (i := 3) (v := _) rfl (by kernel_rfl) (by kernel_rfl) (by kernel_rfl) (fun _ _ _ h => h) (Or.inl ⟨by rfl, ?_⟩) hHeld ?_
        rotate_left
        · intro w hSw
          (try dsimp only at hSw)
          go_simp
          try with_reducible rfl
        (try simp only [Act.put, List.getElem_toArray, List.getElem_cons_zero, List.getElem_cons_succ, List.setIfInBounds_toArray, List.set_cons_zero, List.set_cons_succ])
        refine' wpAnyH_take (i := 4) (v := _) rfl (by kernel_rfl) (by kernel_rfl) (by kernel_rfl) (fun _ _ _ h => h) (Or.inl ⟨by rfl, ?_⟩) hHeld ?_
        rotate_left
        · intro w hSw
          (try dsimp only at hSw)
          go_simp
          try with_reducible rfl
        (try simp only [Act.put, List.getElem_toArray, List.getElem_cons_zero, List.getElem_cons_succ, List.setIfInBounds_toArray, List.set_cons_zero, List.set_cons_succ])
        refine' wpAnyH_take (i := 5) (v := _) rfl (by kernel_rfl) (by kernel_rfl) (by kernel_rfl) (fun _ _ _ h => h) (Or.inl ⟨by rfl, ?_⟩) hHeld ?_
        rotate_left
        · intro w hSw
          (try dsimp only at hSw)
          go_simp
          try with_reducible rfl
        (try simp only [Act.put, List.getElem_toArray, List.getElem_cons_zero, List.getElem_cons_succ, List.setIfInBounds_toArray, List.set_cons_zero, List.set_cons_succ])
        refine' wpAnyH_take (i := 6) (v := _) rfl (by kernel_rfl) (by kernel_rfl) (by kernel_rfl) (fun _ _ _ h => h) (Or.inl ⟨by rfl, ?_⟩) hHeld ?_
        rotate_left
        · intro w hSw
          (try dsimp only at hSw)
          go_simp
          try with_reducible rfl
        (try simp only [Act.put, List.getElem_toArray, List.getElem_cons_zero, List.getElem_cons_succ, List.setIfInBounds_toArray, List.set_cons_zero, List.set_cons_succ])
        refine' wpAnyH_take (i := 7) (v := _) rfl (by kernel_rfl) (by kernel_rfl) (by kernel_rfl) (fun _ _ _ h => h) (Or.inl ⟨by rfl, ?_⟩) hHeld ?_
        rotate_left
        · intro w hSw
          (try dsimp only at hSw)
          go_simp
          try with_reducible rfl
        (try simp only [Act.put, List.getElem_toArray, List.getElem_cons_zero, List.getElem_cons_succ, List.setIfInBounds_toArray, List.set_cons_zero, List.set_cons_succ])
        refine' wpAnyH_take (i := 8) (v := _) rfl (by kernel_rfl) (by kernel_rfl) (by kernel_rfl) (fun _ _ _ h => h) (Or.inl ⟨by rfl, ?_⟩) hHeld ?_
        rotate_left
        · intro w hSw
          (try dsimp only at hSw)
          go_simp
          try with_reducible rfl
        (try simp only [Act.put, List.getElem_toArray, List.getElem_cons_zero, List.getElem_cons_succ, List.setIfInBounds_toArray, List.set_cons_zero, List.set_cons_succ])
        refine' wpAnyH_take (i := 9) (v := _) rfl (by kernel_rfl) (by kernel_rfl) (by kernel_rfl) (fun _ _ _ h => h) (Or.inl ⟨by rfl, ?_⟩) hHeld ?_
        rotate_left
        · intro w hSw
          (try dsimp only at hSw)
          go_simp
          try with_reducible rfl
        (try simp only [Act.put, List.getElem_toArray, List.getElem_cons_zero, List.getElem_cons_succ, List.setIfInBounds_toArray, List.set_cons_zero, List.set_cons_succ])
        refine' wpAnyH_take (i := 10) (v := _) rfl (by kernel_rfl) (by kernel_rfl) (by kernel_rfl) (fun _ _ _ h => h) (Or.inl ⟨by rfl, ?_⟩) hHeld ?_
        rotate_left
        · intro w hSw
          (try dsimp only at hSw)
          go_simp
          try with_reducible rfl
        (try simp only [Act.put, List.getElem_toArray, List.getElem_cons_zero, List.getElem_cons_succ, List.setIfInBounds_toArray, List.set_cons_zero, List.set_cons_succ])
        refine' wpAnyH_take (i := 11) (v := _) rfl (by kernel_rfl) (by kernel_rfl) (by kernel_rfl) (fun _ _ _ h => h) (Or.inl ⟨by rfl, ?_⟩) hHeld ?_
        rotate_left
        · intro w hSw
          (try dsimp only at hSw)
          go_simp
          try with_reducible rfl
        (try simp only [Act.put, List.getElem_toArray, List.getElem_cons_zero, List.getElem_cons_succ, List.setIfInBounds_toArray, List.set_cons_zero, List.set_cons_succ])
        refine' wpAnyH_take (i := 12) (v := _) rfl (by kernel_rfl) (by kernel_rfl) (by kernel_rfl) (fun _ _ _ h => h) (Or.inl ⟨by rfl, ?_⟩) hHeld ?_
        rotate_left
        · intro w hSw
          (try dsimp only at hSw)
          go_simp
          try with_reducible rfl
        (try simp only [Act.put, List.getElem_toArray, List.getElem_cons_zero, List.getElem_cons_succ, List.setIfInBounds_toArray, List.set_cons_zero, List.set_cons_succ])
        refine' wpAnyH_take (i := 13) (v := _) rfl (by kernel_rfl) (by kernel_rfl) (by kernel_rfl) (fun _ _ _ h => h) (Or.inl ⟨by rfl, ?_⟩) hHeld ?_
        rotate_left
        · intro w hSw
          (try dsimp only at hSw)
          go_simp
          try with_reducible rfl
        (try simp only [Act.put, List.getElem_toArray, List.getElem_cons_zero, List.getElem_cons_succ, List.setIfInBounds_toArray, List.set_cons_zero, List.set_cons_succ])
        refine' wpAnyH_take (i := 14) (v := _) rfl (by kernel_rfl) (by kernel_rfl) (by kernel_rfl) (fun _ _ _ h => h) (Or.inl ⟨by rfl, ?_⟩) hHeld ?_
        rotate_left
        · intro w hSw
          (try dsimp only at hSw)
          go_simp
          try with_reducible rfl
        (try simp only [Act.put, List.getElem_toArray, List.getElem_cons_zero, List.getElem_cons_succ, List.setIfInBounds_toArray, List.set_cons_zero, List.set_cons_succ])
        refine' wpAnyH_take (i := 15) (v := _) rfl (by kernel_rfl) (by kernel_rfl) (by kernel_rfl) (fun _ _ _ h => h) (Or.inl ⟨by rfl, ?_⟩) hHeld ?_
        rotate_left
        · intro w hSw
          (try dsimp only at hSw)
          go_simp
          try with_reducible rfl
        (try simp only [Act.put, List.getElem_toArray, List.getElem_cons_zero, List.getElem_cons_succ, List.setIfInBounds_toArray, List.set_cons_zero, List.set_cons_succ])
        refine' wpAnyH_take (i := 16) (v := _) rfl (by kernel_rfl) (by kernel_rfl) (by kernel_rfl) (fun _ _ _ h => h) (Or.inl ⟨by rfl, ?_⟩) hHeld ?_
        rotate_left
        · intro w hSw
          (try dsimp only at hSw)
          go_simp
          try with_reducible rfl
        (try simp only [Act.put, List.getElem_toArray, List.getElem_cons_zero, List.getElem_cons_succ, List.setIfInBounds_toArray, List.set_cons_zero, List.set_cons_succ])
        refine' wpAnyH_take (i := 17) (v := _) rfl (by kernel_rfl) (by kernel_rfl) (by kernel_rfl) (fun _ _ _ h => h) (Or.inl ⟨by rfl, ?_⟩) hHeld ?_
        rotate_left
        · intro w hSw
          (try dsimp only at hSw)
          go_simp
          try with_reducible rfl
        (try simp only [Act.put, List.getElem_toArray, List.getElem_cons_zero, List.getElem_cons_succ, List.setIfInBounds_toArray, List.set_cons_zero, List.set_cons_succ])
        refine' wpAnyH_take (i := 18) (v := _) rfl (by kernel_rfl) (by kernel_rfl) (by kernel_rfl) (fun _ _ _ h => h) (Or.inl ⟨by rfl, ?_⟩) hHeld ?_
        rotate_left
        · intro w hSw
          (try dsimp only at hSw)
          go_simp
          try with_reducible rfl
        (try simp only [Act.put, List.getElem_toArray, List.getElem_cons_zero, List.getElem_cons_succ, List.setIfInBounds_toArray, List.set_cons_zero, List.set_cons_succ])
        refine' wpAnyH_take (i := 19) (v := _) rfl (by kernel_rfl) (by kernel_rfl) (by kernel_rfl) (fun _ _ _ h => h) (Or.inl ⟨by rfl, ?_⟩) hHeld ?_
        rotate_left
        · intro w hSw
          (try dsimp only at hSw)
          go_simp
          try with_reducible rfl
        (try simp only [Act.put, List.getElem_toArray, List.getElem_cons_zero, List.getElem_cons_succ, List.setIfInBounds_toArray, List.set_cons_zero, List.set_cons_succ])
        have hh := hHeld
        refine wpAnyH_ready (rs := [20]) (by kernel_rfl) (by simp) ?_
        refine AllReadyH.cons rfl (fun K hK => ?_) AllReadyH.nil
        go_simp
        refine (sameD_yes rn a1 a2 (some ⟨ob, 0, none⟩) b1 b2 b3 c1 c2 1 N1 N2 1 rs rm pl il [⟨⟨#[111, 117, 116]⟩, ro⟩] N1 N2 1 HN1.out HN2.out rfl wx (I1.out.keep HX5.out) (I2.out.keep HX5.out) (I3.out.keep HX5.out) (J1.out.keep HX5.out) (J2.out.keep HX5.out) (J3.out.keep HX5.out)).mono ?_
        rintro e wy ⟨rfl, hb⟩
        have HBY := Lib.hid (HBX.out.trans (hb.mono HBX.out.size))
        have hs2 : (wy.cell? ⟨nb, no + k, none⟩ = some (.string rn) ∧ wy.cell? ⟨L77, k * 6, none⟩ = some (.string rn) ∧ wy.cell? ⟨L77, k * 6 + 1, none⟩ = some (.slice b1 N1 N1) ∧ wy.cell? ⟨L77, k * 6 + 2, none⟩ = some (.slice b2 N2 N2) ∧ wy.cell? ⟨L77, k * 6 + 3, none⟩ = some (.slice b3 1 1) ∧ wy.cell? ⟨L77, k * 6 + 4, none⟩ = some (.int .i64 rs) ∧ wy.cell? ⟨L77, k * 6 + 5, none⟩ = some (.int .i64 rm) ∧ wy.cell? ⟨g, 0, none⟩ = some (.string rn) ∧ wy.cell? ⟨g, 1, none⟩ = some (.slice a1 N1 c1) ∧ wy.cell? ⟨g, 2, none⟩ = some (.slice a2 N2 c2) ∧ wy.cell? ⟨g, 3, none⟩ = some (.slice (some ⟨ob, 0, none⟩) 1 1) ∧ wy.cell? ⟨g, 4, none⟩ = some (.int .i64 rs) ∧ wy.cell? ⟨g, 5, none⟩ = some (.int .i64 rm)) := ⟨(hb.cell (p := ⟨nb, no + k, none⟩) HNB.out).trans hh.1, (hb.cell (p := ⟨L77, k * 6, none⟩) HLB.out).trans hh.2.1, (hb.cell (p := ⟨L77, k * 6 + 1, none⟩) HLB.out).trans hh.2.2.1, (hb.cell (p := ⟨L77, k * 6 + 2, none⟩) HLB.out).trans hh.2.2.2.1, (hb.cell (p := ⟨L77, k * 6 + 3, none⟩) HLB.out).trans hh.2.2.2.2.1, (hb.cell (p := ⟨L77, k * 6 + 4, none⟩) HLB.out).trans hh.2.2.2.2.2.1, (hb.cell (p := ⟨L77, k * 6 + 5, none⟩) HLB.out).trans hh.2.2.2.2.2.2.1, (hb.cell (p := ⟨g, 0, none⟩) HGB.out).trans hh.2.2.2.2.2.2.2.1, (hb.cell (p := ⟨g, 1, none⟩) HGB.out).trans hh.2.2.2.2.2.2.2.2.1, (hb.cell (p := ⟨g, 2, none⟩) HGB.out).trans hh.2.2.2.2.2.2.2.2.2.1, (hb.cell (p := ⟨g, 3, none⟩) HGB.out).trans hh.2.2.2.2.2.2.2.2.2.2.1, (hb.cell (p := ⟨g, 4, none⟩) HGB.out).trans hh.2.2.2.2.2.2.2.2.2.2.2.1, (hb.cell (p := ⟨g, 5, none⟩) HGB.out).trans hh.2.2.2.2.2.2.2.2.2.2.2.2⟩
        clear hb hHeld hh HBX HGB HNB HLB HX5
        (try go_simp)
        refine hK.out _ _ hs2 (fun hHeld => ?_)
        clear hK K hs2
        (try simp only [Act.put, List.getElem_toArray, List.getElem_cons_zero, List.getElem_cons_succ, List.setIfInBounds_toArray, List.set_cons_zero, List.set_cons_succ])
        refine' wpAnyH_take (i := 21) (v := _) rfl (by kernel_rfl) (by kernel_rfl) (by kernel_rfl) (fun _ _ _ h => h) (Or.inl ⟨by rfl, ?_⟩) hHeld ?_
        rotate_left
        · intro w hSw
          (try dsimp only at hSw)
          go_simp
          try with_reducible rfl
        (try simp only [Act.put, List.getElem_toArray, List.getElem_cons_zero, List.getElem_cons_succ, List.setIfInBounds_toArray, List.set_cons_zero, List.set_cons_succ])
        refine' wpAnyH_take (i := 22) (v := _) rfl (by kernel_rfl) (by kernel_rfl) (by kernel_rfl) (fun _ _ _ h => h) (Or.inl ⟨by rfl, ?_⟩) hHeld ?_
        rotate_left
        · intro w hSw
          (try dsimp only at hSw)
          go_simp
          try with_reducible rfl
        (try simp only [Act.put, List.getElem_toArray, List.getElem_cons_zero, List.getElem_cons_succ, List.setIfInBounds_toArray, List.set_cons_zero, List.set_cons_succ])
        refine wpAnyH_done (by kernel_rfl) ?_ _
        (try simp only [Act.put, List.getElem_toArray, List.getElem_cons_zero, List.getElem_cons_succ, List.setIfInBounds_toArray, List.set_cons_zero, List.set_cons_succ])
        clear hHeld
        go_wp2_with fail
        go_roundw
        case rel => exact ⟨k + 1, by omega, by go_num, Lib.hid HBY.out⟩
        case measure => (simp [intOf]) <;> omega
      · obtain rfl : k = 33 := by omega
        have HBL := Lib.hid (HW.out.trans (HB.out.mono HW.out.size))
        rcases all_names s with ⟨ro, rm, rs, pl, il, ag, KN⟩ | ⟨h1, h2⟩
        · have HKF := Lib.hid KN.f
          have HKR := Lib.hid KN.r
          obtain ⟨N1, hN1⟩ : ∃ n, n = pl.length := ⟨_, rfl⟩
          obtain ⟨N2, hN2⟩ : ∃ n, n = il.length := ⟨_, rfl⟩
          have HN1 := Lib.hid hN1
          have HN2 := Lib.hid hN2
          clear KN hN1 hN2
          go_wp2_with fail
          refine (HKF.out _ (HMX.out _ HBL.out)).mono ?_
          rintro e w4 ⟨D, rfl, ⟨v1, v2, ob, rfl, p1, p2, p3, p4⟩, hb⟩
          obtain ⟨a1, c1, rfl, i1⟩ := ins_own p1
          obtain ⟨a2, c2, rfl, i2⟩ := ins_own p2
          obtain ⟨_, _, h3, i3⟩ := ins_own p3
          injection h3 with h3 _ h4
          subst h3 h4
          rw [← HN1.out] at i1 ⊢
          rw [← HN2.out] at i2 ⊢
          obtain ⟨w5, g, hW5, hg, RG, B5, sz5⟩ := box1 w4 #[.string s, .slice a1 N1 c1, .slice a2 N2 c2, .slice (some ⟨ob, 0, none⟩) 1 1, .int .i64 rs, .int .i64 rm] 30
          have HG5 := Lib.hid RG
          have HB5 := Lib.hid (HBL.out.trans ((hb.trans (B5.mono hb.size)).mono HBL.out.size))
          have I1 := Lib.hid (i1.keep B5)
          have I2 := Lib.hid (i2.keep B5)
          have I3 := Lib.hid (show InS w5 (some ⟨ob, 0, none⟩) 1 2 (flat portL [⟨⟨#[111, 117, 116]⟩, ro⟩]) from i3.keep B5)
          clear p1 p2 p3 p4 hb i1 i2 i3 RG B5 sz5
          go_upto_region 16 with fail
          rw [← hW5]
          try rw [← hg]
          clear hW5 hg
          go_wp2_with fail
          refine (HKR.out _).mono ?_
          rintro e w6 ⟨b1, d1, b2, d2, b3, d3, rfl, j1, j2, j3, hb⟩
          rw [← HN1.out] at j1 ⊢
          rw [← HN2.out] at j2 ⊢
          obtain ⟨w7, h, hW7, hh, RH, B7, sz7⟩ := box1 w6 #[.string s, .slice b1 N1 d1, .slice b2 N2 d2, .slice b3 1 d3, .int .i64 rs, .int .i64 rm] 30
          have hb7 := hb.trans (B7.mono hb.size)
          have HB7 := Lib.hid (HB5.out.trans (hb7.mono HB5.out.size))
          have I1 := Lib.hid (I1.out.keep hb7)
          have I2 := Lib.hid (I2.out.keep hb7)
          have I3 := Lib.hid (I3.out.keep hb7)
          have J1 := Lib.hid (j1.keep B7)
          have J2 := Lib.hid (j2.keep B7)
          have J3 := Lib.hid (show InS w7 b3 1 2 (flat portL [⟨⟨#[111, 117, 116]⟩, ro⟩]) from j3.keep B7)
          have HG7 := Lib.hid (HG5.out.keep hb7)
          have HH7 := Lib.hid RH
          clear hb j1 j2 j3 RH B7 sz7 hb7 HG5
          go_upto_region 17 with fail
          rw [← hW7]
          try rw [← hh]
          clear hW7 hh
          have g_0 := HG7.out.c 0 _ rfl
          have g_1 := HG7.out.c 1 _ rfl
          have g_2 := HG7.out.c 2 _ rfl
          have g_3 := HG7.out.c 3 _ rfl
          have g_4 := HG7.out.c 4 _ rfl
          have g_5 := HG7.out.c 5 _ rfl
          have h_0 := HH7.out.c 0 _ rfl
          have h_1 := HH7.out.c 1 _ rfl
          have h_2 := HH7.out.c 2 _ rfl
          have h_3 := HH7.out.c 3 _ rfl
          have h_4 := HH7.out.c 4 _ rfl
          have h_5 := HH7.out.c 5 _ rfl
          go_wp2_with fail
          refine (sameD_yes s a1 a2 (some ⟨ob, 0, none⟩) b1 b2 b3 c1 c2 1 d1 d2 d3 rs rm pl il [⟨⟨#[111, 117, 116]⟩, ro⟩] N1 N2 1 HN1.out HN2.out rfl w7 I1.out I2.out I3.out J1.out J2.out J3.out).mono ?_
          rintro e w8 ⟨rfl, hb⟩
          have HB8 := Lib.hid (HB7.out.trans (hb.mono HB7.out.size))
          clear hb g_0 h_0 g_1 h_1 g_2 h_2 g_3 h_3 g_4 h_4 g_5 h_5
          go_wp2_with fail
          go_ret
          exact ⟨rfl, HB8.out⟩
        · have K1 := Lib.hid (fun w => find_miss s h1 w)
          have K2 := Lib.hid (fun w => find18_miss s h2 w)
          clear h1 h2
          go_wp2_with fail
          refine (K1.out _).mono ?_
          rintro e w4 ⟨rfl, hb⟩
          obtain ⟨w5, g, hW5, hg, RG, B5, sz5⟩ := box1 w4 #[.string ⟨#[]⟩, .slice none 0 0, .slice none 0 0, .slice none 0 0, .int .i64 0, .int .i64 0] 30
          have HG5 := Lib.hid RG
          have HB5 := Lib.hid (HBL.out.trans ((hb.trans (B5.mono hb.size)).mono HBL.out.size))
          clear hb RG B5 sz5
          go_upto_region 16 with fail
          rw [← hW5]
          try rw [← hg]
          clear hW5 hg
          go_wp2_with fail
          refine (K2.out _).mono ?_
          rintro e w6 ⟨rfl, hb⟩
          obtain ⟨w7, h, hW7, hh, RH, B7, sz7⟩ := box1 w6 #[.string ⟨#[]⟩, .slice none 0 0, .slice none 0 0, .slice none 0 0, .int .i64 0, .int .i64 0] 30
          have hb7 := hb.trans (B7.mono hb.size)
          have HB7 := Lib.hid (HB5.out.trans (hb7.mono HB5.out.size))
          have HG7 := Lib.hid (HG5.out.keep hb7)
          have HH7 := Lib.hid RH
          clear hb RH B7 sz7 hb7 HG5
          go_upto_region 17 with fail
          rw [← hW7]
          try rw [← hh]
          clear hW7 hh
          have g_0 := HG7.out.c 0 _ rfl
          have g_1 := HG7.out.c 1 _ rfl
          have g_2 := HG7.out.c 2 _ rfl
          have g_3 := HG7.out.c 3 _ rfl
          have g_4 := HG7.out.c 4 _ rfl
          have g_5 := HG7.out.c 5 _ rfl
          have h_0 := HH7.out.c 0 _ rfl
          have h_1 := HH7.out.c 1 _ rfl
          have h_2 := HH7.out.c 2 _ rfl
          have h_3 := HH7.out.c 3 _ rfl
          have h_4 := HH7.out.c 4 _ rfl
          have h_5 := HH7.out.c 5 _ rfl
          go_wp2_with fail
          refine (sameD_yes ⟨#[]⟩ none none none none none none 0 0 0 0 0 0 0 0 [] [] [] 0 0 0 rfl rfl rfl w7 (nil_insM _ _ _) (nil_insM _ _ _) (nil_insM _ _ _) (nil_insM _ _ _) (nil_insM _ _ _) (nil_insM _ _ _)).mono ?_
          rintro e w8 ⟨rfl, hb⟩
          have HB8 := Lib.hid (HB7.out.trans (hb.mono HB7.out.size))
          clear hb g_0 h_0 g_1 h_1 g_2 h_2 g_3 h_3 g_4 h_4 g_5 h_5
          go_wp2_with fail
          go_ret
          exact ⟨rfl, HB8.out⟩
end Go.Proofs.YtaobbedajgkmiaaDoor
