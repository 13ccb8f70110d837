/- The laws MinimumValues and MinimumUrgent. -/
import Derived.Test.YtlmcdnfihgimjaaI
namespace Go.Proofs.Ytlmcdnfihgimjaa
open Go.RowKit Go.Deep

theorem next_val (p : Pt) (k n c lv vk vn now : Int) : (nextR p k n c lv vk vn now).1 = (valR p k n c lv vk vn now).1 ∧ (nextR p k n c lv vk vn now).2.1 = (valR p k n c lv vk vn now).2 := by
  unfold nextR
  split
  · rename_i h; rw [h]; exact ⟨rfl, rfl⟩
  · exact ⟨rfl, rfl⟩
theorem both_T (p : Pt) (k n c lv vk vn now : Int) : ∃ x y z E, valT p k n c lv vk vn now = .tuple #[.agg #[.int .i64 x, .int .i64 y], .int .i64 E] ∧ nextT p k n c lv vk vn now = .tuple #[.agg #[.int .i64 x, .int .i64 y, .int .i64 z], .int .i64 E] := by
  by_cases h : errR p k n c lv vk vn now = 0
  · obtain ⟨h1, h2⟩ := next_val p k n c lv vk vn now
    exact ⟨_, _, _, 0, if_pos h, by rw [show nextT p k n c lv vk vn now = _ from if_pos h, h1, h2]⟩
  · exact ⟨0, 0, 0, _, if_neg h, if_neg h⟩

set_option maxHeartbeats 4000000 in
set_option maxRecDepth 100000 in
theorem values_law (p : Pt) (k n c t lv vk vn : Int) (w : World) : Calls Try.prog 3 #[ptV p, .agg #[.int .i64 k, .int .i64 n, .int .i64 c], .agg #[.int .i64 t, .int .i64 lv, .int .i64 vk, .int .i64 vn]] w fun e w' => e = .returned (.bool true) ∧ Below w.heap.size w w' := by
  obtain ⟨nm, kd, rl, un, lo, hi, st, ss, dk, dn, on, off⟩ := p
  obtain ⟨x, y, z, E, hv, hn⟩ := both_T ⟨nm, kd, rl, un, lo, hi, st, ss, dk, dn, on, off⟩ k n c lv vk vn t
  have c1 := fun w => value_any ⟨nm, kd, rl, un, lo, hi, st, ss, dk, dn, on, off⟩ k n c lv vk vn t w
  have c2 := fun w => next_any ⟨nm, kd, rl, un, lo, hi, st, ss, dk, dn, on, off⟩ k n c lv vk vn t w
  have c3 := fun w => rnext_any ⟨nm, kd, rl, un, lo, hi, st, ss, dk, dn, on, off⟩ k n c lv vk vn t w
  rw [hv] at c1
  rw [hn] at c2 c3
  have HC1 := Lib.hid c1
  have HC2 := Lib.hid c2
  have HC3 := Lib.hid c3
  clear c1 c2 c3 hv hn
  obtain ⟨W, g, h, q, hW, hg, hh, hq, RP, RO, RQ, B, sz⟩ := box3 w #[nm, .int .i64 kd, .int .i64 rl, un, lo, hi, st, ss, dk, dn, .int .i64 on, .int .i64 off] 26 #[.int .i64 k, .int .i64 n, .int .i64 c] 28 #[.int .i64 t, .int .i64 lv, .int .i64 vk, .int .i64 vn] 32
  have HAW := Lib.hid awake_yes
  obtain ⟨Z, hZ⟩ : ∃ Z, Z = fitsB ⟨nm, kd, rl, un, lo, hi, st, ss, dk, dn, on, off⟩ c [⟨t, lv, vk, vn⟩] := ⟨_, rfl⟩
  have hft := fun w => fits_any ⟨nm, kd, rl, un, lo, hi, st, ss, dk, dn, on, off⟩ k n c (some ⟨w.heap.size, 0, none⟩) 1 [⟨t, lv, vk, vn⟩] (w.alloc (Obj.cells #[.int .i64 t, .int .i64 lv, .int .i64 vk, .int .i64 vn] 32)) (ins_fresh w #[.int .i64 t, .int .i64 lv, .int .i64 vk, .int .i64 vn] 32 4 rfl)
  rw [← hZ] at hft
  have HFT := Lib.hid hft
  clear hft hZ
  go_enter Try.func3, Try.ntmps3
  go_wp2_with fail
  rw [← hW]
  try rw [← hq]
  try rw [← hh]
  try rw [← hg]
  have HP0 := Lib.hid RP
  have HO0 := Lib.hid RO
  have HA0 := Lib.hid RQ
  have HB0 := Lib.hid B
  clear hW hg hh hq sz B RP RO RQ
  refine (HAW.out _).mono ?_
  rintro e w1 ⟨rfl, hb⟩
  have HP1 := Lib.hid (HP0.out.keep hb)
  have HO1 := Lib.hid (HO0.out.keep hb)
  have HA1 := Lib.hid (HA0.out.keep hb)
  have HB1 := Lib.hid (HB0.out.trans (hb.mono HB0.out.size))
  clear hb HP0 HO0 HA0 HB0 HAW
  have p_0 := HP1.out.c 0 _ rfl
  have p_1 := HP1.out.c 1 _ rfl
  have p_2 := HP1.out.c 2 _ rfl
  have p_3 := HP1.out.c 3 _ rfl
  have p_4 := HP1.out.c 4 _ rfl
  have p_5 := HP1.out.c 5 _ rfl
  have p_6 := HP1.out.c 6 _ rfl
  have p_7 := HP1.out.c 7 _ rfl
  have p_8 := HP1.out.c 8 _ rfl
  have p_9 := HP1.out.c 9 _ rfl
  have p_10 := HP1.out.c 10 _ rfl
  have p_11 := HP1.out.c 11 _ rfl
  have p_z := HP1.out.fz
  have o_0 := HO1.out.c 0 _ rfl
  have o_1 := HO1.out.c 1 _ rfl
  have o_2 := HO1.out.c 2 _ rfl
  have o_z := HO1.out.fz
  have a_0 := HA1.out.c 0 _ rfl
  have a_1 := HA1.out.c 1 _ rfl
  have a_2 := HA1.out.c 2 _ rfl
  have a_3 := HA1.out.c 3 _ rfl
  have a_z := HA1.out.fz
  go_wp2_with fail
  refine (HFT.out _).mono ?_
  rintro e w2 ⟨rfl, hb⟩
  clear p_0 p_1 p_2 p_3 p_4 p_5 p_6 p_7 p_8 p_9 p_10 p_11 p_z
  clear o_0 o_1 o_2 o_z
  clear a_0 a_1 a_2 a_3 a_z
  have hk := ((Below.refl w1.heap.size w1).alloc (Nat.le_refl _) (Obj.cells #[.int .i64 t, .int .i64 lv, .int .i64 vk, .int .i64 vn] 32)).trans (hb.mono (by rw [World.size_alloc]; omega))
  have HP2 := Lib.hid (HP1.out.keep hk)
  have HO2 := Lib.hid (HO1.out.keep hk)
  have HA2 := Lib.hid (HA1.out.keep hk)
  have HB2 := Lib.hid (HB1.out.trans (hk.mono HB1.out.size))
  clear hb hk HP1 HO1 HA1 HB1 HFT
  cases Z
  · have p_0 := HP2.out.c 0 _ rfl
    have p_1 := HP2.out.c 1 _ rfl
    have p_2 := HP2.out.c 2 _ rfl
    have p_3 := HP2.out.c 3 _ rfl
    have p_4 := HP2.out.c 4 _ rfl
    have p_5 := HP2.out.c 5 _ rfl
    have p_6 := HP2.out.c 6 _ rfl
    have p_7 := HP2.out.c 7 _ rfl
    have p_8 := HP2.out.c 8 _ rfl
    have p_9 := HP2.out.c 9 _ rfl
    have p_10 := HP2.out.c 10 _ rfl
    have p_11 := HP2.out.c 11 _ rfl
    have p_z := HP2.out.fz
    have o_0 := HO2.out.c 0 _ rfl
    have o_1 := HO2.out.c 1 _ rfl
    have o_2 := HO2.out.c 2 _ rfl
    have o_z := HO2.out.fz
    have a_0 := HA2.out.c 0 _ rfl
    have a_1 := HA2.out.c 1 _ rfl
    have a_2 := HA2.out.c 2 _ rfl
    have a_3 := HA2.out.c 3 _ rfl
    have a_z := HA2.out.fz
    go_wp2_with fail
    go_ret
    exact ⟨rfl, HB2.out⟩
  · have p_0 := HP2.out.c 0 _ rfl
    have p_1 := HP2.out.c 1 _ rfl
    have p_2 := HP2.out.c 2 _ rfl
    have p_3 := HP2.out.c 3 _ rfl
    have p_4 := HP2.out.c 4 _ rfl
    have p_5 := HP2.out.c 5 _ rfl
    have p_6 := HP2.out.c 6 _ rfl
    have p_7 := HP2.out.c 7 _ rfl
    have p_8 := HP2.out.c 8 _ rfl
    have p_9 := HP2.out.c 9 _ rfl
    have p_10 := HP2.out.c 10 _ rfl
    have p_11 := HP2.out.c 11 _ rfl
    have p_z := HP2.out.fz
    have o_0 := HO2.out.c 0 _ rfl
    have o_1 := HO2.out.c 1 _ rfl
    have o_2 := HO2.out.c 2 _ rfl
    have o_z := HO2.out.fz
    have a_0 := HA2.out.c 0 _ rfl
    have a_1 := HA2.out.c 1 _ rfl
    have a_2 := HA2.out.c 2 _ rfl
    have a_3 := HA2.out.c 3 _ rfl
    have a_z := HA2.out.fz
    go_wp2_with fail
    refine (HC1.out _).mono ?_
    rintro e w3 ⟨rfl, hb⟩
    clear p_0 p_1 p_2 p_3 p_4 p_5 p_6 p_7 p_8 p_9 p_10 p_11 p_z
    clear o_0 o_1 o_2 o_z
    clear a_0 a_1 a_2 a_3 a_z
    have hk := hb.alloc hb.size (Obj.cells #[.int .i64 x, .int .i64 y] 24)
    have HP3 := Lib.hid (HP2.out.keep hk)
    have HO3 := Lib.hid (HO2.out.keep hk)
    have HA3 := Lib.hid (HA2.out.keep hk)
    have HX3 := Lib.hid (row_fresh w3 #[.int .i64 x, .int .i64 y] 24)
    have HB3 := Lib.hid (HB2.out.trans (hk.mono HB2.out.size))
    clear hb hk HP2 HO2 HA2 HB2
    have p_0 := HP3.out.c 0 _ rfl
    have p_1 := HP3.out.c 1 _ rfl
    have p_2 := HP3.out.c 2 _ rfl
    have p_3 := HP3.out.c 3 _ rfl
    have p_4 := HP3.out.c 4 _ rfl
    have p_5 := HP3.out.c 5 _ rfl
    have p_6 := HP3.out.c 6 _ rfl
    have p_7 := HP3.out.c 7 _ rfl
    have p_8 := HP3.out.c 8 _ rfl
    have p_9 := HP3.out.c 9 _ rfl
    have p_10 := HP3.out.c 10 _ rfl
    have p_11 := HP3.out.c 11 _ rfl
    have p_z := HP3.out.fz
    have o_0 := HO3.out.c 0 _ rfl
    have o_1 := HO3.out.c 1 _ rfl
    have o_2 := HO3.out.c 2 _ rfl
    have o_z := HO3.out.fz
    have a_0 := HA3.out.c 0 _ rfl
    have a_1 := HA3.out.c 1 _ rfl
    have a_2 := HA3.out.c 2 _ rfl
    have a_3 := HA3.out.c 3 _ rfl
    have a_z := HA3.out.fz
    have x_0 := HX3.out.c 0 _ rfl
    have x_1 := HX3.out.c 1 _ rfl
    have x_z := HX3.out.fz
    go_wp2_with fail
    refine (HC2.out _).mono ?_
    rintro e w4 ⟨rfl, hb⟩
    clear p_0 p_1 p_2 p_3 p_4 p_5 p_6 p_7 p_8 p_9 p_10 p_11 p_z
    clear o_0 o_1 o_2 o_z
    clear a_0 a_1 a_2 a_3 a_z
    clear x_0 x_1 x_z
    have hk := hb.alloc hb.size (Obj.cells #[.int .i64 x, .int .i64 y, .int .i64 z] 28)
    have HP4 := Lib.hid (HP3.out.keep hk)
    have HO4 := Lib.hid (HO3.out.keep hk)
    have HA4 := Lib.hid (HA3.out.keep hk)
    have HX4 := Lib.hid (HX3.out.keep hk)
    have HY4 := Lib.hid (row_fresh w4 #[.int .i64 x, .int .i64 y, .int .i64 z] 28)
    have HB4 := Lib.hid (HB3.out.trans (hk.mono HB3.out.size))
    clear hb hk HP3 HO3 HA3 HX3 HB3
    have p_0 := HP4.out.c 0 _ rfl
    have p_1 := HP4.out.c 1 _ rfl
    have p_2 := HP4.out.c 2 _ rfl
    have p_3 := HP4.out.c 3 _ rfl
    have p_4 := HP4.out.c 4 _ rfl
    have p_5 := HP4.out.c 5 _ rfl
    have p_6 := HP4.out.c 6 _ rfl
    have p_7 := HP4.out.c 7 _ rfl
    have p_8 := HP4.out.c 8 _ rfl
    have p_9 := HP4.out.c 9 _ rfl
    have p_10 := HP4.out.c 10 _ rfl
    have p_11 := HP4.out.c 11 _ rfl
    have p_z := HP4.out.fz
    have o_0 := HO4.out.c 0 _ rfl
    have o_1 := HO4.out.c 1 _ rfl
    have o_2 := HO4.out.c 2 _ rfl
    have o_z := HO4.out.fz
    have a_0 := HA4.out.c 0 _ rfl
    have a_1 := HA4.out.c 1 _ rfl
    have a_2 := HA4.out.c 2 _ rfl
    have a_3 := HA4.out.c 3 _ rfl
    have a_z := HA4.out.fz
    have x_0 := HX4.out.c 0 _ rfl
    have x_1 := HX4.out.c 1 _ rfl
    have x_z := HX4.out.fz
    have y_0 := HY4.out.c 0 _ rfl
    have y_1 := HY4.out.c 1 _ rfl
    have y_2 := HY4.out.c 2 _ rfl
    have y_z := HY4.out.fz
    go_wp2_with fail
    refine (HC3.out _).mono ?_
    rintro e w5 ⟨rfl, hb⟩
    clear p_0 p_1 p_2 p_3 p_4 p_5 p_6 p_7 p_8 p_9 p_10 p_11 p_z
    clear o_0 o_1 o_2 o_z
    clear a_0 a_1 a_2 a_3 a_z
    clear x_0 x_1 x_z
    clear y_0 y_1 y_2 y_z
    have hk := hb.alloc hb.size (Obj.cells #[.int .i64 x, .int .i64 y, .int .i64 z] 28)
    have HP5 := Lib.hid (HP4.out.keep hk)
    have HO5 := Lib.hid (HO4.out.keep hk)
    have HA5 := Lib.hid (HA4.out.keep hk)
    have HX5 := Lib.hid (HX4.out.keep hk)
    have HY5 := Lib.hid (HY4.out.keep hk)
    have HZ5 := Lib.hid (row_fresh w5 #[.int .i64 x, .int .i64 y, .int .i64 z] 28)
    have HB5 := Lib.hid (HB4.out.trans (hk.mono HB4.out.size))
    clear hb hk HP4 HO4 HA4 HX4 HY4 HB4
    have x_0 := HX5.out.c 0 _ rfl
    have x_1 := HX5.out.c 1 _ rfl
    have x_z := HX5.out.fz
    have y_0 := HY5.out.c 0 _ rfl
    have y_1 := HY5.out.c 1 _ rfl
    have y_2 := HY5.out.c 2 _ rfl
    have y_z := HY5.out.fz
    have z_0 := HZ5.out.c 0 _ rfl
    have z_1 := HZ5.out.c 1 _ rfl
    have z_2 := HZ5.out.c 2 _ rfl
    have z_z := HZ5.out.fz
    go_wp2_with fail
    go_ret
    exact ⟨rfl, HB5.out⟩

set_option maxHeartbeats 4000000 in
set_option maxRecDepth 100000 in
theorem urgent_law (p : Pt) (k n c t lv vk vn : Int) (w : World) : Calls Try.prog 6 #[ptV p, .agg #[.int .i64 k, .int .i64 n, .int .i64 c], .agg #[.int .i64 t, .int .i64 lv, .int .i64 vk, .int .i64 vn]] w fun e w' => e = .returned (.bool true) ∧ Below w.heap.size w w' := by
  obtain ⟨nm, kd, rl, un, lo, hi, st, ss, dk, dn, on, off⟩ := p
  obtain ⟨E, hE⟩ : ∃ E, E = errR ⟨nm, kd, rl, un, lo, hi, st, ss, dk, dn, on, off⟩ k n c lv vk vn t := ⟨_, rfl⟩
  obtain ⟨Q, hQ⟩ : ∃ Q, Q = heldP ⟨nm, kd, rl, un, lo, hi, st, ss, dk, dn, on, off⟩ k n c t := ⟨_, rfl⟩
  have c1 := fun w => value_any ⟨nm, kd, rl, un, lo, hi, st, ss, dk, dn, on, off⟩ k n c lv vk vn t w
  have c2 := fun w => held_any ⟨nm, kd, rl, un, lo, hi, st, ss, dk, dn, on, off⟩ k n c t w
  rw [← hQ] at c2
  have HC2 := Lib.hid c2
  have HE := Lib.hid hE
  have HQ := Lib.hid hQ
  clear c2 hQ
  by_cases he : E = 0
  · subst he
    by_cases h5 : 5 < lv
    · obtain rfl | rfl : Q = true ∨ Q = false := by cases Q; exact .inr rfl; exact .inl rfl
      · have hQ := HQ.out
        rw [valT_old hE.symm h5 hQ.symm] at c1
        have HC1 := Lib.hid c1
        clear c1 hE HE hQ
        obtain ⟨W, g, h, q, hW, hg, hh, hq, RP, RO, RQ, B, sz⟩ := box3 w #[nm, .int .i64 kd, .int .i64 rl, un, lo, hi, st, ss, dk, dn, .int .i64 on, .int .i64 off] 26 #[.int .i64 k, .int .i64 n, .int .i64 c] 28 #[.int .i64 t, .int .i64 lv, .int .i64 vk, .int .i64 vn] 32
        have HAW := Lib.hid awake_yes
        obtain ⟨Z, hZ⟩ : ∃ Z, Z = fitsB ⟨nm, kd, rl, un, lo, hi, st, ss, dk, dn, on, off⟩ c [⟨t, lv, vk, vn⟩] := ⟨_, rfl⟩
        have hft := fun w => fits_any ⟨nm, kd, rl, un, lo, hi, st, ss, dk, dn, on, off⟩ k n c (some ⟨w.heap.size, 0, none⟩) 1 [⟨t, lv, vk, vn⟩] (w.alloc (Obj.cells #[.int .i64 t, .int .i64 lv, .int .i64 vk, .int .i64 vn] 32)) (ins_fresh w #[.int .i64 t, .int .i64 lv, .int .i64 vk, .int .i64 vn] 32 4 rfl)
        rw [← hZ] at hft
        have HFT := Lib.hid hft
        clear hft hZ
        go_enter Try.func6, Try.ntmps6
        go_wp2_with fail
        rw [← hW]
        try rw [← hq]
        try rw [← hh]
        try rw [← hg]
        have HP0 := Lib.hid RP
        have HO0 := Lib.hid RO
        have HA0 := Lib.hid RQ
        have HB0 := Lib.hid B
        clear hW hg hh hq sz B RP RO RQ
        refine (HAW.out _).mono ?_
        rintro e w1 ⟨rfl, hb⟩
        have HP1 := Lib.hid (HP0.out.keep hb)
        have HO1 := Lib.hid (HO0.out.keep hb)
        have HA1 := Lib.hid (HA0.out.keep hb)
        have HB1 := Lib.hid (HB0.out.trans (hb.mono HB0.out.size))
        clear hb HP0 HO0 HA0 HB0 HAW
        have p_0 := HP1.out.c 0 _ rfl
        have p_1 := HP1.out.c 1 _ rfl
        have p_2 := HP1.out.c 2 _ rfl
        have p_3 := HP1.out.c 3 _ rfl
        have p_4 := HP1.out.c 4 _ rfl
        have p_5 := HP1.out.c 5 _ rfl
        have p_6 := HP1.out.c 6 _ rfl
        have p_7 := HP1.out.c 7 _ rfl
        have p_8 := HP1.out.c 8 _ rfl
        have p_9 := HP1.out.c 9 _ rfl
        have p_10 := HP1.out.c 10 _ rfl
        have p_11 := HP1.out.c 11 _ rfl
        have p_z := HP1.out.fz
        have o_0 := HO1.out.c 0 _ rfl
        have o_1 := HO1.out.c 1 _ rfl
        have o_2 := HO1.out.c 2 _ rfl
        have o_z := HO1.out.fz
        have a_0 := HA1.out.c 0 _ rfl
        have a_1 := HA1.out.c 1 _ rfl
        have a_2 := HA1.out.c 2 _ rfl
        have a_3 := HA1.out.c 3 _ rfl
        have a_z := HA1.out.fz
        go_wp2_with fail
        refine (HFT.out _).mono ?_
        rintro e w2 ⟨rfl, hb⟩
        clear p_0 p_1 p_2 p_3 p_4 p_5 p_6 p_7 p_8 p_9 p_10 p_11 p_z
        clear o_0 o_1 o_2 o_z
        clear a_0 a_1 a_2 a_3 a_z
        have hk := ((Below.refl w1.heap.size w1).alloc (Nat.le_refl _) (Obj.cells #[.int .i64 t, .int .i64 lv, .int .i64 vk, .int .i64 vn] 32)).trans (hb.mono (by rw [World.size_alloc]; omega))
        have HP2 := Lib.hid (HP1.out.keep hk)
        have HO2 := Lib.hid (HO1.out.keep hk)
        have HA2 := Lib.hid (HA1.out.keep hk)
        have HB2 := Lib.hid (HB1.out.trans (hk.mono HB1.out.size))
        clear hb hk HP1 HO1 HA1 HB1 HFT
        cases Z
        · have p_0 := HP2.out.c 0 _ rfl
          have p_1 := HP2.out.c 1 _ rfl
          have p_2 := HP2.out.c 2 _ rfl
          have p_3 := HP2.out.c 3 _ rfl
          have p_4 := HP2.out.c 4 _ rfl
          have p_5 := HP2.out.c 5 _ rfl
          have p_6 := HP2.out.c 6 _ rfl
          have p_7 := HP2.out.c 7 _ rfl
          have p_8 := HP2.out.c 8 _ rfl
          have p_9 := HP2.out.c 9 _ rfl
          have p_10 := HP2.out.c 10 _ rfl
          have p_11 := HP2.out.c 11 _ rfl
          have p_z := HP2.out.fz
          have o_0 := HO2.out.c 0 _ rfl
          have o_1 := HO2.out.c 1 _ rfl
          have o_2 := HO2.out.c 2 _ rfl
          have o_z := HO2.out.fz
          have a_0 := HA2.out.c 0 _ rfl
          have a_1 := HA2.out.c 1 _ rfl
          have a_2 := HA2.out.c 2 _ rfl
          have a_3 := HA2.out.c 3 _ rfl
          have a_z := HA2.out.fz
          go_wp2_with fail
          go_ret
          exact ⟨rfl, HB2.out⟩
        · have p_0 := HP2.out.c 0 _ rfl
          have p_1 := HP2.out.c 1 _ rfl
          have p_2 := HP2.out.c 2 _ rfl
          have p_3 := HP2.out.c 3 _ rfl
          have p_4 := HP2.out.c 4 _ rfl
          have p_5 := HP2.out.c 5 _ rfl
          have p_6 := HP2.out.c 6 _ rfl
          have p_7 := HP2.out.c 7 _ rfl
          have p_8 := HP2.out.c 8 _ rfl
          have p_9 := HP2.out.c 9 _ rfl
          have p_10 := HP2.out.c 10 _ rfl
          have p_11 := HP2.out.c 11 _ rfl
          have p_z := HP2.out.fz
          have o_0 := HO2.out.c 0 _ rfl
          have o_1 := HO2.out.c 1 _ rfl
          have o_2 := HO2.out.c 2 _ rfl
          have o_z := HO2.out.fz
          have a_0 := HA2.out.c 0 _ rfl
          have a_1 := HA2.out.c 1 _ rfl
          have a_2 := HA2.out.c 2 _ rfl
          have a_3 := HA2.out.c 3 _ rfl
          have a_z := HA2.out.fz
          go_wp2_with fail
          refine (HC1.out _).mono ?_
          rintro e w3 ⟨rfl, hb⟩
          clear p_0 p_1 p_2 p_3 p_4 p_5 p_6 p_7 p_8 p_9 p_10 p_11 p_z
          clear o_0 o_1 o_2 o_z
          clear a_0 a_1 a_2 a_3 a_z
          have hk := hb.alloc hb.size (Obj.cells #[.int .i64 k, .int .i64 n] 24)
          have HP3 := Lib.hid (HP2.out.keep hk)
          have HO3 := Lib.hid (HO2.out.keep hk)
          have HA3 := Lib.hid (HA2.out.keep hk)
          have HX3 := Lib.hid (row_fresh w3 #[.int .i64 k, .int .i64 n] 24)
          have HB3 := Lib.hid (HB2.out.trans (hk.mono HB2.out.size))
          clear hb hk HP2 HO2 HA2 HB2
          have p_0 := HP3.out.c 0 _ rfl
          have p_1 := HP3.out.c 1 _ rfl
          have p_2 := HP3.out.c 2 _ rfl
          have p_3 := HP3.out.c 3 _ rfl
          have p_4 := HP3.out.c 4 _ rfl
          have p_5 := HP3.out.c 5 _ rfl
          have p_6 := HP3.out.c 6 _ rfl
          have p_7 := HP3.out.c 7 _ rfl
          have p_8 := HP3.out.c 8 _ rfl
          have p_9 := HP3.out.c 9 _ rfl
          have p_10 := HP3.out.c 10 _ rfl
          have p_11 := HP3.out.c 11 _ rfl
          have p_z := HP3.out.fz
          have o_0 := HO3.out.c 0 _ rfl
          have o_1 := HO3.out.c 1 _ rfl
          have o_2 := HO3.out.c 2 _ rfl
          have o_z := HO3.out.fz
          have a_0 := HA3.out.c 0 _ rfl
          have a_1 := HA3.out.c 1 _ rfl
          have a_2 := HA3.out.c 2 _ rfl
          have a_3 := HA3.out.c 3 _ rfl
          have a_z := HA3.out.fz
          have x_0 := HX3.out.c 0 _ rfl
          have x_1 := HX3.out.c 1 _ rfl
          have x_z := HX3.out.fz
          go_wp2_with fail
          refine (HC2.out _).mono ?_
          rintro e w4 ⟨rfl, hb⟩
          clear p_0 p_1 p_2 p_3 p_4 p_5 p_6 p_7 p_8 p_9 p_10 p_11 p_z
          clear o_0 o_1 o_2 o_z
          clear a_0 a_1 a_2 a_3 a_z
          clear x_0 x_1 x_z
          have HP4 := Lib.hid (HP3.out.keep hb)
          have HO4 := Lib.hid (HO3.out.keep hb)
          have HA4 := Lib.hid (HA3.out.keep hb)
          have HX4 := Lib.hid (HX3.out.keep hb)
          have HB4 := Lib.hid (HB3.out.trans (hb.mono HB3.out.size))
          clear hb HP3 HO3 HA3 HX3 HB3
          have p_0 := HP4.out.c 0 _ rfl
          have p_1 := HP4.out.c 1 _ rfl
          have p_2 := HP4.out.c 2 _ rfl
          have p_3 := HP4.out.c 3 _ rfl
          have p_4 := HP4.out.c 4 _ rfl
          have p_5 := HP4.out.c 5 _ rfl
          have p_6 := HP4.out.c 6 _ rfl
          have p_7 := HP4.out.c 7 _ rfl
          have p_8 := HP4.out.c 8 _ rfl
          have p_9 := HP4.out.c 9 _ rfl
          have p_10 := HP4.out.c 10 _ rfl
          have p_11 := HP4.out.c 11 _ rfl
          have p_z := HP4.out.fz
          have o_0 := HO4.out.c 0 _ rfl
          have o_1 := HO4.out.c 1 _ rfl
          have o_2 := HO4.out.c 2 _ rfl
          have o_z := HO4.out.fz
          have a_0 := HA4.out.c 0 _ rfl
          have a_1 := HA4.out.c 1 _ rfl
          have a_2 := HA4.out.c 2 _ rfl
          have a_3 := HA4.out.c 3 _ rfl
          have a_z := HA4.out.fz
          have x_0 := HX4.out.c 0 _ rfl
          have x_1 := HX4.out.c 1 _ rfl
          have x_z := HX4.out.fz
          go_wp2_with fail
          go_ret
          exact ⟨rfl, HB4.out⟩
      · have hQ := HQ.out
        rw [valT_new hE.symm (.inr hQ.symm)] at c1
        have HC1 := Lib.hid c1
        clear c1 hE HE hQ
        obtain ⟨W, g, h, q, hW, hg, hh, hq, RP, RO, RQ, B, sz⟩ := box3 w #[nm, .int .i64 kd, .int .i64 rl, un, lo, hi, st, ss, dk, dn, .int .i64 on, .int .i64 off] 26 #[.int .i64 k, .int .i64 n, .int .i64 c] 28 #[.int .i64 t, .int .i64 lv, .int .i64 vk, .int .i64 vn] 32
        have HAW := Lib.hid awake_yes
        obtain ⟨Z, hZ⟩ : ∃ Z, Z = fitsB ⟨nm, kd, rl, un, lo, hi, st, ss, dk, dn, on, off⟩ c [⟨t, lv, vk, vn⟩] := ⟨_, rfl⟩
        have hft := fun w => fits_any ⟨nm, kd, rl, un, lo, hi, st, ss, dk, dn, on, off⟩ k n c (some ⟨w.heap.size, 0, none⟩) 1 [⟨t, lv, vk, vn⟩] (w.alloc (Obj.cells #[.int .i64 t, .int .i64 lv, .int .i64 vk, .int .i64 vn] 32)) (ins_fresh w #[.int .i64 t, .int .i64 lv, .int .i64 vk, .int .i64 vn] 32 4 rfl)
        rw [← hZ] at hft
        have HFT := Lib.hid hft
        clear hft hZ
        go_enter Try.func6, Try.ntmps6
        go_wp2_with fail
        rw [← hW]
        try rw [← hq]
        try rw [← hh]
        try rw [← hg]
        have HP0 := Lib.hid RP
        have HO0 := Lib.hid RO
        have HA0 := Lib.hid RQ
        have HB0 := Lib.hid B
        clear hW hg hh hq sz B RP RO RQ
        refine (HAW.out _).mono ?_
        rintro e w1 ⟨rfl, hb⟩
        have HP1 := Lib.hid (HP0.out.keep hb)
        have HO1 := Lib.hid (HO0.out.keep hb)
        have HA1 := Lib.hid (HA0.out.keep hb)
        have HB1 := Lib.hid (HB0.out.trans (hb.mono HB0.out.size))
        clear hb HP0 HO0 HA0 HB0 HAW
        have p_0 := HP1.out.c 0 _ rfl
        have p_1 := HP1.out.c 1 _ rfl
        have p_2 := HP1.out.c 2 _ rfl
        have p_3 := HP1.out.c 3 _ rfl
        have p_4 := HP1.out.c 4 _ rfl
        have p_5 := HP1.out.c 5 _ rfl
        have p_6 := HP1.out.c 6 _ rfl
        have p_7 := HP1.out.c 7 _ rfl
        have p_8 := HP1.out.c 8 _ rfl
        have p_9 := HP1.out.c 9 _ rfl
        have p_10 := HP1.out.c 10 _ rfl
        have p_11 := HP1.out.c 11 _ rfl
        have p_z := HP1.out.fz
        have o_0 := HO1.out.c 0 _ rfl
        have o_1 := HO1.out.c 1 _ rfl
        have o_2 := HO1.out.c 2 _ rfl
        have o_z := HO1.out.fz
        have a_0 := HA1.out.c 0 _ rfl
        have a_1 := HA1.out.c 1 _ rfl
        have a_2 := HA1.out.c 2 _ rfl
        have a_3 := HA1.out.c 3 _ rfl
        have a_z := HA1.out.fz
        go_wp2_with fail
        refine (HFT.out _).mono ?_
        rintro e w2 ⟨rfl, hb⟩
        clear p_0 p_1 p_2 p_3 p_4 p_5 p_6 p_7 p_8 p_9 p_10 p_11 p_z
        clear o_0 o_1 o_2 o_z
        clear a_0 a_1 a_2 a_3 a_z
        have hk := ((Below.refl w1.heap.size w1).alloc (Nat.le_refl _) (Obj.cells #[.int .i64 t, .int .i64 lv, .int .i64 vk, .int .i64 vn] 32)).trans (hb.mono (by rw [World.size_alloc]; omega))
        have HP2 := Lib.hid (HP1.out.keep hk)
        have HO2 := Lib.hid (HO1.out.keep hk)
        have HA2 := Lib.hid (HA1.out.keep hk)
        have HB2 := Lib.hid (HB1.out.trans (hk.mono HB1.out.size))
        clear hb hk HP1 HO1 HA1 HB1 HFT
        cases Z
        · have p_0 := HP2.out.c 0 _ rfl
          have p_1 := HP2.out.c 1 _ rfl
          have p_2 := HP2.out.c 2 _ rfl
          have p_3 := HP2.out.c 3 _ rfl
          have p_4 := HP2.out.c 4 _ rfl
          have p_5 := HP2.out.c 5 _ rfl
          have p_6 := HP2.out.c 6 _ rfl
          have p_7 := HP2.out.c 7 _ rfl
          have p_8 := HP2.out.c 8 _ rfl
          have p_9 := HP2.out.c 9 _ rfl
          have p_10 := HP2.out.c 10 _ rfl
          have p_11 := HP2.out.c 11 _ rfl
          have p_z := HP2.out.fz
          have o_0 := HO2.out.c 0 _ rfl
          have o_1 := HO2.out.c 1 _ rfl
          have o_2 := HO2.out.c 2 _ rfl
          have o_z := HO2.out.fz
          have a_0 := HA2.out.c 0 _ rfl
          have a_1 := HA2.out.c 1 _ rfl
          have a_2 := HA2.out.c 2 _ rfl
          have a_3 := HA2.out.c 3 _ rfl
          have a_z := HA2.out.fz
          go_wp2_with fail
          go_ret
          exact ⟨rfl, HB2.out⟩
        · have p_0 := HP2.out.c 0 _ rfl
          have p_1 := HP2.out.c 1 _ rfl
          have p_2 := HP2.out.c 2 _ rfl
          have p_3 := HP2.out.c 3 _ rfl
          have p_4 := HP2.out.c 4 _ rfl
          have p_5 := HP2.out.c 5 _ rfl
          have p_6 := HP2.out.c 6 _ rfl
          have p_7 := HP2.out.c 7 _ rfl
          have p_8 := HP2.out.c 8 _ rfl
          have p_9 := HP2.out.c 9 _ rfl
          have p_10 := HP2.out.c 10 _ rfl
          have p_11 := HP2.out.c 11 _ rfl
          have p_z := HP2.out.fz
          have o_0 := HO2.out.c 0 _ rfl
          have o_1 := HO2.out.c 1 _ rfl
          have o_2 := HO2.out.c 2 _ rfl
          have o_z := HO2.out.fz
          have a_0 := HA2.out.c 0 _ rfl
          have a_1 := HA2.out.c 1 _ rfl
          have a_2 := HA2.out.c 2 _ rfl
          have a_3 := HA2.out.c 3 _ rfl
          have a_z := HA2.out.fz
          go_wp2_with fail
          refine (HC1.out _).mono ?_
          rintro e w3 ⟨rfl, hb⟩
          clear p_0 p_1 p_2 p_3 p_4 p_5 p_6 p_7 p_8 p_9 p_10 p_11 p_z
          clear o_0 o_1 o_2 o_z
          clear a_0 a_1 a_2 a_3 a_z
          have hk := hb.alloc hb.size (Obj.cells #[.int .i64 vk, .int .i64 vn] 24)
          have HP3 := Lib.hid (HP2.out.keep hk)
          have HO3 := Lib.hid (HO2.out.keep hk)
          have HA3 := Lib.hid (HA2.out.keep hk)
          have HX3 := Lib.hid (row_fresh w3 #[.int .i64 vk, .int .i64 vn] 24)
          have HB3 := Lib.hid (HB2.out.trans (hk.mono HB2.out.size))
          clear hb hk HP2 HO2 HA2 HB2
          have p_0 := HP3.out.c 0 _ rfl
          have p_1 := HP3.out.c 1 _ rfl
          have p_2 := HP3.out.c 2 _ rfl
          have p_3 := HP3.out.c 3 _ rfl
          have p_4 := HP3.out.c 4 _ rfl
          have p_5 := HP3.out.c 5 _ rfl
          have p_6 := HP3.out.c 6 _ rfl
          have p_7 := HP3.out.c 7 _ rfl
          have p_8 := HP3.out.c 8 _ rfl
          have p_9 := HP3.out.c 9 _ rfl
          have p_10 := HP3.out.c 10 _ rfl
          have p_11 := HP3.out.c 11 _ rfl
          have p_z := HP3.out.fz
          have o_0 := HO3.out.c 0 _ rfl
          have o_1 := HO3.out.c 1 _ rfl
          have o_2 := HO3.out.c 2 _ rfl
          have o_z := HO3.out.fz
          have a_0 := HA3.out.c 0 _ rfl
          have a_1 := HA3.out.c 1 _ rfl
          have a_2 := HA3.out.c 2 _ rfl
          have a_3 := HA3.out.c 3 _ rfl
          have a_z := HA3.out.fz
          have x_0 := HX3.out.c 0 _ rfl
          have x_1 := HX3.out.c 1 _ rfl
          have x_z := HX3.out.fz
          go_wp2_with fail
          refine (HC2.out _).mono ?_
          rintro e w4 ⟨rfl, hb⟩
          clear p_0 p_1 p_2 p_3 p_4 p_5 p_6 p_7 p_8 p_9 p_10 p_11 p_z
          clear o_0 o_1 o_2 o_z
          clear a_0 a_1 a_2 a_3 a_z
          clear x_0 x_1 x_z
          have HP4 := Lib.hid (HP3.out.keep hb)
          have HO4 := Lib.hid (HO3.out.keep hb)
          have HA4 := Lib.hid (HA3.out.keep hb)
          have HX4 := Lib.hid (HX3.out.keep hb)
          have HB4 := Lib.hid (HB3.out.trans (hb.mono HB3.out.size))
          clear hb HP3 HO3 HA3 HX3 HB3
          have p_0 := HP4.out.c 0 _ rfl
          have p_1 := HP4.out.c 1 _ rfl
          have p_2 := HP4.out.c 2 _ rfl
          have p_3 := HP4.out.c 3 _ rfl
          have p_4 := HP4.out.c 4 _ rfl
          have p_5 := HP4.out.c 5 _ rfl
          have p_6 := HP4.out.c 6 _ rfl
          have p_7 := HP4.out.c 7 _ rfl
          have p_8 := HP4.out.c 8 _ rfl
          have p_9 := HP4.out.c 9 _ rfl
          have p_10 := HP4.out.c 10 _ rfl
          have p_11 := HP4.out.c 11 _ rfl
          have p_z := HP4.out.fz
          have o_0 := HO4.out.c 0 _ rfl
          have o_1 := HO4.out.c 1 _ rfl
          have o_2 := HO4.out.c 2 _ rfl
          have o_z := HO4.out.fz
          have a_0 := HA4.out.c 0 _ rfl
          have a_1 := HA4.out.c 1 _ rfl
          have a_2 := HA4.out.c 2 _ rfl
          have a_3 := HA4.out.c 3 _ rfl
          have a_z := HA4.out.fz
          have x_0 := HX4.out.c 0 _ rfl
          have x_1 := HX4.out.c 1 _ rfl
          have x_z := HX4.out.fz
          go_wp2_with fail
          go_ret
          exact ⟨rfl, HB4.out⟩
    · rw [valT_new hE.symm (.inl h5)] at c1
      have HC1 := Lib.hid c1
      clear c1 hE HE
      obtain ⟨W, g, h, q, hW, hg, hh, hq, RP, RO, RQ, B, sz⟩ := box3 w #[nm, .int .i64 kd, .int .i64 rl, un, lo, hi, st, ss, dk, dn, .int .i64 on, .int .i64 off] 26 #[.int .i64 k, .int .i64 n, .int .i64 c] 28 #[.int .i64 t, .int .i64 lv, .int .i64 vk, .int .i64 vn] 32
      have HAW := Lib.hid awake_yes
      obtain ⟨Z, hZ⟩ : ∃ Z, Z = fitsB ⟨nm, kd, rl, un, lo, hi, st, ss, dk, dn, on, off⟩ c [⟨t, lv, vk, vn⟩] := ⟨_, rfl⟩
      have hft := fun w => fits_any ⟨nm, kd, rl, un, lo, hi, st, ss, dk, dn, on, off⟩ k n c (some ⟨w.heap.size, 0, none⟩) 1 [⟨t, lv, vk, vn⟩] (w.alloc (Obj.cells #[.int .i64 t, .int .i64 lv, .int .i64 vk, .int .i64 vn] 32)) (ins_fresh w #[.int .i64 t, .int .i64 lv, .int .i64 vk, .int .i64 vn] 32 4 rfl)
      rw [← hZ] at hft
      have HFT := Lib.hid hft
      clear hft hZ
      go_enter Try.func6, Try.ntmps6
      go_wp2_with fail
      rw [← hW]
      try rw [← hq]
      try rw [← hh]
      try rw [← hg]
      have HP0 := Lib.hid RP
      have HO0 := Lib.hid RO
      have HA0 := Lib.hid RQ
      have HB0 := Lib.hid B
      clear hW hg hh hq sz B RP RO RQ
      refine (HAW.out _).mono ?_
      rintro e w1 ⟨rfl, hb⟩
      have HP1 := Lib.hid (HP0.out.keep hb)
      have HO1 := Lib.hid (HO0.out.keep hb)
      have HA1 := Lib.hid (HA0.out.keep hb)
      have HB1 := Lib.hid (HB0.out.trans (hb.mono HB0.out.size))
      clear hb HP0 HO0 HA0 HB0 HAW
      have p_0 := HP1.out.c 0 _ rfl
      have p_1 := HP1.out.c 1 _ rfl
      have p_2 := HP1.out.c 2 _ rfl
      have p_3 := HP1.out.c 3 _ rfl
      have p_4 := HP1.out.c 4 _ rfl
      have p_5 := HP1.out.c 5 _ rfl
      have p_6 := HP1.out.c 6 _ rfl
      have p_7 := HP1.out.c 7 _ rfl
      have p_8 := HP1.out.c 8 _ rfl
      have p_9 := HP1.out.c 9 _ rfl
      have p_10 := HP1.out.c 10 _ rfl
      have p_11 := HP1.out.c 11 _ rfl
      have p_z := HP1.out.fz
      have o_0 := HO1.out.c 0 _ rfl
      have o_1 := HO1.out.c 1 _ rfl
      have o_2 := HO1.out.c 2 _ rfl
      have o_z := HO1.out.fz
      have a_0 := HA1.out.c 0 _ rfl
      have a_1 := HA1.out.c 1 _ rfl
      have a_2 := HA1.out.c 2 _ rfl
      have a_3 := HA1.out.c 3 _ rfl
      have a_z := HA1.out.fz
      go_wp2_with fail
      refine (HFT.out _).mono ?_
      rintro e w2 ⟨rfl, hb⟩
      clear p_0 p_1 p_2 p_3 p_4 p_5 p_6 p_7 p_8 p_9 p_10 p_11 p_z
      clear o_0 o_1 o_2 o_z
      clear a_0 a_1 a_2 a_3 a_z
      have hk := ((Below.refl w1.heap.size w1).alloc (Nat.le_refl _) (Obj.cells #[.int .i64 t, .int .i64 lv, .int .i64 vk, .int .i64 vn] 32)).trans (hb.mono (by rw [World.size_alloc]; omega))
      have HP2 := Lib.hid (HP1.out.keep hk)
      have HO2 := Lib.hid (HO1.out.keep hk)
      have HA2 := Lib.hid (HA1.out.keep hk)
      have HB2 := Lib.hid (HB1.out.trans (hk.mono HB1.out.size))
      clear hb hk HP1 HO1 HA1 HB1 HFT
      cases Z
      · have p_0 := HP2.out.c 0 _ rfl
        have p_1 := HP2.out.c 1 _ rfl
        have p_2 := HP2.out.c 2 _ rfl
        have p_3 := HP2.out.c 3 _ rfl
        have p_4 := HP2.out.c 4 _ rfl
        have p_5 := HP2.out.c 5 _ rfl
        have p_6 := HP2.out.c 6 _ rfl
        have p_7 := HP2.out.c 7 _ rfl
        have p_8 := HP2.out.c 8 _ rfl
        have p_9 := HP2.out.c 9 _ rfl
        have p_10 := HP2.out.c 10 _ rfl
        have p_11 := HP2.out.c 11 _ rfl
        have p_z := HP2.out.fz
        have o_0 := HO2.out.c 0 _ rfl
        have o_1 := HO2.out.c 1 _ rfl
        have o_2 := HO2.out.c 2 _ rfl
        have o_z := HO2.out.fz
        have a_0 := HA2.out.c 0 _ rfl
        have a_1 := HA2.out.c 1 _ rfl
        have a_2 := HA2.out.c 2 _ rfl
        have a_3 := HA2.out.c 3 _ rfl
        have a_z := HA2.out.fz
        go_wp2_with fail
        go_ret
        exact ⟨rfl, HB2.out⟩
      · have p_0 := HP2.out.c 0 _ rfl
        have p_1 := HP2.out.c 1 _ rfl
        have p_2 := HP2.out.c 2 _ rfl
        have p_3 := HP2.out.c 3 _ rfl
        have p_4 := HP2.out.c 4 _ rfl
        have p_5 := HP2.out.c 5 _ rfl
        have p_6 := HP2.out.c 6 _ rfl
        have p_7 := HP2.out.c 7 _ rfl
        have p_8 := HP2.out.c 8 _ rfl
        have p_9 := HP2.out.c 9 _ rfl
        have p_10 := HP2.out.c 10 _ rfl
        have p_11 := HP2.out.c 11 _ rfl
        have p_z := HP2.out.fz
        have o_0 := HO2.out.c 0 _ rfl
        have o_1 := HO2.out.c 1 _ rfl
        have o_2 := HO2.out.c 2 _ rfl
        have o_z := HO2.out.fz
        have a_0 := HA2.out.c 0 _ rfl
        have a_1 := HA2.out.c 1 _ rfl
        have a_2 := HA2.out.c 2 _ rfl
        have a_3 := HA2.out.c 3 _ rfl
        have a_z := HA2.out.fz
        go_wp2_with fail
        refine (HC1.out _).mono ?_
        rintro e w3 ⟨rfl, hb⟩
        clear p_0 p_1 p_2 p_3 p_4 p_5 p_6 p_7 p_8 p_9 p_10 p_11 p_z
        clear o_0 o_1 o_2 o_z
        clear a_0 a_1 a_2 a_3 a_z
        have hk := hb.alloc hb.size (Obj.cells #[.int .i64 vk, .int .i64 vn] 24)
        have HP3 := Lib.hid (HP2.out.keep hk)
        have HO3 := Lib.hid (HO2.out.keep hk)
        have HA3 := Lib.hid (HA2.out.keep hk)
        have HX3 := Lib.hid (row_fresh w3 #[.int .i64 vk, .int .i64 vn] 24)
        have HB3 := Lib.hid (HB2.out.trans (hk.mono HB2.out.size))
        clear hb hk HP2 HO2 HA2 HB2
        have p_0 := HP3.out.c 0 _ rfl
        have p_1 := HP3.out.c 1 _ rfl
        have p_2 := HP3.out.c 2 _ rfl
        have p_3 := HP3.out.c 3 _ rfl
        have p_4 := HP3.out.c 4 _ rfl
        have p_5 := HP3.out.c 5 _ rfl
        have p_6 := HP3.out.c 6 _ rfl
        have p_7 := HP3.out.c 7 _ rfl
        have p_8 := HP3.out.c 8 _ rfl
        have p_9 := HP3.out.c 9 _ rfl
        have p_10 := HP3.out.c 10 _ rfl
        have p_11 := HP3.out.c 11 _ rfl
        have p_z := HP3.out.fz
        have o_0 := HO3.out.c 0 _ rfl
        have o_1 := HO3.out.c 1 _ rfl
        have o_2 := HO3.out.c 2 _ rfl
        have o_z := HO3.out.fz
        have a_0 := HA3.out.c 0 _ rfl
        have a_1 := HA3.out.c 1 _ rfl
        have a_2 := HA3.out.c 2 _ rfl
        have a_3 := HA3.out.c 3 _ rfl
        have a_z := HA3.out.fz
        have x_0 := HX3.out.c 0 _ rfl
        have x_1 := HX3.out.c 1 _ rfl
        have x_z := HX3.out.fz
        go_wp2_with fail
        go_ret
        exact ⟨rfl, HB3.out⟩
  · rw [valT_err (by rw [← hE]; exact he), ← hE] at c1
    have HC1 := Lib.hid c1
    have h1 : (E != 0) = true := by simpa using he
    clear c1 hE he HC2 HQ HE
    obtain ⟨W, g, h, q, hW, hg, hh, hq, RP, RO, RQ, B, sz⟩ := box3 w #[nm, .int .i64 kd, .int .i64 rl, un, lo, hi, st, ss, dk, dn, .int .i64 on, .int .i64 off] 26 #[.int .i64 k, .int .i64 n, .int .i64 c] 28 #[.int .i64 t, .int .i64 lv, .int .i64 vk, .int .i64 vn] 32
    have HAW := Lib.hid awake_yes
    obtain ⟨Z, hZ⟩ : ∃ Z, Z = fitsB ⟨nm, kd, rl, un, lo, hi, st, ss, dk, dn, on, off⟩ c [⟨t, lv, vk, vn⟩] := ⟨_, rfl⟩
    have hft := fun w => fits_any ⟨nm, kd, rl, un, lo, hi, st, ss, dk, dn, on, off⟩ k n c (some ⟨w.heap.size, 0, none⟩) 1 [⟨t, lv, vk, vn⟩] (w.alloc (Obj.cells #[.int .i64 t, .int .i64 lv, .int .i64 vk, .int .i64 vn] 32)) (ins_fresh w #[.int .i64 t, .int .i64 lv, .int .i64 vk, .int .i64 vn] 32 4 rfl)
    rw [← hZ] at hft
    have HFT := Lib.hid hft
    clear hft hZ
    go_enter Try.func6, Try.ntmps6
    go_wp2_with fail
    rw [← hW]
    try rw [← hq]
    try rw [← hh]
    try rw [← hg]
    have HP0 := Lib.hid RP
    have HO0 := Lib.hid RO
    have HA0 := Lib.hid RQ
    have HB0 := Lib.hid B
    clear hW hg hh hq sz B RP RO RQ
    refine (HAW.out _).mono ?_
    rintro e w1 ⟨rfl, hb⟩
    have HP1 := Lib.hid (HP0.out.keep hb)
    have HO1 := Lib.hid (HO0.out.keep hb)
    have HA1 := Lib.hid (HA0.out.keep hb)
    have HB1 := Lib.hid (HB0.out.trans (hb.mono HB0.out.size))
    clear hb HP0 HO0 HA0 HB0 HAW
    have p_0 := HP1.out.c 0 _ rfl
    have p_1 := HP1.out.c 1 _ rfl
    have p_2 := HP1.out.c 2 _ rfl
    have p_3 := HP1.out.c 3 _ rfl
    have p_4 := HP1.out.c 4 _ rfl
    have p_5 := HP1.out.c 5 _ rfl
    have p_6 := HP1.out.c 6 _ rfl
    have p_7 := HP1.out.c 7 _ rfl
    have p_8 := HP1.out.c 8 _ rfl
    have p_9 := HP1.out.c 9 _ rfl
    have p_10 := HP1.out.c 10 _ rfl
    have p_11 := HP1.out.c 11 _ rfl
    have p_z := HP1.out.fz
    have o_0 := HO1.out.c 0 _ rfl
    have o_1 := HO1.out.c 1 _ rfl
    have o_2 := HO1.out.c 2 _ rfl
    have o_z := HO1.out.fz
    have a_0 := HA1.out.c 0 _ rfl
    have a_1 := HA1.out.c 1 _ rfl
    have a_2 := HA1.out.c 2 _ rfl
    have a_3 := HA1.out.c 3 _ rfl
    have a_z := HA1.out.fz
    go_wp2_with fail
    refine (HFT.out _).mono ?_
    rintro e w2 ⟨rfl, hb⟩
    clear p_0 p_1 p_2 p_3 p_4 p_5 p_6 p_7 p_8 p_9 p_10 p_11 p_z
    clear o_0 o_1 o_2 o_z
    clear a_0 a_1 a_2 a_3 a_z
    have hk := ((Below.refl w1.heap.size w1).alloc (Nat.le_refl _) (Obj.cells #[.int .i64 t, .int .i64 lv, .int .i64 vk, .int .i64 vn] 32)).trans (hb.mono (by rw [World.size_alloc]; omega))
    have HP2 := Lib.hid (HP1.out.keep hk)
    have HO2 := Lib.hid (HO1.out.keep hk)
    have HA2 := Lib.hid (HA1.out.keep hk)
    have HB2 := Lib.hid (HB1.out.trans (hk.mono HB1.out.size))
    clear hb hk HP1 HO1 HA1 HB1 HFT
    cases Z
    · have p_0 := HP2.out.c 0 _ rfl
      have p_1 := HP2.out.c 1 _ rfl
      have p_2 := HP2.out.c 2 _ rfl
      have p_3 := HP2.out.c 3 _ rfl
      have p_4 := HP2.out.c 4 _ rfl
      have p_5 := HP2.out.c 5 _ rfl
      have p_6 := HP2.out.c 6 _ rfl
      have p_7 := HP2.out.c 7 _ rfl
      have p_8 := HP2.out.c 8 _ rfl
      have p_9 := HP2.out.c 9 _ rfl
      have p_10 := HP2.out.c 10 _ rfl
      have p_11 := HP2.out.c 11 _ rfl
      have p_z := HP2.out.fz
      have o_0 := HO2.out.c 0 _ rfl
      have o_1 := HO2.out.c 1 _ rfl
      have o_2 := HO2.out.c 2 _ rfl
      have o_z := HO2.out.fz
      have a_0 := HA2.out.c 0 _ rfl
      have a_1 := HA2.out.c 1 _ rfl
      have a_2 := HA2.out.c 2 _ rfl
      have a_3 := HA2.out.c 3 _ rfl
      have a_z := HA2.out.fz
      go_wp2_with fail
      go_ret
      exact ⟨rfl, HB2.out⟩
    · have p_0 := HP2.out.c 0 _ rfl
      have p_1 := HP2.out.c 1 _ rfl
      have p_2 := HP2.out.c 2 _ rfl
      have p_3 := HP2.out.c 3 _ rfl
      have p_4 := HP2.out.c 4 _ rfl
      have p_5 := HP2.out.c 5 _ rfl
      have p_6 := HP2.out.c 6 _ rfl
      have p_7 := HP2.out.c 7 _ rfl
      have p_8 := HP2.out.c 8 _ rfl
      have p_9 := HP2.out.c 9 _ rfl
      have p_10 := HP2.out.c 10 _ rfl
      have p_11 := HP2.out.c 11 _ rfl
      have p_z := HP2.out.fz
      have o_0 := HO2.out.c 0 _ rfl
      have o_1 := HO2.out.c 1 _ rfl
      have o_2 := HO2.out.c 2 _ rfl
      have o_z := HO2.out.fz
      have a_0 := HA2.out.c 0 _ rfl
      have a_1 := HA2.out.c 1 _ rfl
      have a_2 := HA2.out.c 2 _ rfl
      have a_3 := HA2.out.c 3 _ rfl
      have a_z := HA2.out.fz
      go_wp2_with fail
      refine (HC1.out _).mono ?_
      rintro e w3 ⟨rfl, hb⟩
      clear p_0 p_1 p_2 p_3 p_4 p_5 p_6 p_7 p_8 p_9 p_10 p_11 p_z
      clear o_0 o_1 o_2 o_z
      clear a_0 a_1 a_2 a_3 a_z
      have hk := hb.alloc hb.size (Obj.cells #[.int .i64 0, .int .i64 0] 24)
      have HP3 := Lib.hid (HP2.out.keep hk)
      have HO3 := Lib.hid (HO2.out.keep hk)
      have HA3 := Lib.hid (HA2.out.keep hk)
      have HX3 := Lib.hid (row_fresh w3 #[.int .i64 0, .int .i64 0] 24)
      have HB3 := Lib.hid (HB2.out.trans (hk.mono HB2.out.size))
      clear hb hk HP2 HO2 HA2 HB2
      have x_0 := HX3.out.c 0 _ rfl
      have x_1 := HX3.out.c 1 _ rfl
      have x_z := HX3.out.fz
      go_wp2_with fail
      go_ret
      exact ⟨rfl, HB3.out⟩
end Go.Proofs.Ytlmcdnfihgimjaa
