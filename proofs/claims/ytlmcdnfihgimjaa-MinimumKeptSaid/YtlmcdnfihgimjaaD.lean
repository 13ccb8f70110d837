/- The contract of the specification's Next. -/
import Derived.Test.YtlmcdnfihgimjaaC
namespace Go.Proofs.Ytlmcdnfihgimjaa
open Go.RowKit

theorem nextT_bad {p : Pt} {k n c lv vk vn now : Int} (E : Int) (hE : E ≠ 0) (h : errR p k n c lv vk vn now = E) : nextT p k n c lv vk vn now = .tuple #[.agg #[.int .i64 0, .int .i64 0, .int .i64 0], .int .i64 E] := by
  rw [nextT_err (by rw [h]; exact hE), h]
theorem nextT_to {p : Pt} {k n c lv vk vn now : Int} {x y : Int} (h : errR p k n c lv vk vn now = 0) (hv : valR p k n c lv vk vn now = (x, y)) (hne : (x, y) ≠ (k, n)) : nextT p k n c lv vk vn now = .tuple #[.agg #[.int .i64 x, .int .i64 y, .int .i64 now], .int .i64 0] := by
  have e := nextT_new h (by rw [hv]; exact hne)
  rw [hv] at e; exact e
set_option maxHeartbeats 4000000 in
set_option maxRecDepth 100000 in
theorem rnext_any (p : Pt) (k n c lv vk vn now : Int) (w : World) : Calls Try.prog 11 #[ptV p, .agg #[.int .i64 k, .int .i64 n, .int .i64 c], .agg #[.int .i64 lv, .int .i64 vk, .int .i64 vn], .int .i64 now] w fun e w' => e = .returned (nextT p k n c lv vk vn now) ∧ Below w.heap.size w w' := by
  obtain ⟨nm, kd, rl, un, lo, hi, st, ss, dk, dn, on, off⟩ := p
  obtain ⟨Z1, hZ1⟩ : ∃ Z, Z = isP ⟨nm, kd, rl, un, lo, hi, st, ss, dk, dn, on, off⟩ k n := ⟨_, rfl⟩
  obtain ⟨Z2, hZ2⟩ : ∃ Z, Z = isP ⟨nm, kd, rl, un, lo, hi, st, ss, dk, dn, on, off⟩ vk vn := ⟨_, rfl⟩
  obtain ⟨Z, hZ⟩ : ∃ Z, Z = heldP ⟨nm, kd, rl, un, lo, hi, st, ss, dk, dn, on, off⟩ k n c now := ⟨_, rfl⟩
  have hc1 := fun w => ris_any ⟨nm, kd, rl, un, lo, hi, st, ss, dk, dn, on, off⟩ k n w
  have hc2 := fun w => ris_any ⟨nm, kd, rl, un, lo, hi, st, ss, dk, dn, on, off⟩ vk vn w
  have hc3 := fun w => rheld_any ⟨nm, kd, rl, un, lo, hi, st, ss, dk, dn, on, off⟩ k n c now w
  rw [← hZ1] at hc1
  rw [← hZ2] at hc2
  rw [← hZ] at hc3
  have HC1 := Lib.hid hc1
  have HC2 := Lib.hid hc2
  have HC3 := Lib.hid hc3
  have HE := Lib.hid (show errR ⟨nm, kd, rl, un, lo, hi, st, ss, dk, dn, on, off⟩ k n c lv vk vn now = if Z1 = false then 11 else if Z2 = false then 11 else if lv < 1 then 6 else if 17 < lv then 6 else if now < c then 8 else 0 by rw [hZ1, hZ2]; rfl)
  have HV := Lib.hid (show valR ⟨nm, kd, rl, un, lo, hi, st, ss, dk, dn, on, off⟩ k n c lv vk vn now = if 5 < lv ∧ Z = true then (k, n) else (vk, vn) by rw [hZ]; rfl)
  clear hc1 hc2 hc3 hZ1 hZ2 hZ
  obtain ⟨W, g, h, q, r, hW, hg, hh, hq, hr, RP, RO, RQ, RS, B, sz⟩ := box4 w #[nm, .int .i64 kd, .int .i64 rl, un, lo, hi, st, ss, dk, dn, .int .i64 on, .int .i64 off] 26 #[.int .i64 k, .int .i64 n, .int .i64 c] 28 #[.int .i64 lv, .int .i64 vk, .int .i64 vn] 30 #[.int .i64 0, .int .i64 0, .int .i64 0] 28
  go_enter Try.func11, Try.ntmps11
  go_wp2_with fail
  rw [← hW]
  try rw [← hr]
  try rw [← hq]
  try rw [← hh]
  try rw [← hg]
  have hwg : w.heap.size ≤ g := by omega
  have hwh : w.heap.size ≤ h := by omega
  have hwr : w.heap.size ≤ r := by omega
  have hgr : r ≠ g := by omega
  have hhr : r ≠ h := by omega
  have hhg : h ≠ g := by omega
  have HP0 := Lib.hid RP
  have HO0 := Lib.hid RO
  have HQ0 := Lib.hid RQ
  have HS0 := Lib.hid RS
  have HB0 := Lib.hid B
  clear hW hg hh hq hr sz B RP RO RQ RS
  have p_0 := HP0.out.c 0 _ rfl
  have p_1 := HP0.out.c 1 _ rfl
  have p_2 := HP0.out.c 2 _ rfl
  have p_3 := HP0.out.c 3 _ rfl
  have p_4 := HP0.out.c 4 _ rfl
  have p_5 := HP0.out.c 5 _ rfl
  have p_6 := HP0.out.c 6 _ rfl
  have p_7 := HP0.out.c 7 _ rfl
  have p_8 := HP0.out.c 8 _ rfl
  have p_9 := HP0.out.c 9 _ rfl
  have p_10 := HP0.out.c 10 _ rfl
  have p_11 := HP0.out.c 11 _ rfl
  have p_z := HP0.out.fz
  have o_0 := HO0.out.c 0 _ rfl
  have o_1 := HO0.out.c 1 _ rfl
  have o_2 := HO0.out.c 2 _ rfl
  have o_z := HO0.out.fz
  have q_0 := HQ0.out.c 0 _ rfl
  have q_1 := HQ0.out.c 1 _ rfl
  have q_2 := HQ0.out.c 2 _ rfl
  have q_z := HQ0.out.fz
  have s_0 := HS0.out.c 0 _ rfl
  have s_1 := HS0.out.c 1 _ rfl
  have s_2 := HS0.out.c 2 _ rfl
  have s_z := HS0.out.fz
  go_wp2_with fail
  refine (HC1.out _).mono ?_
  rintro e w1 ⟨rfl, hb⟩
  clear p_0 p_1 p_2 p_3 p_4 p_5 p_6 p_7 p_8 p_9 p_10 p_11 p_z
  clear o_0 o_1 o_2 o_z
  clear q_0 q_1 q_2 q_z
  clear s_0 s_1 s_2 s_z
  have HP1 := Lib.hid (HP0.out.keep hb)
  have HO1 := Lib.hid (HO0.out.keep hb)
  have HQ1 := Lib.hid (HQ0.out.keep hb)
  have HS1 := Lib.hid (HS0.out.keep hb)
  have HB1 := Lib.hid (HB0.out.trans (hb.mono HB0.out.size))
  clear hb HP0 HO0 HQ0 HS0 HB0
  cases Z1
  · have p_0 := HP1.out.c 0 _ rfl
    have p_1 := HP1.out.c 1 _ rfl
    have p_2 := HP1.out.c 2 _ rfl
    have p_3 := HP1.out.c 3 _ rfl
    have p_4 := HP1.out.c 4 _ rfl
    have p_5 := HP1.out.c 5 _ rfl
    have p_6 := HP1.out.c 6 _ rfl
    have p_7 := HP1.out.c 7 _ rfl
    have p_8 := HP1.out.c 8 _ rfl
    have p_9 := HP1.out.c 9 _ rfl
    have p_10 := HP1.out.c 10 _ rfl
    have p_11 := HP1.out.c 11 _ rfl
    have p_z := HP1.out.fz
    have o_0 := HO1.out.c 0 _ rfl
    have o_1 := HO1.out.c 1 _ rfl
    have o_2 := HO1.out.c 2 _ rfl
    have o_z := HO1.out.fz
    have q_0 := HQ1.out.c 0 _ rfl
    have q_1 := HQ1.out.c 1 _ rfl
    have q_2 := HQ1.out.c 2 _ rfl
    have q_z := HQ1.out.fz
    have s_0 := HS1.out.c 0 _ rfl
    have s_1 := HS1.out.c 1 _ rfl
    have s_2 := HS1.out.c 2 _ rfl
    have s_z := HS1.out.fz
    go_wp2_with fail
    have hs := (HS1.out).setRow [.int .i64 0, .int .i64 0, .int .i64 0] rfl
    have y0 : (((w1.setCell ⟨r, 0, none⟩ (.int .i64 0)).setCell ⟨r, 1, none⟩ (.int .i64 0)).setCell ⟨r, 2, none⟩ (.int .i64 0)).cell? ⟨r, 0, none⟩ = some (.int .i64 0) := hs.c 0 _ rfl
    have y1 : (((w1.setCell ⟨r, 0, none⟩ (.int .i64 0)).setCell ⟨r, 1, none⟩ (.int .i64 0)).setCell ⟨r, 2, none⟩ (.int .i64 0)).cell? ⟨r, 1, none⟩ = some (.int .i64 0) := hs.c 1 _ rfl
    have y2 : (((w1.setCell ⟨r, 0, none⟩ (.int .i64 0)).setCell ⟨r, 1, none⟩ (.int .i64 0)).setCell ⟨r, 2, none⟩ (.int .i64 0)).cell? ⟨r, 2, none⟩ = some (.int .i64 0) := hs.c 2 _ rfl
    (try simp only [Exit.inBlock, Exit.then])
    refine bodyPost_ret (by simp [results, Try.results11, go_sem, y0, y1, y2]; try rfl) rfl ?_
    exact ⟨congrArg Ending.returned (nextT_bad 11 (by decide) (HE.out.trans (by simp))).symm, set_below HB1.out (by assumption) [.int .i64 0, .int .i64 0, .int .i64 0]⟩
  · have p_0 := HP1.out.c 0 _ rfl
    have p_1 := HP1.out.c 1 _ rfl
    have p_2 := HP1.out.c 2 _ rfl
    have p_3 := HP1.out.c 3 _ rfl
    have p_4 := HP1.out.c 4 _ rfl
    have p_5 := HP1.out.c 5 _ rfl
    have p_6 := HP1.out.c 6 _ rfl
    have p_7 := HP1.out.c 7 _ rfl
    have p_8 := HP1.out.c 8 _ rfl
    have p_9 := HP1.out.c 9 _ rfl
    have p_10 := HP1.out.c 10 _ rfl
    have p_11 := HP1.out.c 11 _ rfl
    have p_z := HP1.out.fz
    have o_0 := HO1.out.c 0 _ rfl
    have o_1 := HO1.out.c 1 _ rfl
    have o_2 := HO1.out.c 2 _ rfl
    have o_z := HO1.out.fz
    have q_0 := HQ1.out.c 0 _ rfl
    have q_1 := HQ1.out.c 1 _ rfl
    have q_2 := HQ1.out.c 2 _ rfl
    have q_z := HQ1.out.fz
    have s_0 := HS1.out.c 0 _ rfl
    have s_1 := HS1.out.c 1 _ rfl
    have s_2 := HS1.out.c 2 _ rfl
    have s_z := HS1.out.fz
    go_wp2_with fail
    refine (HC2.out _).mono ?_
    rintro e w2 ⟨rfl, hb⟩
    clear p_0 p_1 p_2 p_3 p_4 p_5 p_6 p_7 p_8 p_9 p_10 p_11 p_z
    clear o_0 o_1 o_2 o_z
    clear q_0 q_1 q_2 q_z
    clear s_0 s_1 s_2 s_z
    have HP2 := Lib.hid (HP1.out.keep hb)
    have HO2 := Lib.hid (HO1.out.keep hb)
    have HQ2 := Lib.hid (HQ1.out.keep hb)
    have HS2 := Lib.hid (HS1.out.keep hb)
    have HB2 := Lib.hid (HB1.out.trans (hb.mono HB1.out.size))
    clear hb HP1 HO1 HQ1 HS1 HB1
    cases Z2
    · have p_0 := HP2.out.c 0 _ rfl
      have p_1 := HP2.out.c 1 _ rfl
      have p_2 := HP2.out.c 2 _ rfl
      have p_3 := HP2.out.c 3 _ rfl
      have p_4 := HP2.out.c 4 _ rfl
      have p_5 := HP2.out.c 5 _ rfl
      have p_6 := HP2.out.c 6 _ rfl
      have p_7 := HP2.out.c 7 _ rfl
      have p_8 := HP2.out.c 8 _ rfl
      have p_9 := HP2.out.c 9 _ rfl
      have p_10 := HP2.out.c 10 _ rfl
      have p_11 := HP2.out.c 11 _ rfl
      have p_z := HP2.out.fz
      have o_0 := HO2.out.c 0 _ rfl
      have o_1 := HO2.out.c 1 _ rfl
      have o_2 := HO2.out.c 2 _ rfl
      have o_z := HO2.out.fz
      have q_0 := HQ2.out.c 0 _ rfl
      have q_1 := HQ2.out.c 1 _ rfl
      have q_2 := HQ2.out.c 2 _ rfl
      have q_z := HQ2.out.fz
      have s_0 := HS2.out.c 0 _ rfl
      have s_1 := HS2.out.c 1 _ rfl
      have s_2 := HS2.out.c 2 _ rfl
      have s_z := HS2.out.fz
      go_wp2_with fail
      have hs := (HS2.out).setRow [.int .i64 0, .int .i64 0, .int .i64 0] rfl
      have y0 : (((w2.setCell ⟨r, 0, none⟩ (.int .i64 0)).setCell ⟨r, 1, none⟩ (.int .i64 0)).setCell ⟨r, 2, none⟩ (.int .i64 0)).cell? ⟨r, 0, none⟩ = some (.int .i64 0) := hs.c 0 _ rfl
      have y1 : (((w2.setCell ⟨r, 0, none⟩ (.int .i64 0)).setCell ⟨r, 1, none⟩ (.int .i64 0)).setCell ⟨r, 2, none⟩ (.int .i64 0)).cell? ⟨r, 1, none⟩ = some (.int .i64 0) := hs.c 1 _ rfl
      have y2 : (((w2.setCell ⟨r, 0, none⟩ (.int .i64 0)).setCell ⟨r, 1, none⟩ (.int .i64 0)).setCell ⟨r, 2, none⟩ (.int .i64 0)).cell? ⟨r, 2, none⟩ = some (.int .i64 0) := hs.c 2 _ rfl
      (try simp only [Exit.inBlock, Exit.then])
      refine bodyPost_ret (by simp [results, Try.results11, go_sem, y0, y1, y2]; try rfl) rfl ?_
      exact ⟨congrArg Ending.returned (nextT_bad 11 (by decide) (HE.out.trans (by simp))).symm, set_below HB2.out (by assumption) [.int .i64 0, .int .i64 0, .int .i64 0]⟩
    · by_cases h1 : lv < 1
      · have p_0 := HP2.out.c 0 _ rfl
        have p_1 := HP2.out.c 1 _ rfl
        have p_2 := HP2.out.c 2 _ rfl
        have p_3 := HP2.out.c 3 _ rfl
        have p_4 := HP2.out.c 4 _ rfl
        have p_5 := HP2.out.c 5 _ rfl
        have p_6 := HP2.out.c 6 _ rfl
        have p_7 := HP2.out.c 7 _ rfl
        have p_8 := HP2.out.c 8 _ rfl
        have p_9 := HP2.out.c 9 _ rfl
        have p_10 := HP2.out.c 10 _ rfl
        have p_11 := HP2.out.c 11 _ rfl
        have p_z := HP2.out.fz
        have o_0 := HO2.out.c 0 _ rfl
        have o_1 := HO2.out.c 1 _ rfl
        have o_2 := HO2.out.c 2 _ rfl
        have o_z := HO2.out.fz
        have q_0 := HQ2.out.c 0 _ rfl
        have q_1 := HQ2.out.c 1 _ rfl
        have q_2 := HQ2.out.c 2 _ rfl
        have q_z := HQ2.out.fz
        have s_0 := HS2.out.c 0 _ rfl
        have s_1 := HS2.out.c 1 _ rfl
        have s_2 := HS2.out.c 2 _ rfl
        have s_z := HS2.out.fz
        go_wp2_with fail
        have hs := (HS2.out).setRow [.int .i64 0, .int .i64 0, .int .i64 0] rfl
        have y0 : (((w2.setCell ⟨r, 0, none⟩ (.int .i64 0)).setCell ⟨r, 1, none⟩ (.int .i64 0)).setCell ⟨r, 2, none⟩ (.int .i64 0)).cell? ⟨r, 0, none⟩ = some (.int .i64 0) := hs.c 0 _ rfl
        have y1 : (((w2.setCell ⟨r, 0, none⟩ (.int .i64 0)).setCell ⟨r, 1, none⟩ (.int .i64 0)).setCell ⟨r, 2, none⟩ (.int .i64 0)).cell? ⟨r, 1, none⟩ = some (.int .i64 0) := hs.c 1 _ rfl
        have y2 : (((w2.setCell ⟨r, 0, none⟩ (.int .i64 0)).setCell ⟨r, 1, none⟩ (.int .i64 0)).setCell ⟨r, 2, none⟩ (.int .i64 0)).cell? ⟨r, 2, none⟩ = some (.int .i64 0) := hs.c 2 _ rfl
        (try simp only [Exit.inBlock, Exit.then])
        refine bodyPost_ret (by simp [results, Try.results11, go_sem, y0, y1, y2]; try rfl) rfl ?_
        exact ⟨congrArg Ending.returned (nextT_bad 6 (by decide) (HE.out.trans (by rw [if_neg (by simp), if_neg (by simp), if_pos (by omega)]))).symm, set_below HB2.out (by assumption) [.int .i64 0, .int .i64 0, .int .i64 0]⟩
      · by_cases h2 : 17 < lv
        · have p_0 := HP2.out.c 0 _ rfl
          have p_1 := HP2.out.c 1 _ rfl
          have p_2 := HP2.out.c 2 _ rfl
          have p_3 := HP2.out.c 3 _ rfl
          have p_4 := HP2.out.c 4 _ rfl
          have p_5 := HP2.out.c 5 _ rfl
          have p_6 := HP2.out.c 6 _ rfl
          have p_7 := HP2.out.c 7 _ rfl
          have p_8 := HP2.out.c 8 _ rfl
          have p_9 := HP2.out.c 9 _ rfl
          have p_10 := HP2.out.c 10 _ rfl
          have p_11 := HP2.out.c 11 _ rfl
          have p_z := HP2.out.fz
          have o_0 := HO2.out.c 0 _ rfl
          have o_1 := HO2.out.c 1 _ rfl
          have o_2 := HO2.out.c 2 _ rfl
          have o_z := HO2.out.fz
          have q_0 := HQ2.out.c 0 _ rfl
          have q_1 := HQ2.out.c 1 _ rfl
          have q_2 := HQ2.out.c 2 _ rfl
          have q_z := HQ2.out.fz
          have s_0 := HS2.out.c 0 _ rfl
          have s_1 := HS2.out.c 1 _ rfl
          have s_2 := HS2.out.c 2 _ rfl
          have s_z := HS2.out.fz
          go_wp2_with fail
          have hs := (HS2.out).setRow [.int .i64 0, .int .i64 0, .int .i64 0] rfl
          have y0 : (((w2.setCell ⟨r, 0, none⟩ (.int .i64 0)).setCell ⟨r, 1, none⟩ (.int .i64 0)).setCell ⟨r, 2, none⟩ (.int .i64 0)).cell? ⟨r, 0, none⟩ = some (.int .i64 0) := hs.c 0 _ rfl
          have y1 : (((w2.setCell ⟨r, 0, none⟩ (.int .i64 0)).setCell ⟨r, 1, none⟩ (.int .i64 0)).setCell ⟨r, 2, none⟩ (.int .i64 0)).cell? ⟨r, 1, none⟩ = some (.int .i64 0) := hs.c 1 _ rfl
          have y2 : (((w2.setCell ⟨r, 0, none⟩ (.int .i64 0)).setCell ⟨r, 1, none⟩ (.int .i64 0)).setCell ⟨r, 2, none⟩ (.int .i64 0)).cell? ⟨r, 2, none⟩ = some (.int .i64 0) := hs.c 2 _ rfl
          (try simp only [Exit.inBlock, Exit.then])
          refine bodyPost_ret (by simp [results, Try.results11, go_sem, y0, y1, y2]; try rfl) rfl ?_
          exact ⟨congrArg Ending.returned (nextT_bad 6 (by decide) (HE.out.trans (by rw [if_neg (by simp), if_neg (by simp), if_neg (by omega), if_pos (by omega)]))).symm, set_below HB2.out (by assumption) [.int .i64 0, .int .i64 0, .int .i64 0]⟩
        · by_cases h3 : now < c
          · have p_0 := HP2.out.c 0 _ rfl
            have p_1 := HP2.out.c 1 _ rfl
            have p_2 := HP2.out.c 2 _ rfl
            have p_3 := HP2.out.c 3 _ rfl
            have p_4 := HP2.out.c 4 _ rfl
            have p_5 := HP2.out.c 5 _ rfl
            have p_6 := HP2.out.c 6 _ rfl
            have p_7 := HP2.out.c 7 _ rfl
            have p_8 := HP2.out.c 8 _ rfl
            have p_9 := HP2.out.c 9 _ rfl
            have p_10 := HP2.out.c 10 _ rfl
            have p_11 := HP2.out.c 11 _ rfl
            have p_z := HP2.out.fz
            have o_0 := HO2.out.c 0 _ rfl
            have o_1 := HO2.out.c 1 _ rfl
            have o_2 := HO2.out.c 2 _ rfl
            have o_z := HO2.out.fz
            have q_0 := HQ2.out.c 0 _ rfl
            have q_1 := HQ2.out.c 1 _ rfl
            have q_2 := HQ2.out.c 2 _ rfl
            have q_z := HQ2.out.fz
            have s_0 := HS2.out.c 0 _ rfl
            have s_1 := HS2.out.c 1 _ rfl
            have s_2 := HS2.out.c 2 _ rfl
            have s_z := HS2.out.fz
            go_wp2_with fail
            have hs := (HS2.out).setRow [.int .i64 0, .int .i64 0, .int .i64 0] rfl
            have y0 : (((w2.setCell ⟨r, 0, none⟩ (.int .i64 0)).setCell ⟨r, 1, none⟩ (.int .i64 0)).setCell ⟨r, 2, none⟩ (.int .i64 0)).cell? ⟨r, 0, none⟩ = some (.int .i64 0) := hs.c 0 _ rfl
            have y1 : (((w2.setCell ⟨r, 0, none⟩ (.int .i64 0)).setCell ⟨r, 1, none⟩ (.int .i64 0)).setCell ⟨r, 2, none⟩ (.int .i64 0)).cell? ⟨r, 1, none⟩ = some (.int .i64 0) := hs.c 1 _ rfl
            have y2 : (((w2.setCell ⟨r, 0, none⟩ (.int .i64 0)).setCell ⟨r, 1, none⟩ (.int .i64 0)).setCell ⟨r, 2, none⟩ (.int .i64 0)).cell? ⟨r, 2, none⟩ = some (.int .i64 0) := hs.c 2 _ rfl
            (try simp only [Exit.inBlock, Exit.then])
            refine bodyPost_ret (by simp [results, Try.results11, go_sem, y0, y1, y2]; try rfl) rfl ?_
            exact ⟨congrArg Ending.returned (nextT_bad 8 (by decide) (HE.out.trans (by rw [if_neg (by simp), if_neg (by simp), if_neg (by omega), if_neg (by omega), if_pos (by omega)]))).symm, set_below HB2.out (by assumption) [.int .i64 0, .int .i64 0, .int .i64 0]⟩
          · have HZ := Lib.hid (HE.out.trans (by rw [if_neg (by simp), if_neg (by simp), if_neg (by omega), if_neg (by omega), if_neg (by omega)]))
            clear HE
            have p_0 := HP2.out.c 0 _ rfl
            have p_1 := HP2.out.c 1 _ rfl
            have p_2 := HP2.out.c 2 _ rfl
            have p_3 := HP2.out.c 3 _ rfl
            have p_4 := HP2.out.c 4 _ rfl
            have p_5 := HP2.out.c 5 _ rfl
            have p_6 := HP2.out.c 6 _ rfl
            have p_7 := HP2.out.c 7 _ rfl
            have p_8 := HP2.out.c 8 _ rfl
            have p_9 := HP2.out.c 9 _ rfl
            have p_10 := HP2.out.c 10 _ rfl
            have p_11 := HP2.out.c 11 _ rfl
            have p_z := HP2.out.fz
            have o_0 := HO2.out.c 0 _ rfl
            have o_1 := HO2.out.c 1 _ rfl
            have o_2 := HO2.out.c 2 _ rfl
            have o_z := HO2.out.fz
            have q_0 := HQ2.out.c 0 _ rfl
            have q_1 := HQ2.out.c 1 _ rfl
            have q_2 := HQ2.out.c 2 _ rfl
            have q_z := HQ2.out.fz
            have s_0 := HS2.out.c 0 _ rfl
            have s_1 := HS2.out.c 1 _ rfl
            have s_2 := HS2.out.c 2 _ rfl
            have s_z := HS2.out.fz
            go_wp2_with fail
            refine (HC3.out _).mono ?_
            rintro e w3 ⟨rfl, hb⟩
            clear p_0 p_1 p_2 p_3 p_4 p_5 p_6 p_7 p_8 p_9 p_10 p_11 p_z
            clear o_0 o_1 o_2 o_z
            clear q_0 q_1 q_2 q_z
            clear s_0 s_1 s_2 s_z
            have HP3 := Lib.hid (HP2.out.keep hb)
            have HO3 := Lib.hid (HO2.out.keep hb)
            have HQ3 := Lib.hid (HQ2.out.keep hb)
            have HS3 := Lib.hid (HS2.out.keep hb)
            have HB3 := Lib.hid (HB2.out.trans (hb.mono HB2.out.size))
            clear hb HP2 HO2 HQ2 HS2 HB2
            have p_0 := HP3.out.c 0 _ rfl
            have p_1 := HP3.out.c 1 _ rfl
            have p_2 := HP3.out.c 2 _ rfl
            have p_3 := HP3.out.c 3 _ rfl
            have p_4 := HP3.out.c 4 _ rfl
            have p_5 := HP3.out.c 5 _ rfl
            have p_6 := HP3.out.c 6 _ rfl
            have p_7 := HP3.out.c 7 _ rfl
            have p_8 := HP3.out.c 8 _ rfl
            have p_9 := HP3.out.c 9 _ rfl
            have p_10 := HP3.out.c 10 _ rfl
            have p_11 := HP3.out.c 11 _ rfl
            have p_z := HP3.out.fz
            have o_0 := HO3.out.c 0 _ rfl
            have o_1 := HO3.out.c 1 _ rfl
            have o_2 := HO3.out.c 2 _ rfl
            have o_z := HO3.out.fz
            have q_0 := HQ3.out.c 0 _ rfl
            have q_1 := HQ3.out.c 1 _ rfl
            have q_2 := HQ3.out.c 2 _ rfl
            have q_z := HQ3.out.fz
            have s_0 := HS3.out.c 0 _ rfl
            have s_1 := HS3.out.c 1 _ rfl
            have s_2 := HS3.out.c 2 _ rfl
            have s_z := HS3.out.fz
            cases Z
            · by_cases h6 : vk = k
              · subst h6
                by_cases h7 : vn = n
                · subst h7
                  go_wp2_with fail
                  have hs := (HS3.out).setRow [.int .i64 vk, .int .i64 vn, .int .i64 c] rfl
                  have y0 : (((w3.setCell ⟨r, 0, none⟩ (.int .i64 vk)).setCell ⟨r, 1, none⟩ (.int .i64 vn)).setCell ⟨r, 2, none⟩ (.int .i64 c)).cell? ⟨r, 0, none⟩ = some (.int .i64 vk) := hs.c 0 _ rfl
                  have y1 : (((w3.setCell ⟨r, 0, none⟩ (.int .i64 vk)).setCell ⟨r, 1, none⟩ (.int .i64 vn)).setCell ⟨r, 2, none⟩ (.int .i64 c)).cell? ⟨r, 1, none⟩ = some (.int .i64 vn) := hs.c 1 _ rfl
                  have y2 : (((w3.setCell ⟨r, 0, none⟩ (.int .i64 vk)).setCell ⟨r, 1, none⟩ (.int .i64 vn)).setCell ⟨r, 2, none⟩ (.int .i64 c)).cell? ⟨r, 2, none⟩ = some (.int .i64 c) := hs.c 2 _ rfl
                  (try simp only [Exit.inBlock, Exit.then])
                  refine bodyPost_ret (by simp [results, Try.results11, go_sem, y0, y1, y2]; try rfl) rfl ?_
                  exact ⟨congrArg Ending.returned (nextT_old HZ.out (HV.out.trans (by split <;> rfl))).symm, set_below HB3.out (by assumption) [.int .i64 vk, .int .i64 vn, .int .i64 c]⟩
                · go_wp2_with fail
                  have hs := (HS3.out).setRow [.int .i64 vk, .int .i64 vn, .int .i64 now] rfl
                  have y0 : (((w3.setCell ⟨r, 0, none⟩ (.int .i64 vk)).setCell ⟨r, 1, none⟩ (.int .i64 vn)).setCell ⟨r, 2, none⟩ (.int .i64 now)).cell? ⟨r, 0, none⟩ = some (.int .i64 vk) := hs.c 0 _ rfl
                  have y1 : (((w3.setCell ⟨r, 0, none⟩ (.int .i64 vk)).setCell ⟨r, 1, none⟩ (.int .i64 vn)).setCell ⟨r, 2, none⟩ (.int .i64 now)).cell? ⟨r, 1, none⟩ = some (.int .i64 vn) := hs.c 1 _ rfl
                  have y2 : (((w3.setCell ⟨r, 0, none⟩ (.int .i64 vk)).setCell ⟨r, 1, none⟩ (.int .i64 vn)).setCell ⟨r, 2, none⟩ (.int .i64 now)).cell? ⟨r, 2, none⟩ = some (.int .i64 now) := hs.c 2 _ rfl
                  (try simp only [Exit.inBlock, Exit.then])
                  refine bodyPost_ret (by simp [results, Try.results11, go_sem, y0, y1, y2]; try rfl) rfl ?_
                  exact ⟨congrArg Ending.returned (nextT_to HZ.out (HV.out.trans (if_neg (by simp))) (fun e => h7 (congrArg Prod.snd e))).symm, set_below HB3.out (by assumption) [.int .i64 vk, .int .i64 vn, .int .i64 now]⟩
              · go_wp2_with fail
                have hs := (HS3.out).setRow [.int .i64 vk, .int .i64 vn, .int .i64 now] rfl
                have y0 : (((w3.setCell ⟨r, 0, none⟩ (.int .i64 vk)).setCell ⟨r, 1, none⟩ (.int .i64 vn)).setCell ⟨r, 2, none⟩ (.int .i64 now)).cell? ⟨r, 0, none⟩ = some (.int .i64 vk) := hs.c 0 _ rfl
                have y1 : (((w3.setCell ⟨r, 0, none⟩ (.int .i64 vk)).setCell ⟨r, 1, none⟩ (.int .i64 vn)).setCell ⟨r, 2, none⟩ (.int .i64 now)).cell? ⟨r, 1, none⟩ = some (.int .i64 vn) := hs.c 1 _ rfl
                have y2 : (((w3.setCell ⟨r, 0, none⟩ (.int .i64 vk)).setCell ⟨r, 1, none⟩ (.int .i64 vn)).setCell ⟨r, 2, none⟩ (.int .i64 now)).cell? ⟨r, 2, none⟩ = some (.int .i64 now) := hs.c 2 _ rfl
                (try simp only [Exit.inBlock, Exit.then])
                refine bodyPost_ret (by simp [results, Try.results11, go_sem, y0, y1, y2]; try rfl) rfl ?_
                exact ⟨congrArg Ending.returned (nextT_to HZ.out (HV.out.trans (if_neg (by simp))) (fun e => h6 (congrArg Prod.fst e))).symm, set_below HB3.out (by assumption) [.int .i64 vk, .int .i64 vn, .int .i64 now]⟩
            · by_cases h5 : 5 < lv
              · go_wp2_with fail
                have hs := (HS3.out).setRow [.int .i64 k, .int .i64 n, .int .i64 c] rfl
                have y0 : (((w3.setCell ⟨r, 0, none⟩ (.int .i64 k)).setCell ⟨r, 1, none⟩ (.int .i64 n)).setCell ⟨r, 2, none⟩ (.int .i64 c)).cell? ⟨r, 0, none⟩ = some (.int .i64 k) := hs.c 0 _ rfl
                have y1 : (((w3.setCell ⟨r, 0, none⟩ (.int .i64 k)).setCell ⟨r, 1, none⟩ (.int .i64 n)).setCell ⟨r, 2, none⟩ (.int .i64 c)).cell? ⟨r, 1, none⟩ = some (.int .i64 n) := hs.c 1 _ rfl
                have y2 : (((w3.setCell ⟨r, 0, none⟩ (.int .i64 k)).setCell ⟨r, 1, none⟩ (.int .i64 n)).setCell ⟨r, 2, none⟩ (.int .i64 c)).cell? ⟨r, 2, none⟩ = some (.int .i64 c) := hs.c 2 _ rfl
                (try simp only [Exit.inBlock, Exit.then])
                refine bodyPost_ret (by simp [results, Try.results11, go_sem, y0, y1, y2]; try rfl) rfl ?_
                exact ⟨congrArg Ending.returned (nextT_old HZ.out (HV.out.trans (if_pos ⟨by omega, by trivial⟩))).symm, set_below HB3.out (by assumption) [.int .i64 k, .int .i64 n, .int .i64 c]⟩
              · by_cases h6 : vk = k
                · subst h6
                  by_cases h7 : vn = n
                  · subst h7
                    go_wp2_with fail
                    have hs := (HS3.out).setRow [.int .i64 vk, .int .i64 vn, .int .i64 c] rfl
                    have y0 : (((w3.setCell ⟨r, 0, none⟩ (.int .i64 vk)).setCell ⟨r, 1, none⟩ (.int .i64 vn)).setCell ⟨r, 2, none⟩ (.int .i64 c)).cell? ⟨r, 0, none⟩ = some (.int .i64 vk) := hs.c 0 _ rfl
                    have y1 : (((w3.setCell ⟨r, 0, none⟩ (.int .i64 vk)).setCell ⟨r, 1, none⟩ (.int .i64 vn)).setCell ⟨r, 2, none⟩ (.int .i64 c)).cell? ⟨r, 1, none⟩ = some (.int .i64 vn) := hs.c 1 _ rfl
                    have y2 : (((w3.setCell ⟨r, 0, none⟩ (.int .i64 vk)).setCell ⟨r, 1, none⟩ (.int .i64 vn)).setCell ⟨r, 2, none⟩ (.int .i64 c)).cell? ⟨r, 2, none⟩ = some (.int .i64 c) := hs.c 2 _ rfl
                    (try simp only [Exit.inBlock, Exit.then])
                    refine bodyPost_ret (by simp [results, Try.results11, go_sem, y0, y1, y2]; try rfl) rfl ?_
                    exact ⟨congrArg Ending.returned (nextT_old HZ.out (HV.out.trans (by split <;> rfl))).symm, set_below HB3.out (by assumption) [.int .i64 vk, .int .i64 vn, .int .i64 c]⟩
                  · go_wp2_with fail
                    have hs := (HS3.out).setRow [.int .i64 vk, .int .i64 vn, .int .i64 now] rfl
                    have y0 : (((w3.setCell ⟨r, 0, none⟩ (.int .i64 vk)).setCell ⟨r, 1, none⟩ (.int .i64 vn)).setCell ⟨r, 2, none⟩ (.int .i64 now)).cell? ⟨r, 0, none⟩ = some (.int .i64 vk) := hs.c 0 _ rfl
                    have y1 : (((w3.setCell ⟨r, 0, none⟩ (.int .i64 vk)).setCell ⟨r, 1, none⟩ (.int .i64 vn)).setCell ⟨r, 2, none⟩ (.int .i64 now)).cell? ⟨r, 1, none⟩ = some (.int .i64 vn) := hs.c 1 _ rfl
                    have y2 : (((w3.setCell ⟨r, 0, none⟩ (.int .i64 vk)).setCell ⟨r, 1, none⟩ (.int .i64 vn)).setCell ⟨r, 2, none⟩ (.int .i64 now)).cell? ⟨r, 2, none⟩ = some (.int .i64 now) := hs.c 2 _ rfl
                    (try simp only [Exit.inBlock, Exit.then])
                    refine bodyPost_ret (by simp [results, Try.results11, go_sem, y0, y1, y2]; try rfl) rfl ?_
                    exact ⟨congrArg Ending.returned (nextT_to HZ.out (HV.out.trans (if_neg (by omega))) (fun e => h7 (congrArg Prod.snd e))).symm, set_below HB3.out (by assumption) [.int .i64 vk, .int .i64 vn, .int .i64 now]⟩
                · go_wp2_with fail
                  have hs := (HS3.out).setRow [.int .i64 vk, .int .i64 vn, .int .i64 now] rfl
                  have y0 : (((w3.setCell ⟨r, 0, none⟩ (.int .i64 vk)).setCell ⟨r, 1, none⟩ (.int .i64 vn)).setCell ⟨r, 2, none⟩ (.int .i64 now)).cell? ⟨r, 0, none⟩ = some (.int .i64 vk) := hs.c 0 _ rfl
                  have y1 : (((w3.setCell ⟨r, 0, none⟩ (.int .i64 vk)).setCell ⟨r, 1, none⟩ (.int .i64 vn)).setCell ⟨r, 2, none⟩ (.int .i64 now)).cell? ⟨r, 1, none⟩ = some (.int .i64 vn) := hs.c 1 _ rfl
                  have y2 : (((w3.setCell ⟨r, 0, none⟩ (.int .i64 vk)).setCell ⟨r, 1, none⟩ (.int .i64 vn)).setCell ⟨r, 2, none⟩ (.int .i64 now)).cell? ⟨r, 2, none⟩ = some (.int .i64 now) := hs.c 2 _ rfl
                  (try simp only [Exit.inBlock, Exit.then])
                  refine bodyPost_ret (by simp [results, Try.results11, go_sem, y0, y1, y2]; try rfl) rfl ?_
                  exact ⟨congrArg Ending.returned (nextT_to HZ.out (HV.out.trans (if_neg (by omega))) (fun e => h6 (congrArg Prod.fst e))).symm, set_below HB3.out (by assumption) [.int .i64 vk, .int .i64 vn, .int .i64 now]⟩
end Go.Proofs.Ytlmcdnfihgimjaa
