/- Contracts of checkRequest, Value, Next and the specification's Next. -/
import Derived.Test.YtlmcdnfihgimjaaB
namespace Go.Proofs.Ytlmcdnfihgimjaa
open Go.RowKit

def errR (p : Pt) (k n c lv vk vn now : Int) : Int := if isP p k n = false then 11 else if isP p vk vn = false then 11 else if lv < 1 then 6 else if 17 < lv then 6 else if now < c then 8 else 0
def valR (p : Pt) (k n c lv vk vn now : Int) : Int × Int := if 5 < lv ∧ heldP p k n c now = true then (k, n) else (vk, vn)
def nextR (p : Pt) (k n c lv vk vn now : Int) : Int × Int × Int := if valR p k n c lv vk vn now = (k, n) then (k, n, c) else ((valR p k n c lv vk vn now).1, (valR p k n c lv vk vn now).2, now)
def valT (p : Pt) (k n c lv vk vn now : Int) : Value := if errR p k n c lv vk vn now = 0 then .tuple #[.agg #[.int .i64 (valR p k n c lv vk vn now).1, .int .i64 (valR p k n c lv vk vn now).2], .int .i64 0] else .tuple #[.agg #[.int .i64 0, .int .i64 0], .int .i64 (errR p k n c lv vk vn now)]
def nextT (p : Pt) (k n c lv vk vn now : Int) : Value := if errR p k n c lv vk vn now = 0 then .tuple #[.agg #[.int .i64 (nextR p k n c lv vk vn now).1, .int .i64 (nextR p k n c lv vk vn now).2.1, .int .i64 (nextR p k n c lv vk vn now).2.2], .int .i64 0] else .tuple #[.agg #[.int .i64 0, .int .i64 0, .int .i64 0], .int .i64 (errR p k n c lv vk vn now)]

set_option maxHeartbeats 4000000 in
set_option maxRecDepth 100000 in
theorem check_any (p : Pt) (k n c lv vk vn now : Int) (w : World) : Calls Try.prog 21 #[ptV p, .agg #[.int .i64 k, .int .i64 n, .int .i64 c], .agg #[.int .i64 lv, .int .i64 vk, .int .i64 vn], .int .i64 now] w fun e w' => e = .returned (.int .i64 (errR p k n c lv vk vn now)) ∧ Below w.heap.size w w' := by
  obtain ⟨nm, kd, rl, un, lo, hi, st, ss, dk, dn, on, off⟩ := p
  obtain ⟨Z1, hZ1⟩ : ∃ Z, Z = isP ⟨nm, kd, rl, un, lo, hi, st, ss, dk, dn, on, off⟩ k n := ⟨_, rfl⟩
  obtain ⟨Z2, hZ2⟩ : ∃ Z, Z = isP ⟨nm, kd, rl, un, lo, hi, st, ss, dk, dn, on, off⟩ vk vn := ⟨_, rfl⟩
  have hc1 := fun w => isOf_any ⟨nm, kd, rl, un, lo, hi, st, ss, dk, dn, on, off⟩ k n w
  have hc2 := fun w => isOf_any ⟨nm, kd, rl, un, lo, hi, st, ss, dk, dn, on, off⟩ vk vn w
  rw [← hZ1] at hc1
  rw [← hZ2] at hc2
  have HC1 := Lib.hid hc1
  have HC2 := Lib.hid hc2
  have HE := Lib.hid (show errR ⟨nm, kd, rl, un, lo, hi, st, ss, dk, dn, on, off⟩ k n c lv vk vn now = if Z1 = false then 11 else if Z2 = false then 11 else if lv < 1 then 6 else if 17 < lv then 6 else if now < c then 8 else 0 by rw [hZ1, hZ2]; rfl)
  clear hc1 hc2 hZ1 hZ2
  obtain ⟨W, g, h, q, hW, hg, hh, hq, RP, RO, RQ, B, sz⟩ := box3 w #[nm, .int .i64 kd, .int .i64 rl, un, lo, hi, st, ss, dk, dn, .int .i64 on, .int .i64 off] 26 #[.int .i64 k, .int .i64 n, .int .i64 c] 28 #[.int .i64 lv, .int .i64 vk, .int .i64 vn] 30
  go_enter Try.func21, Try.ntmps21
  go_wp2_with fail
  rw [← hW]
  try rw [← hq]
  try rw [← hh]
  try rw [← hg]
  have hwg : w.heap.size ≤ g := by omega
  have hwh : w.heap.size ≤ h := by omega
  have HP0 := Lib.hid RP
  have HO0 := Lib.hid RO
  have HQ0 := Lib.hid RQ
  have HB0 := Lib.hid B
  clear hW hg hh hq sz B RP RO RQ
  have p_0 := HP0.out.c 0 _ rfl
  have p_1 := HP0.out.c 1 _ rfl
  have p_2 := HP0.out.c 2 _ rfl
  have p_3 := HP0.out.c 3 _ rfl
  have p_4 := HP0.out.c 4 _ rfl
  have p_5 := HP0.out.c 5 _ rfl
  have p_6 := HP0.out.c 6 _ rfl
  have p_7 := HP0.out.c 7 _ rfl
  have p_8 := HP0.out.c 8 _ rfl
  have p_9 := HP0.out.c 9 _ rfl
  have p_10 := HP0.out.c 10 _ rfl
  have p_11 := HP0.out.c 11 _ rfl
  have p_z := HP0.out.fz
  have o_0 := HO0.out.c 0 _ rfl
  have o_1 := HO0.out.c 1 _ rfl
  have o_2 := HO0.out.c 2 _ rfl
  have o_z := HO0.out.fz
  go_wp2_with fail
  refine (HC1.out _).mono ?_
  rintro e w1 ⟨rfl, hb⟩
  clear p_0 p_1 p_2 p_3 p_4 p_5 p_6 p_7 p_8 p_9 p_10 p_11 p_z
  clear o_0 o_1 o_2 o_z
  have HP1 := Lib.hid (HP0.out.keep hb)
  have HO1 := Lib.hid (HO0.out.keep hb)
  have HQ1 := Lib.hid (HQ0.out.keep hb)
  have HB1 := Lib.hid (HB0.out.trans (hb.mono HB0.out.size))
  clear hb HP0 HO0 HQ0 HB0
  cases Z1
  · have p_0 := HP1.out.c 0 _ rfl
    have p_1 := HP1.out.c 1 _ rfl
    have p_2 := HP1.out.c 2 _ rfl
    have p_3 := HP1.out.c 3 _ rfl
    have p_4 := HP1.out.c 4 _ rfl
    have p_5 := HP1.out.c 5 _ rfl
    have p_6 := HP1.out.c 6 _ rfl
    have p_7 := HP1.out.c 7 _ rfl
    have p_8 := HP1.out.c 8 _ rfl
    have p_9 := HP1.out.c 9 _ rfl
    have p_10 := HP1.out.c 10 _ rfl
    have p_11 := HP1.out.c 11 _ rfl
    have p_z := HP1.out.fz
    have o_0 := HO1.out.c 0 _ rfl
    have o_1 := HO1.out.c 1 _ rfl
    have o_2 := HO1.out.c 2 _ rfl
    have o_z := HO1.out.fz
    have q_0 := HQ1.out.c 0 _ rfl
    have q_1 := HQ1.out.c 1 _ rfl
    have q_2 := HQ1.out.c 2 _ rfl
    have q_z := HQ1.out.fz
    go_wp2_with fail
    go_ret
    exact ⟨congrArg (fun x => Ending.returned (.int .i64 x)) (HE.out.trans (by simp)).symm, HB1.out⟩
  · have p_0 := HP1.out.c 0 _ rfl
    have p_1 := HP1.out.c 1 _ rfl
    have p_2 := HP1.out.c 2 _ rfl
    have p_3 := HP1.out.c 3 _ rfl
    have p_4 := HP1.out.c 4 _ rfl
    have p_5 := HP1.out.c 5 _ rfl
    have p_6 := HP1.out.c 6 _ rfl
    have p_7 := HP1.out.c 7 _ rfl
    have p_8 := HP1.out.c 8 _ rfl
    have p_9 := HP1.out.c 9 _ rfl
    have p_10 := HP1.out.c 10 _ rfl
    have p_11 := HP1.out.c 11 _ rfl
    have p_z := HP1.out.fz
    have q_0 := HQ1.out.c 0 _ rfl
    have q_1 := HQ1.out.c 1 _ rfl
    have q_2 := HQ1.out.c 2 _ rfl
    have q_z := HQ1.out.fz
    go_wp2_with fail
    refine (HC2.out _).mono ?_
    rintro e w2 ⟨rfl, hb⟩
    clear p_0 p_1 p_2 p_3 p_4 p_5 p_6 p_7 p_8 p_9 p_10 p_11 p_z
    clear q_0 q_1 q_2 q_z
    have HP2 := Lib.hid (HP1.out.keep hb)
    have HO2 := Lib.hid (HO1.out.keep hb)
    have HQ2 := Lib.hid (HQ1.out.keep hb)
    have HB2 := Lib.hid (HB1.out.trans (hb.mono HB1.out.size))
    clear hb HP1 HO1 HQ1 HB1
    cases Z2
    · have p_0 := HP2.out.c 0 _ rfl
      have p_1 := HP2.out.c 1 _ rfl
      have p_2 := HP2.out.c 2 _ rfl
      have p_3 := HP2.out.c 3 _ rfl
      have p_4 := HP2.out.c 4 _ rfl
      have p_5 := HP2.out.c 5 _ rfl
      have p_6 := HP2.out.c 6 _ rfl
      have p_7 := HP2.out.c 7 _ rfl
      have p_8 := HP2.out.c 8 _ rfl
      have p_9 := HP2.out.c 9 _ rfl
      have p_10 := HP2.out.c 10 _ rfl
      have p_11 := HP2.out.c 11 _ rfl
      have p_z := HP2.out.fz
      have o_0 := HO2.out.c 0 _ rfl
      have o_1 := HO2.out.c 1 _ rfl
      have o_2 := HO2.out.c 2 _ rfl
      have o_z := HO2.out.fz
      have q_0 := HQ2.out.c 0 _ rfl
      have q_1 := HQ2.out.c 1 _ rfl
      have q_2 := HQ2.out.c 2 _ rfl
      have q_z := HQ2.out.fz
      go_wp2_with fail
      go_ret
      exact ⟨congrArg (fun x => Ending.returned (.int .i64 x)) (HE.out.trans (by simp)).symm, HB2.out⟩
    · have p_0 := HP2.out.c 0 _ rfl
      have p_1 := HP2.out.c 1 _ rfl
      have p_2 := HP2.out.c 2 _ rfl
      have p_3 := HP2.out.c 3 _ rfl
      have p_4 := HP2.out.c 4 _ rfl
      have p_5 := HP2.out.c 5 _ rfl
      have p_6 := HP2.out.c 6 _ rfl
      have p_7 := HP2.out.c 7 _ rfl
      have p_8 := HP2.out.c 8 _ rfl
      have p_9 := HP2.out.c 9 _ rfl
      have p_10 := HP2.out.c 10 _ rfl
      have p_11 := HP2.out.c 11 _ rfl
      have p_z := HP2.out.fz
      have o_0 := HO2.out.c 0 _ rfl
      have o_1 := HO2.out.c 1 _ rfl
      have o_2 := HO2.out.c 2 _ rfl
      have o_z := HO2.out.fz
      have q_0 := HQ2.out.c 0 _ rfl
      have q_1 := HQ2.out.c 1 _ rfl
      have q_2 := HQ2.out.c 2 _ rfl
      have q_z := HQ2.out.fz
      by_cases h1 : lv < 1
      · go_wp2_with fail
        go_ret
        exact ⟨congrArg (fun x => Ending.returned (.int .i64 x)) (HE.out.trans (by rw [if_neg (by simp), if_neg (by simp), if_pos (by omega)])).symm, HB2.out⟩
      · by_cases h2 : 17 < lv
        · go_wp2_with fail
          go_ret
          exact ⟨congrArg (fun x => Ending.returned (.int .i64 x)) (HE.out.trans (by rw [if_neg (by simp), if_neg (by simp), if_neg (by omega), if_pos (by omega)])).symm, HB2.out⟩
        · by_cases h3 : now < c
          · go_wp2_with fail
            go_ret
            exact ⟨congrArg (fun x => Ending.returned (.int .i64 x)) (HE.out.trans (by rw [if_neg (by simp), if_neg (by simp), if_neg (by omega), if_neg (by omega), if_pos (by omega)])).symm, HB2.out⟩
          · go_wp2_with fail
            go_ret
            exact ⟨congrArg (fun x => Ending.returned (.int .i64 x)) (HE.out.trans (by rw [if_neg (by simp), if_neg (by simp), if_neg (by omega), if_neg (by omega), if_neg (by omega)])).symm, HB2.out⟩

theorem valT_err {p : Pt} {k n c lv vk vn now : Int} (h : errR p k n c lv vk vn now ≠ 0) : valT p k n c lv vk vn now = .tuple #[.agg #[.int .i64 0, .int .i64 0], .int .i64 (errR p k n c lv vk vn now)] := if_neg h
theorem valT_old {p : Pt} {k n c lv vk vn now : Int} (h : errR p k n c lv vk vn now = 0) (h5 : 5 < lv) (hz : heldP p k n c now = true) : valT p k n c lv vk vn now = .tuple #[.agg #[.int .i64 k, .int .i64 n], .int .i64 0] := by
  have e : valR p k n c lv vk vn now = (k, n) := if_pos ⟨h5, hz⟩
  unfold valT; rw [if_pos h, e]
theorem valT_new {p : Pt} {k n c lv vk vn now : Int} (h : errR p k n c lv vk vn now = 0) (h5 : ¬ 5 < lv ∨ heldP p k n c now = false) : valT p k n c lv vk vn now = .tuple #[.agg #[.int .i64 vk, .int .i64 vn], .int .i64 0] := by
  have e : valR p k n c lv vk vn now = (vk, vn) := if_neg (by rintro ⟨a, b⟩; rcases h5 with h5 | h5; exact h5 a; rw [h5] at b; cases b)
  unfold valT; rw [if_pos h, e]
theorem nextT_err {p : Pt} {k n c lv vk vn now : Int} (h : errR p k n c lv vk vn now ≠ 0) : nextT p k n c lv vk vn now = .tuple #[.agg #[.int .i64 0, .int .i64 0, .int .i64 0], .int .i64 (errR p k n c lv vk vn now)] := if_neg h
theorem nextT_old {p : Pt} {k n c lv vk vn now : Int} (h : errR p k n c lv vk vn now = 0) (h5 : valR p k n c lv vk vn now = (k, n)) : nextT p k n c lv vk vn now = .tuple #[.agg #[.int .i64 k, .int .i64 n, .int .i64 c], .int .i64 0] := by
  have e : nextR p k n c lv vk vn now = (k, n, c) := if_pos h5
  unfold nextT; rw [if_pos h, e]
theorem nextT_new {p : Pt} {k n c lv vk vn now : Int} (h : errR p k n c lv vk vn now = 0) (h5 : valR p k n c lv vk vn now ≠ (k, n)) : nextT p k n c lv vk vn now = .tuple #[.agg #[.int .i64 (valR p k n c lv vk vn now).1, .int .i64 (valR p k n c lv vk vn now).2, .int .i64 now], .int .i64 0] := by
  have e : nextR p k n c lv vk vn now = ((valR p k n c lv vk vn now).1, (valR p k n c lv vk vn now).2, now) := if_neg h5
  unfold nextT; rw [if_pos h, e]

set_option maxHeartbeats 4000000 in
set_option maxRecDepth 100000 in
theorem value_any (p : Pt) (k n c lv vk vn now : Int) (w : World) : Calls Try.prog 9 #[ptV p, .agg #[.int .i64 k, .int .i64 n, .int .i64 c], .agg #[.int .i64 lv, .int .i64 vk, .int .i64 vn], .int .i64 now] w fun e w' => e = .returned (valT p k n c lv vk vn now) ∧ Below w.heap.size w w' := by
  obtain ⟨nm, kd, rl, un, lo, hi, st, ss, dk, dn, on, off⟩ := p
  obtain ⟨E, hE⟩ : ∃ E, E = errR ⟨nm, kd, rl, un, lo, hi, st, ss, dk, dn, on, off⟩ k n c lv vk vn now := ⟨_, rfl⟩
  obtain ⟨Z, hZ⟩ : ∃ Z, Z = heldP ⟨nm, kd, rl, un, lo, hi, st, ss, dk, dn, on, off⟩ k n c now := ⟨_, rfl⟩
  have hc := fun w => check_any ⟨nm, kd, rl, un, lo, hi, st, ss, dk, dn, on, off⟩ k n c lv vk vn now w
  have hh := fun w => held_any ⟨nm, kd, rl, un, lo, hi, st, ss, dk, dn, on, off⟩ k n c now w
  rw [← hE] at hc
  rw [← hZ] at hh
  have HC := Lib.hid hc
  have HH := Lib.hid hh
  have HE := Lib.hid hE
  have HZ := Lib.hid hZ
  clear hc hh hE hZ
  obtain ⟨W, g, h, q, r, hW, hg, hh, hq, hr, RP, RO, RQ, RS, B, sz⟩ := box4 w #[nm, .int .i64 kd, .int .i64 rl, un, lo, hi, st, ss, dk, dn, .int .i64 on, .int .i64 off] 26 #[.int .i64 k, .int .i64 n, .int .i64 c] 28 #[.int .i64 lv, .int .i64 vk, .int .i64 vn] 30 #[.int .i64 0, .int .i64 0] 24
  go_enter Try.func9, Try.ntmps9
  go_wp2_with fail
  rw [← hW]
  try rw [← hr]
  try rw [← hq]
  try rw [← hh]
  try rw [← hg]
  have hwg : w.heap.size ≤ g := by omega
  have hwh : w.heap.size ≤ h := by omega
  have hwr : w.heap.size ≤ r := by omega
  have hgr : r ≠ g := by omega
  have hhr : r ≠ h := by omega
  have hhg : h ≠ g := by omega
  have HP0 := Lib.hid RP
  have HO0 := Lib.hid RO
  have HQ0 := Lib.hid RQ
  have HS0 := Lib.hid RS
  have HB0 := Lib.hid B
  clear hW hg hh hq hr sz B RP RO RQ RS
  have p_0 := HP0.out.c 0 _ rfl
  have p_1 := HP0.out.c 1 _ rfl
  have p_2 := HP0.out.c 2 _ rfl
  have p_3 := HP0.out.c 3 _ rfl
  have p_4 := HP0.out.c 4 _ rfl
  have p_5 := HP0.out.c 5 _ rfl
  have p_6 := HP0.out.c 6 _ rfl
  have p_7 := HP0.out.c 7 _ rfl
  have p_8 := HP0.out.c 8 _ rfl
  have p_9 := HP0.out.c 9 _ rfl
  have p_10 := HP0.out.c 10 _ rfl
  have p_11 := HP0.out.c 11 _ rfl
  have p_z := HP0.out.fz
  have o_0 := HO0.out.c 0 _ rfl
  have o_1 := HO0.out.c 1 _ rfl
  have o_2 := HO0.out.c 2 _ rfl
  have o_z := HO0.out.fz
  have q_0 := HQ0.out.c 0 _ rfl
  have q_1 := HQ0.out.c 1 _ rfl
  have q_2 := HQ0.out.c 2 _ rfl
  have q_z := HQ0.out.fz
  go_wp2_with fail
  refine (HC.out _).mono ?_
  rintro e w1 ⟨rfl, hb⟩
  clear p_0 p_1 p_2 p_3 p_4 p_5 p_6 p_7 p_8 p_9 p_10 p_11 p_z
  clear o_0 o_1 o_2 o_z
  clear q_0 q_1 q_2 q_z
  have HP1 := Lib.hid (HP0.out.keep hb)
  have HO1 := Lib.hid (HO0.out.keep hb)
  have HQ1 := Lib.hid (HQ0.out.keep hb)
  have HS1 := Lib.hid (HS0.out.keep hb)
  have HB1 := Lib.hid (HB0.out.trans (hb.mono HB0.out.size))
  clear hb HP0 HO0 HQ0 HS0 HB0
  by_cases he : E = 0
  · subst he
    have p_0 := HP1.out.c 0 _ rfl
    have p_1 := HP1.out.c 1 _ rfl
    have p_2 := HP1.out.c 2 _ rfl
    have p_3 := HP1.out.c 3 _ rfl
    have p_4 := HP1.out.c 4 _ rfl
    have p_5 := HP1.out.c 5 _ rfl
    have p_6 := HP1.out.c 6 _ rfl
    have p_7 := HP1.out.c 7 _ rfl
    have p_8 := HP1.out.c 8 _ rfl
    have p_9 := HP1.out.c 9 _ rfl
    have p_10 := HP1.out.c 10 _ rfl
    have p_11 := HP1.out.c 11 _ rfl
    have p_z := HP1.out.fz
    have o_0 := HO1.out.c 0 _ rfl
    have o_1 := HO1.out.c 1 _ rfl
    have o_2 := HO1.out.c 2 _ rfl
    have o_z := HO1.out.fz
    have q_0 := HQ1.out.c 0 _ rfl
    have q_1 := HQ1.out.c 1 _ rfl
    have q_2 := HQ1.out.c 2 _ rfl
    have q_z := HQ1.out.fz
    have s_0 := HS1.out.c 0 _ rfl
    have s_1 := HS1.out.c 1 _ rfl
    have s_z := HS1.out.fz
    by_cases h5 : 5 < lv
    · go_wp2_with fail
      refine (HH.out _).mono ?_
      rintro e w2 ⟨rfl, hb⟩
      clear p_0 p_1 p_2 p_3 p_4 p_5 p_6 p_7 p_8 p_9 p_10 p_11 p_z
      clear o_0 o_1 o_2 o_z
      clear q_0 q_1 q_2 q_z
      clear s_0 s_1 s_z
      have HP2 := Lib.hid (HP1.out.keep hb)
      have HO2 := Lib.hid (HO1.out.keep hb)
      have HQ2 := Lib.hid (HQ1.out.keep hb)
      have HS2 := Lib.hid (HS1.out.keep hb)
      have HB2 := Lib.hid (HB1.out.trans (hb.mono HB1.out.size))
      clear hb HP1 HO1 HQ1 HS1 HB1
      have p_0 := HP2.out.c 0 _ rfl
      have p_1 := HP2.out.c 1 _ rfl
      have p_2 := HP2.out.c 2 _ rfl
      have p_3 := HP2.out.c 3 _ rfl
      have p_4 := HP2.out.c 4 _ rfl
      have p_5 := HP2.out.c 5 _ rfl
      have p_6 := HP2.out.c 6 _ rfl
      have p_7 := HP2.out.c 7 _ rfl
      have p_8 := HP2.out.c 8 _ rfl
      have p_9 := HP2.out.c 9 _ rfl
      have p_10 := HP2.out.c 10 _ rfl
      have p_11 := HP2.out.c 11 _ rfl
      have p_z := HP2.out.fz
      have o_0 := HO2.out.c 0 _ rfl
      have o_1 := HO2.out.c 1 _ rfl
      have o_2 := HO2.out.c 2 _ rfl
      have o_z := HO2.out.fz
      have q_0 := HQ2.out.c 0 _ rfl
      have q_1 := HQ2.out.c 1 _ rfl
      have q_2 := HQ2.out.c 2 _ rfl
      have q_z := HQ2.out.fz
      have s_0 := HS2.out.c 0 _ rfl
      have s_1 := HS2.out.c 1 _ rfl
      have s_z := HS2.out.fz
      cases Z
      · go_wp2_with fail
        have hs := (HS2.out).setRow [.int .i64 vk, .int .i64 vn] rfl
        have y0 : ((w2.setCell ⟨r, 0, none⟩ (.int .i64 vk)).setCell ⟨r, 1, none⟩ (.int .i64 vn)).cell? ⟨r, 0, none⟩ = some (.int .i64 vk) := hs.c 0 _ rfl
        have y1 : ((w2.setCell ⟨r, 0, none⟩ (.int .i64 vk)).setCell ⟨r, 1, none⟩ (.int .i64 vn)).cell? ⟨r, 1, none⟩ = some (.int .i64 vn) := hs.c 1 _ rfl
        (try simp only [Exit.inBlock, Exit.then])
        refine bodyPost_ret (by simp [results, Try.results9, go_sem, y0, y1]; try rfl) rfl ?_
        exact ⟨congrArg Ending.returned (valT_new HE.out.symm (.inr HZ.out.symm)).symm, set_below HB2.out (by assumption) [.int .i64 vk, .int .i64 vn]⟩
      · go_wp2_with fail
        have hs := (HS2.out).setRow [.int .i64 k, .int .i64 n] rfl
        have y0 : ((w2.setCell ⟨r, 0, none⟩ (.int .i64 k)).setCell ⟨r, 1, none⟩ (.int .i64 n)).cell? ⟨r, 0, none⟩ = some (.int .i64 k) := hs.c 0 _ rfl
        have y1 : ((w2.setCell ⟨r, 0, none⟩ (.int .i64 k)).setCell ⟨r, 1, none⟩ (.int .i64 n)).cell? ⟨r, 1, none⟩ = some (.int .i64 n) := hs.c 1 _ rfl
        (try simp only [Exit.inBlock, Exit.then])
        refine bodyPost_ret (by simp [results, Try.results9, go_sem, y0, y1]; try rfl) rfl ?_
        exact ⟨congrArg Ending.returned (valT_old HE.out.symm (by omega) HZ.out.symm).symm, set_below HB2.out (by assumption) [.int .i64 k, .int .i64 n]⟩
    · go_wp2_with fail
      have hs := (HS1.out).setRow [.int .i64 vk, .int .i64 vn] rfl
      have y0 : ((w1.setCell ⟨r, 0, none⟩ (.int .i64 vk)).setCell ⟨r, 1, none⟩ (.int .i64 vn)).cell? ⟨r, 0, none⟩ = some (.int .i64 vk) := hs.c 0 _ rfl
      have y1 : ((w1.setCell ⟨r, 0, none⟩ (.int .i64 vk)).setCell ⟨r, 1, none⟩ (.int .i64 vn)).cell? ⟨r, 1, none⟩ = some (.int .i64 vn) := hs.c 1 _ rfl
      (try simp only [Exit.inBlock, Exit.then])
      refine bodyPost_ret (by simp [results, Try.results9, go_sem, y0, y1]; try rfl) rfl ?_
      exact ⟨congrArg Ending.returned (valT_new HE.out.symm (.inl (by omega))).symm, set_below HB1.out (by assumption) [.int .i64 vk, .int .i64 vn]⟩
  · have h1 : (E != 0) = true := by simpa using he
    have HN := Lib.hid he
    clear he
    have s_0 := HS1.out.c 0 _ rfl
    have s_1 := HS1.out.c 1 _ rfl
    have s_z := HS1.out.fz
    go_wp2_with fail
    have hs := (HS1.out).setRow [.int .i64 0, .int .i64 0] rfl
    have y0 : ((w1.setCell ⟨r, 0, none⟩ (.int .i64 0)).setCell ⟨r, 1, none⟩ (.int .i64 0)).cell? ⟨r, 0, none⟩ = some (.int .i64 0) := hs.c 0 _ rfl
    have y1 : ((w1.setCell ⟨r, 0, none⟩ (.int .i64 0)).setCell ⟨r, 1, none⟩ (.int .i64 0)).cell? ⟨r, 1, none⟩ = some (.int .i64 0) := hs.c 1 _ rfl
    (try simp only [Exit.inBlock, Exit.then])
    refine bodyPost_ret (by simp [results, Try.results9, go_sem, y0, y1]; try rfl) rfl ?_
    exact ⟨congrArg Ending.returned (by rw [HE.out]; exact (valT_err (by rw [← HE.out]; exact HN.out)).symm), set_below HB1.out (by assumption) [.int .i64 0, .int .i64 0]⟩

set_option maxHeartbeats 4000000 in
set_option maxRecDepth 100000 in
theorem next_any (p : Pt) (k n c lv vk vn now : Int) (w : World) : Calls Try.prog 10 #[ptV p, .agg #[.int .i64 k, .int .i64 n, .int .i64 c], .agg #[.int .i64 lv, .int .i64 vk, .int .i64 vn], .int .i64 now] w fun e w' => e = .returned (nextT p k n c lv vk vn now) ∧ Below w.heap.size w w' := by
  obtain ⟨nm, kd, rl, un, lo, hi, st, ss, dk, dn, on, off⟩ := p
  obtain ⟨E, hE⟩ : ∃ E, E = errR ⟨nm, kd, rl, un, lo, hi, st, ss, dk, dn, on, off⟩ k n c lv vk vn now := ⟨_, rfl⟩
  obtain ⟨⟨x, y⟩, hx⟩ : ∃ x, x = valR ⟨nm, kd, rl, un, lo, hi, st, ss, dk, dn, on, off⟩ k n c lv vk vn now := ⟨_, rfl⟩
  have hc := fun w => value_any ⟨nm, kd, rl, un, lo, hi, st, ss, dk, dn, on, off⟩ k n c lv vk vn now w
  have HE := Lib.hid hE
  have HX := Lib.hid hx
  by_cases he : E = 0
  · subst he
    have hv : valT ⟨nm, kd, rl, un, lo, hi, st, ss, dk, dn, on, off⟩ k n c lv vk vn now = .tuple #[.agg #[.int .i64 x, .int .i64 y], .int .i64 0] := by unfold valT; rw [if_pos hE.symm, ← hx]
    rw [hv] at hc
    clear hE hx hv
    have HC := Lib.hid hc
    clear hc
    obtain ⟨W, g, h, q, r, hW, hg, hh, hq, hr, RP, RO, RQ, RS, B, sz⟩ := box4 w #[nm, .int .i64 kd, .int .i64 rl, un, lo, hi, st, ss, dk, dn, .int .i64 on, .int .i64 off] 26 #[.int .i64 k, .int .i64 n, .int .i64 c] 28 #[.int .i64 lv, .int .i64 vk, .int .i64 vn] 30 #[.int .i64 0, .int .i64 0, .int .i64 0] 28
    go_enter Try.func10, Try.ntmps10
    go_wp2_with fail
    rw [← hW]
    try rw [← hr]
    try rw [← hq]
    try rw [← hh]
    try rw [← hg]
    have hwg : w.heap.size ≤ g := by omega
    have hwh : w.heap.size ≤ h := by omega
    have hwr : w.heap.size ≤ r := by omega
    have hgr : r ≠ g := by omega
    have hhr : r ≠ h := by omega
    have hhg : h ≠ g := by omega
    have HP0 := Lib.hid RP
    have HO0 := Lib.hid RO
    have HQ0 := Lib.hid RQ
    have HS0 := Lib.hid RS
    have HB0 := Lib.hid B
    clear hW hg hh hq hr sz B RP RO RQ RS
    have p_0 := HP0.out.c 0 _ rfl
    have p_1 := HP0.out.c 1 _ rfl
    have p_2 := HP0.out.c 2 _ rfl
    have p_3 := HP0.out.c 3 _ rfl
    have p_4 := HP0.out.c 4 _ rfl
    have p_5 := HP0.out.c 5 _ rfl
    have p_6 := HP0.out.c 6 _ rfl
    have p_7 := HP0.out.c 7 _ rfl
    have p_8 := HP0.out.c 8 _ rfl
    have p_9 := HP0.out.c 9 _ rfl
    have p_10 := HP0.out.c 10 _ rfl
    have p_11 := HP0.out.c 11 _ rfl
    have p_z := HP0.out.fz
    have o_0 := HO0.out.c 0 _ rfl
    have o_1 := HO0.out.c 1 _ rfl
    have o_2 := HO0.out.c 2 _ rfl
    have o_z := HO0.out.fz
    have q_0 := HQ0.out.c 0 _ rfl
    have q_1 := HQ0.out.c 1 _ rfl
    have q_2 := HQ0.out.c 2 _ rfl
    have q_z := HQ0.out.fz
    have s_0 := HS0.out.c 0 _ rfl
    have s_1 := HS0.out.c 1 _ rfl
    have s_2 := HS0.out.c 2 _ rfl
    have s_z := HS0.out.fz
    go_wp2_with fail
    refine (HC.out _).mono ?_
    rintro e w1 ⟨rfl, hb⟩
    clear p_0 p_1 p_2 p_3 p_4 p_5 p_6 p_7 p_8 p_9 p_10 p_11 p_z
    clear o_0 o_1 o_2 o_z
    clear q_0 q_1 q_2 q_z
    clear s_0 s_1 s_2 s_z
    have hk := hb.alloc hb.size (Obj.cells #[.int .i64 x, .int .i64 y] 24)
    have HP1 := Lib.hid (HP0.out.keep hk)
    have HO1 := Lib.hid (HO0.out.keep hk)
    have HQ1 := Lib.hid (HQ0.out.keep hk)
    have HS1 := Lib.hid (HS0.out.keep hk)
    have HV1 := Lib.hid (row_fresh w1 #[.int .i64 x, .int .i64 y] 24)
    have HB1 := Lib.hid (HB0.out.trans (hk.mono HB0.out.size))
    clear hb hk HP0 HO0 HQ0 HS0 HB0
    have o_0 := HO1.out.c 0 _ rfl
    have o_1 := HO1.out.c 1 _ rfl
    have o_2 := HO1.out.c 2 _ rfl
    have o_z := HO1.out.fz
    have q_0 := HQ1.out.c 0 _ rfl
    have q_1 := HQ1.out.c 1 _ rfl
    have q_2 := HQ1.out.c 2 _ rfl
    have q_z := HQ1.out.fz
    have s_0 := HS1.out.c 0 _ rfl
    have s_1 := HS1.out.c 1 _ rfl
    have s_2 := HS1.out.c 2 _ rfl
    have s_z := HS1.out.fz
    have v_0 := HV1.out.c 0 _ rfl
    have v_1 := HV1.out.c 1 _ rfl
    have v_z := HV1.out.fz
    by_cases h1 : x = k
    · have hrh : h ≠ r := fun e => hhr e.symm
      subst h1
      by_cases h2 : y = n
      · subst h2
        go_wp2_with fail
        have hs := (HS1.out).setRow [.int .i64 x, .int .i64 y, .int .i64 c] rfl
        have y0 : ((((w1.alloc (Obj.cells #[.int .i64 x, .int .i64 y] 24)).setCell ⟨r, 0, none⟩ (.int .i64 x)).setCell ⟨r, 1, none⟩ (.int .i64 y)).setCell ⟨r, 2, none⟩ (.int .i64 c)).cell? ⟨r, 0, none⟩ = some (.int .i64 x) := hs.c 0 _ rfl
        have y1 : ((((w1.alloc (Obj.cells #[.int .i64 x, .int .i64 y] 24)).setCell ⟨r, 0, none⟩ (.int .i64 x)).setCell ⟨r, 1, none⟩ (.int .i64 y)).setCell ⟨r, 2, none⟩ (.int .i64 c)).cell? ⟨r, 1, none⟩ = some (.int .i64 y) := hs.c 1 _ rfl
        have y2 : ((((w1.alloc (Obj.cells #[.int .i64 x, .int .i64 y] 24)).setCell ⟨r, 0, none⟩ (.int .i64 x)).setCell ⟨r, 1, none⟩ (.int .i64 y)).setCell ⟨r, 2, none⟩ (.int .i64 c)).cell? ⟨r, 2, none⟩ = some (.int .i64 c) := hs.c 2 _ rfl
        (try simp only [Exit.inBlock, Exit.then])
        refine bodyPost_ret (by simp [results, Try.results10, go_sem, y0, y1, y2]; try rfl) rfl ?_
        exact ⟨congrArg Ending.returned (nextT_old HE.out.symm HX.out.symm).symm, set_below HB1.out (by assumption) [.int .i64 x, .int .i64 y, .int .i64 c]⟩
      · go_wp2_with fail
        have hs := ((HS1.out.other hrh [.int .i64 x, .int .i64 y, .int .i64 now])).setRow [.int .i64 x, .int .i64 y, .int .i64 now] rfl
        have y0 : (((((((w1.alloc (Obj.cells #[.int .i64 x, .int .i64 y] 24)).setCell ⟨h, 0, none⟩ (.int .i64 x)).setCell ⟨h, 1, none⟩ (.int .i64 y)).setCell ⟨h, 2, none⟩ (.int .i64 now)).setCell ⟨r, 0, none⟩ (.int .i64 x)).setCell ⟨r, 1, none⟩ (.int .i64 y)).setCell ⟨r, 2, none⟩ (.int .i64 now)).cell? ⟨r, 0, none⟩ = some (.int .i64 x) := hs.c 0 _ rfl
        have y1 : (((((((w1.alloc (Obj.cells #[.int .i64 x, .int .i64 y] 24)).setCell ⟨h, 0, none⟩ (.int .i64 x)).setCell ⟨h, 1, none⟩ (.int .i64 y)).setCell ⟨h, 2, none⟩ (.int .i64 now)).setCell ⟨r, 0, none⟩ (.int .i64 x)).setCell ⟨r, 1, none⟩ (.int .i64 y)).setCell ⟨r, 2, none⟩ (.int .i64 now)).cell? ⟨r, 1, none⟩ = some (.int .i64 y) := hs.c 1 _ rfl
        have y2 : (((((((w1.alloc (Obj.cells #[.int .i64 x, .int .i64 y] 24)).setCell ⟨h, 0, none⟩ (.int .i64 x)).setCell ⟨h, 1, none⟩ (.int .i64 y)).setCell ⟨h, 2, none⟩ (.int .i64 now)).setCell ⟨r, 0, none⟩ (.int .i64 x)).setCell ⟨r, 1, none⟩ (.int .i64 y)).setCell ⟨r, 2, none⟩ (.int .i64 now)).cell? ⟨r, 2, none⟩ = some (.int .i64 now) := hs.c 2 _ rfl
        (try simp only [Exit.inBlock, Exit.then])
        refine bodyPost_ret (by simp [results, Try.results10, go_sem, y0, y1, y2]; try rfl) rfl ?_
        exact ⟨congrArg Ending.returned (by have e := nextT_new (p := ⟨nm, kd, rl, un, lo, hi, st, ss, dk, dn, on, off⟩) HE.out.symm (by rw [← HX.out]; exact fun e => h2 (congrArg Prod.snd e)); rw [← HX.out] at e; exact e.symm), set_below (set_below HB1.out hwh [.int .i64 x, .int .i64 y, .int .i64 now]) hwr [.int .i64 x, .int .i64 y, .int .i64 now]⟩
    · have hrh : h ≠ r := fun e => hhr e.symm
      go_wp2_with fail
      have hs := ((HS1.out.other hrh [.int .i64 x, .int .i64 y, .int .i64 now])).setRow [.int .i64 x, .int .i64 y, .int .i64 now] rfl
      have y0 : (((((((w1.alloc (Obj.cells #[.int .i64 x, .int .i64 y] 24)).setCell ⟨h, 0, none⟩ (.int .i64 x)).setCell ⟨h, 1, none⟩ (.int .i64 y)).setCell ⟨h, 2, none⟩ (.int .i64 now)).setCell ⟨r, 0, none⟩ (.int .i64 x)).setCell ⟨r, 1, none⟩ (.int .i64 y)).setCell ⟨r, 2, none⟩ (.int .i64 now)).cell? ⟨r, 0, none⟩ = some (.int .i64 x) := hs.c 0 _ rfl
      have y1 : (((((((w1.alloc (Obj.cells #[.int .i64 x, .int .i64 y] 24)).setCell ⟨h, 0, none⟩ (.int .i64 x)).setCell ⟨h, 1, none⟩ (.int .i64 y)).setCell ⟨h, 2, none⟩ (.int .i64 now)).setCell ⟨r, 0, none⟩ (.int .i64 x)).setCell ⟨r, 1, none⟩ (.int .i64 y)).setCell ⟨r, 2, none⟩ (.int .i64 now)).cell? ⟨r, 1, none⟩ = some (.int .i64 y) := hs.c 1 _ rfl
      have y2 : (((((((w1.alloc (Obj.cells #[.int .i64 x, .int .i64 y] 24)).setCell ⟨h, 0, none⟩ (.int .i64 x)).setCell ⟨h, 1, none⟩ (.int .i64 y)).setCell ⟨h, 2, none⟩ (.int .i64 now)).setCell ⟨r, 0, none⟩ (.int .i64 x)).setCell ⟨r, 1, none⟩ (.int .i64 y)).setCell ⟨r, 2, none⟩ (.int .i64 now)).cell? ⟨r, 2, none⟩ = some (.int .i64 now) := hs.c 2 _ rfl
      (try simp only [Exit.inBlock, Exit.then])
      refine bodyPost_ret (by simp [results, Try.results10, go_sem, y0, y1, y2]; try rfl) rfl ?_
      exact ⟨congrArg Ending.returned (by have e := nextT_new (p := ⟨nm, kd, rl, un, lo, hi, st, ss, dk, dn, on, off⟩) HE.out.symm (by rw [← HX.out]; exact fun e => h1 (congrArg Prod.fst e)); rw [← HX.out] at e; exact e.symm), set_below (set_below HB1.out hwh [.int .i64 x, .int .i64 y, .int .i64 now]) hwr [.int .i64 x, .int .i64 y, .int .i64 now]⟩
  · have hv : valT ⟨nm, kd, rl, un, lo, hi, st, ss, dk, dn, on, off⟩ k n c lv vk vn now = .tuple #[.agg #[.int .i64 0, .int .i64 0], .int .i64 E] := by unfold valT; rw [if_neg (by rw [← hE]; exact he), ← hE]
    rw [hv] at hc
    have h1 : (E != 0) = true := by simpa using he
    have HN := Lib.hid he
    clear hE hx hv he
    have HC := Lib.hid hc
    clear hc
    obtain ⟨W, g, h, q, r, hW, hg, hh, hq, hr, RP, RO, RQ, RS, B, sz⟩ := box4 w #[nm, .int .i64 kd, .int .i64 rl, un, lo, hi, st, ss, dk, dn, .int .i64 on, .int .i64 off] 26 #[.int .i64 k, .int .i64 n, .int .i64 c] 28 #[.int .i64 lv, .int .i64 vk, .int .i64 vn] 30 #[.int .i64 0, .int .i64 0, .int .i64 0] 28
    go_enter Try.func10, Try.ntmps10
    go_wp2_with fail
    rw [← hW]
    try rw [← hr]
    try rw [← hq]
    try rw [← hh]
    try rw [← hg]
    have hwg : w.heap.size ≤ g := by omega
    have hwh : w.heap.size ≤ h := by omega
    have hwr : w.heap.size ≤ r := by omega
    have hgr : r ≠ g := by omega
    have hhr : r ≠ h := by omega
    have hhg : h ≠ g := by omega
    have HP0 := Lib.hid RP
    have HO0 := Lib.hid RO
    have HQ0 := Lib.hid RQ
    have HS0 := Lib.hid RS
    have HB0 := Lib.hid B
    clear hW hg hh hq hr sz B RP RO RQ RS
    have p_0 := HP0.out.c 0 _ rfl
    have p_1 := HP0.out.c 1 _ rfl
    have p_2 := HP0.out.c 2 _ rfl
    have p_3 := HP0.out.c 3 _ rfl
    have p_4 := HP0.out.c 4 _ rfl
    have p_5 := HP0.out.c 5 _ rfl
    have p_6 := HP0.out.c 6 _ rfl
    have p_7 := HP0.out.c 7 _ rfl
    have p_8 := HP0.out.c 8 _ rfl
    have p_9 := HP0.out.c 9 _ rfl
    have p_10 := HP0.out.c 10 _ rfl
    have p_11 := HP0.out.c 11 _ rfl
    have p_z := HP0.out.fz
    have o_0 := HO0.out.c 0 _ rfl
    have o_1 := HO0.out.c 1 _ rfl
    have o_2 := HO0.out.c 2 _ rfl
    have o_z := HO0.out.fz
    have q_0 := HQ0.out.c 0 _ rfl
    have q_1 := HQ0.out.c 1 _ rfl
    have q_2 := HQ0.out.c 2 _ rfl
    have q_z := HQ0.out.fz
    have s_0 := HS0.out.c 0 _ rfl
    have s_1 := HS0.out.c 1 _ rfl
    have s_2 := HS0.out.c 2 _ rfl
    have s_z := HS0.out.fz
    go_wp2_with fail
    refine (HC.out _).mono ?_
    rintro e w1 ⟨rfl, hb⟩
    clear p_0 p_1 p_2 p_3 p_4 p_5 p_6 p_7 p_8 p_9 p_10 p_11 p_z
    clear o_0 o_1 o_2 o_z
    clear q_0 q_1 q_2 q_z
    clear s_0 s_1 s_2 s_z
    have hk := hb.alloc hb.size (Obj.cells #[.int .i64 0, .int .i64 0] 24)
    have HP1 := Lib.hid (HP0.out.keep hk)
    have HO1 := Lib.hid (HO0.out.keep hk)
    have HQ1 := Lib.hid (HQ0.out.keep hk)
    have HS1 := Lib.hid (HS0.out.keep hk)
    have HV1 := Lib.hid (row_fresh w1 #[.int .i64 0, .int .i64 0] 24)
    have HB1 := Lib.hid (HB0.out.trans (hk.mono HB0.out.size))
    clear hb hk HP0 HO0 HQ0 HS0 HB0
    have s_0 := HS1.out.c 0 _ rfl
    have s_1 := HS1.out.c 1 _ rfl
    have s_2 := HS1.out.c 2 _ rfl
    have s_z := HS1.out.fz
    have v_0 := HV1.out.c 0 _ rfl
    have v_1 := HV1.out.c 1 _ rfl
    have v_z := HV1.out.fz
    go_wp2_with fail
    have hs := (HS1.out).setRow [.int .i64 0, .int .i64 0, .int .i64 0] rfl
    have y0 : ((((w1.alloc (Obj.cells #[.int .i64 0, .int .i64 0] 24)).setCell ⟨r, 0, none⟩ (.int .i64 0)).setCell ⟨r, 1, none⟩ (.int .i64 0)).setCell ⟨r, 2, none⟩ (.int .i64 0)).cell? ⟨r, 0, none⟩ = some (.int .i64 0) := hs.c 0 _ rfl
    have y1 : ((((w1.alloc (Obj.cells #[.int .i64 0, .int .i64 0] 24)).setCell ⟨r, 0, none⟩ (.int .i64 0)).setCell ⟨r, 1, none⟩ (.int .i64 0)).setCell ⟨r, 2, none⟩ (.int .i64 0)).cell? ⟨r, 1, none⟩ = some (.int .i64 0) := hs.c 1 _ rfl
    have y2 : ((((w1.alloc (Obj.cells #[.int .i64 0, .int .i64 0] 24)).setCell ⟨r, 0, none⟩ (.int .i64 0)).setCell ⟨r, 1, none⟩ (.int .i64 0)).setCell ⟨r, 2, none⟩ (.int .i64 0)).cell? ⟨r, 2, none⟩ = some (.int .i64 0) := hs.c 2 _ rfl
    (try simp only [Exit.inBlock, Exit.then])
    refine bodyPost_ret (by simp [results, Try.results10, go_sem, y0, y1, y2]; try rfl) rfl ?_
    exact ⟨congrArg Ending.returned (by rw [HE.out]; exact (nextT_err (by rw [← HE.out]; exact HN.out)).symm), set_below HB1.out (by assumption) [.int .i64 0, .int .i64 0, .int .i64 0]⟩
end Go.Proofs.Ytlmcdnfihgimjaa
