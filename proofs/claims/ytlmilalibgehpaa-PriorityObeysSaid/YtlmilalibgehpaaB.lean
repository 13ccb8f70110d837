/- Contracts of Check (both), cmp.Compare, cmp.Or, compare, less. -/
import Derived.Test.YtlmilalibgehpaaA
namespace Go.Proofs.Ytlmilalibgehpaa
open Go.RowKit

theorem lv_lo {l : Int} (h : l < 1) : lvB l = false := by unfold lvB; rw [decide_eq_false (show ¬ 1 ≤ l by omega), Bool.false_and]
theorem lv_hi {l : Int} (h : 16 < l) : lvB l = false := by unfold lvB; rw [decide_eq_false (show ¬ l ≤ 16 by omega), Bool.and_false]
theorem lv_ok {l : Int} (h1 : 1 ≤ l) (h2 : l ≤ 16) : lvB l = true := by unfold lvB; rw [decide_eq_true h1, decide_eq_true h2]; rfl
set_option maxHeartbeats 2000000 in
set_option maxRecDepth 100000 in
theorem check_any (l q k n : Int) (w : World) : Calls Try.prog 12 #[.agg #[.int .i64 l, .int .i64 q, .int .i64 k, .int .i64 n]] w fun e w' => e = .returned (.int .i64 (checkW ⟨l, q, k, n⟩)) ∧ Below w.heap.size w w' := by
  obtain ⟨Z, hZ⟩ : ∃ Z, Z = valB k n := ⟨_, rfl⟩
  have hv := fun w => value_any k n w
  rw [← hZ] at hv
  have HV := Lib.hid hv
  have HL := Lib.hid (fun w => level_any l w)
  have HE := Lib.hid (show checkW ⟨l, q, k, n⟩ = if lvB l = false then 1 else if q < 1 then 6 else if 1000000000 < q then 6 else if Z = false then 11 else 0 by rw [hZ]; rfl)
  clear hv hZ
  obtain ⟨W, g, hW, hg, RP, B, sz⟩ := box1 w #[.int .i64 l, .int .i64 q, .int .i64 k, .int .i64 n] 25
  have HP0 := Lib.hid RP
  have HB0 := Lib.hid B
  have HG := Lib.hid hg
  go_enter Try.func12, Try.ntmps12
  go_wp2_with fail
  rw [← hW]
  try rw [← hg]
  clear hW hg RP B sz
  obtain ⟨Y, hY⟩ : ∃ Y, Y = lvB l := ⟨_, rfl⟩
  rw [← hY] at HL HE
  clear hY
  have p_0 := HP0.out.c 0 _ rfl
  have p_1 := HP0.out.c 1 _ rfl
  have p_2 := HP0.out.c 2 _ rfl
  have p_3 := HP0.out.c 3 _ rfl
  have p_z := HP0.out.fz
  go_wp2_with fail
  refine (HL.out _).mono ?_
  rintro e w1 ⟨rfl, hb⟩
  clear p_0 p_1 p_2 p_3 p_z
  have HP1 := Lib.hid (HP0.out.keep hb)
  have HB1 := Lib.hid (HB0.out.trans (hb.mono HB0.out.size))
  clear hb HP0 HB0
  have p_0 := HP1.out.c 0 _ rfl
  have p_1 := HP1.out.c 1 _ rfl
  have p_2 := HP1.out.c 2 _ rfl
  have p_3 := HP1.out.c 3 _ rfl
  have p_z := HP1.out.fz
  cases Y
  · go_wp2_with fail
    go_ret
    exact ⟨congrArg (fun x => Ending.returned (.int .i64 x)) (HE.out.trans (by simp)).symm, by first | exact HB1.out | (rw [HG.out]; exact HB1.out)⟩
  · by_cases h3 : q < 1
    · go_wp2_with fail
      go_ret
      exact ⟨congrArg (fun x => Ending.returned (.int .i64 x)) (HE.out.trans (by rw [if_neg (by simp), if_pos (by omega)])).symm, by first | exact HB1.out | (rw [HG.out]; exact HB1.out)⟩
    · by_cases h4 : 1000000000 < q
      · go_wp2_with fail
        go_ret
        exact ⟨congrArg (fun x => Ending.returned (.int .i64 x)) (HE.out.trans (by rw [if_neg (by simp), if_neg (by omega), if_pos (by omega)])).symm, by first | exact HB1.out | (rw [HG.out]; exact HB1.out)⟩
      · go_wp2_with fail
        refine (HV.out _).mono ?_
        rintro e w9 ⟨rfl, hb⟩
        have HP9 := Lib.hid (HP1.out.keep hb)
        have HB9 := Lib.hid (HB1.out.trans (hb.mono HB1.out.size))
        clear hb
        clear p_0 p_1 p_2 p_3 p_z
        clear HP1
        have p_0 := HP9.out.c 0 _ rfl
        have p_1 := HP9.out.c 1 _ rfl
        have p_2 := HP9.out.c 2 _ rfl
        have p_3 := HP9.out.c 3 _ rfl
        have p_z := HP9.out.fz
        cases Z
        · go_wp2_with fail
          go_ret
          exact ⟨congrArg (fun x => Ending.returned (.int .i64 x)) (HE.out.trans (by rw [if_neg (by simp), if_neg (by omega), if_neg (by omega)]; simp)).symm, by first | exact HB9.out | (rw [HG.out]; exact HB9.out)⟩
        · go_wp2_with fail
          go_ret
          exact ⟨congrArg (fun x => Ending.returned (.int .i64 x)) (HE.out.trans (by rw [if_neg (by simp), if_neg (by omega), if_neg (by omega)]; simp)).symm, by first | exact HB9.out | (rw [HG.out]; exact HB9.out)⟩
set_option maxHeartbeats 2000000 in
set_option maxRecDepth 100000 in
theorem rcheck_any (l q k n : Int) (w : World) : Calls Try.prog 13 #[.agg #[.int .i64 l, .int .i64 q, .int .i64 k, .int .i64 n]] w fun e w' => e = .returned (.int .i64 (checkW ⟨l, q, k, n⟩)) ∧ Below w.heap.size w w' := by
  obtain ⟨Z, hZ⟩ : ∃ Z, Z = valB k n := ⟨_, rfl⟩
  have hv := fun w => possible_any k n w
  rw [← hZ] at hv
  have HV := Lib.hid hv
  have HE := Lib.hid (show checkW ⟨l, q, k, n⟩ = if lvB l = false then 1 else if q < 1 then 6 else if 1000000000 < q then 6 else if Z = false then 11 else 0 by rw [hZ]; rfl)
  clear hv hZ
  by_cases h1 : l < 1
  · go_enter Try.func13, Try.ntmps13
    go_wp2_with fail
    go_ret
    exact ⟨congrArg (fun x => Ending.returned (.int .i64 x)) (HE.out.trans (by rw [if_pos (lv_lo (by omega))])).symm, (Below.refl _ _).alloc (Nat.le_refl _) _⟩
  by_cases h2 : 16 < l
  · go_enter Try.func13, Try.ntmps13
    go_wp2_with fail
    go_ret
    exact ⟨congrArg (fun x => Ending.returned (.int .i64 x)) (HE.out.trans (by rw [if_pos (lv_hi (by omega))])).symm, (Below.refl _ _).alloc (Nat.le_refl _) _⟩
  by_cases h3 : q < 1
  · go_enter Try.func13, Try.ntmps13
    go_wp2_with fail
    go_ret
    exact ⟨congrArg (fun x => Ending.returned (.int .i64 x)) (HE.out.trans (by rw [if_neg (by rw [lv_ok (by omega) (by omega)]; simp), if_pos (by omega)])).symm, (Below.refl _ _).alloc (Nat.le_refl _) _⟩
  by_cases h4 : 1000000000 < q
  · go_enter Try.func13, Try.ntmps13
    go_wp2_with fail
    go_ret
    exact ⟨congrArg (fun x => Ending.returned (.int .i64 x)) (HE.out.trans (by rw [if_neg (by rw [lv_ok (by omega) (by omega)]; simp), if_neg (by omega), if_pos (by omega)])).symm, (Below.refl _ _).alloc (Nat.le_refl _) _⟩
  go_enter Try.func13, Try.ntmps13
  go_wp2_with fail
  obtain ⟨W, g, hW, hg, RP, B, sz⟩ := box1 w #[.int .i64 l, .int .i64 q, .int .i64 k, .int .i64 n] 25
  rw [← hW]
  try rw [← hg]
  have HB0 := Lib.hid B
  clear hW hg RP B sz
  refine (HV.out _).mono ?_
  rintro e w9 ⟨rfl, hb⟩
  have HB9 := Lib.hid (HB0.out.trans (hb.mono HB0.out.size))
  clear hb
  cases Z
  · go_wp2_with fail
    go_ret
    exact ⟨congrArg (fun x => Ending.returned (.int .i64 x)) (HE.out.trans (by rw [if_neg (by rw [lv_ok (by omega) (by omega)]; simp), if_neg (by omega), if_neg (by omega)]; simp)).symm, HB9.out⟩
  · go_wp2_with fail
    go_ret
    exact ⟨congrArg (fun x => Ending.returned (.int .i64 x)) (HE.out.trans (by rw [if_neg (by rw [lv_ok (by omega) (by omega)]; simp), if_neg (by omega), if_neg (by omega)]; simp)).symm, HB9.out⟩
def cmpI (a b : Int) : Int := if a < b then -1 else if b < a then 1 else 0
theorem nan_cmpi_any (a : Int) (w : World) : Calls Try.prog 43 #[.int .i64 a] w fun e w' => e = .returned (.bool false) ∧ w = w' := by
  go_enter Try.func43, Try.ntmps43
  go_wp2_with fail
  go_ret
  exact ⟨by simp, rfl⟩
theorem cmpi_any (a b : Int) (w : World) : Calls Try.prog 41 #[.int .i64 a, .int .i64 b] w fun e w' => e = .returned (.int .i64 (cmpI a b)) ∧ w = w' := by
  have HN := Lib.hid (fun a w => nan_cmpi_any a w)
  go_enter Try.func41, Try.ntmps41
  go_wp2_with fail
  refine (HN.out _ _).mono ?_
  rintro e w1 ⟨rfl, rfl⟩
  go_wp2_with fail
  refine (HN.out _ _).mono ?_
  rintro e w2 ⟨rfl, rfl⟩
  by_cases h1 : a < b
  · go_wp2_with fail
    go_ret
    exact ⟨congrArg (fun x => Ending.returned (.int .i64 x)) (if_pos (by omega)).symm, rfl⟩
  · by_cases h2 : b < a
    · go_wp2_with fail
      go_ret
      exact ⟨congrArg (fun x => Ending.returned (.int .i64 x)) ((if_neg (by omega)).trans (if_pos (by omega))).symm, rfl⟩
    · go_wp2_with fail
      go_ret
      exact ⟨congrArg (fun x => Ending.returned (.int .i64 x)) ((if_neg (by omega)).trans (if_neg (by omega))).symm, rfl⟩
theorem nan_cmpl_any (a : Int) (w : World) : Calls Try.prog 44 #[.int .i64 a] w fun e w' => e = .returned (.bool false) ∧ w = w' := by
  go_enter Try.func44, Try.ntmps44
  go_wp2_with fail
  go_ret
  exact ⟨by simp, rfl⟩
theorem cmpl_any (a b : Int) (w : World) : Calls Try.prog 42 #[.int .i64 a, .int .i64 b] w fun e w' => e = .returned (.int .i64 (cmpI a b)) ∧ w = w' := by
  have HN := Lib.hid (fun a w => nan_cmpl_any a w)
  go_enter Try.func42, Try.ntmps42
  go_wp2_with fail
  refine (HN.out _ _).mono ?_
  rintro e w1 ⟨rfl, rfl⟩
  go_wp2_with fail
  refine (HN.out _ _).mono ?_
  rintro e w2 ⟨rfl, rfl⟩
  by_cases h1 : a < b
  · go_wp2_with fail
    go_ret
    exact ⟨congrArg (fun x => Ending.returned (.int .i64 x)) (if_pos (by omega)).symm, rfl⟩
  · by_cases h2 : b < a
    · go_wp2_with fail
      go_ret
      exact ⟨congrArg (fun x => Ending.returned (.int .i64 x)) ((if_neg (by omega)).trans (if_pos (by omega))).symm, rfl⟩
    · go_wp2_with fail
      go_ret
      exact ⟨congrArg (fun x => Ending.returned (.int .i64 x)) ((if_neg (by omega)).trans (if_neg (by omega))).symm, rfl⟩
def orI (x y z : Int) : Int := if x ≠ 0 then x else if y ≠ 0 then y else z
set_option maxHeartbeats 1000000 in
theorem or_any (x y z : Int) (b : Nat) (w : World) (h0 : w.cell? ⟨b, 0, none⟩ = some (.int .i64 x)) (h1 : w.cell? ⟨b, 1, none⟩ = some (.int .i64 y)) (h2 : w.cell? ⟨b, 2, none⟩ = some (.int .i64 z)) : Calls Try.prog 40 #[.slice (some ⟨b, 0, none⟩) 3 3] w fun e w' => e = .returned (.int .i64 (orI x y z)) ∧ w = w' := by
  go_enter Try.func40, Try.ntmps40
  go_wp2_with fail
  by_cases c1 : x = 0
  · by_cases c2 : y = 0
    · by_cases c3 : z = 0
      · subst c1 c2 c3
        refine wp_loop_rounds 4 ?_
        rw [rounds_succ]
        go_wp2_with fail
        rw [rounds_succ]
        go_wp2_with fail
        rw [rounds_succ]
        go_wp2_with fail
        rw [rounds_succ]
        go_wp2_with fail
        go_ret
        exact ⟨rfl, rfl⟩
      · subst c1 c2
        have t : (z != 0) = true := by simpa using c3
        refine wp_loop_rounds 4 ?_
        rw [rounds_succ]
        go_wp2_with fail
        rw [rounds_succ]
        go_wp2_with fail
        rw [rounds_succ]
        go_wp2_with fail
        go_ret
        exact ⟨rfl, rfl⟩
    · subst c1
      have t : (y != 0) = true := by simpa using c2
      refine wp_loop_rounds 4 ?_
      rw [rounds_succ]
      go_wp2_with fail
      rw [rounds_succ]
      go_wp2_with fail
      go_ret
      exact ⟨by simp [orI, c2], rfl⟩
  · have t : (x != 0) = true := by simpa using c1
    refine wp_loop_rounds 4 ?_
    rw [rounds_succ]
    go_wp2_with fail
    go_ret
    exact ⟨by simp [orI, c1], rfl⟩
end Go.Proofs.Ytlmilalibgehpaa
