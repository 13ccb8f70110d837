/- Contracts of the leaves of package pid and of its specification, and of Limit and Settle on both sides: they only compute. -/
import Derived.Test.YtepmeacdacnhmaaMp
import Derived.Test.YtepmeacdacnhmaaPa
import Derived.IntWalk
namespace Go.Proofs.Ytepmeacdacnhmaa
open Go.RowKit

theorem ret_bool {a b : Bool} (h : a = b) : Ending.returned (.bool a) = .returned (.bool b) := by rw [h]
theorem ret_ie {a b c d : Int} (h : a = c) (k : b = d) : Ending.returned (.tuple #[.int .i64 a, .int .i64 b]) = .returned (.tuple #[.int .i64 c, .int .i64 d]) := by rw [h, k]
set_option maxRecDepth 100000 in
theorem isFrom_any (n lo hi : Int) (w : World) : Calls Try.prog 30 #[.int .i64 n, .int .i64 lo, .int .i64 hi] w fun e w' => e = .returned (.bool (fromB n lo hi)) ∧ w = w' := by
  by_cases h0 : lo ≤ n <;> by_cases h1 : n ≤ hi
  all_goals
    go_enter Try.func30, Try.ntmps30
    go_wp2_with fail
    go_ret
    exact ⟨ret_bool (by simp [fromB, *]), rfl⟩
set_option maxRecDepth 100000 in
theorem isTime_any (n : Int) (w : World) : Calls Try.prog 21 #[.int .i64 n] w fun e w' => e = .returned (.bool (timeB n)) ∧ w = w' := by
  by_cases h0 : 1 ≤ n <;> by_cases h1 : n ≤ 86400
  all_goals
    go_enter Try.func21, Try.ntmps21
    go_wp2_with fail
    go_ret
    exact ⟨ret_bool (by simp [timeB, *]), rfl⟩
set_option maxRecDepth 100000 in
theorem span_any (n : Int) (w : World) : Calls Try.prog 34 #[.int .i64 n] w fun e w' => e = .returned (.bool (timeB n)) ∧ w = w' := by
  by_cases h0 : 1 ≤ n <;> by_cases h1 : n ≤ 86400
  all_goals
    go_enter Try.func34, Try.ntmps34
    go_wp2_with fail
    go_ret
    exact ⟨ret_bool (by simp [timeB, *]), rfl⟩
set_option maxRecDepth 100000 in
theorem inside_any (n : Int) (w : World) : Calls Try.prog 33 #[.int .i64 n] w fun e w' => e = .returned (.bool (numB n)) ∧ w = w' := by
  by_cases h0 : -1000000000000 ≤ n <;> by_cases h1 : n ≤ 1000000000000
  all_goals
    go_enter Try.func33, Try.ntmps33
    go_wp2_with fail
    go_ret
    exact ⟨ret_bool (by simp [numB, *]), rfl⟩
theorem isNumber_any (n : Int) (w : World) : Calls Try.prog 31 #[.int .i64 n] w fun e w' => e = .returned (.bool (numB n)) ∧ w = w' := by
  have HN := Lib.hid (numB_clamp n)
  go_enter Try.func31, Try.ntmps31
  go_wp2_with fail
  refine (clamp_any _ _).mono ?_
  rintro e w' ⟨rfl, rfl⟩
  go_wp2_with fail
  go_ret
  exact ⟨ret_bool (by rw [HN.out]; (first | done | rfl | (rw [Bool.eq_iff_iff]; simp))), rfl⟩
theorem limited_any (n lo hi : Int) (w : World) : Calls Try.prog 23 #[.int .i64 n, .int .i64 lo, .int .i64 hi] w fun e w' => e = .returned (.int .i64 (limI n lo hi)) ∧ w = w' := by
  go_enter Try.func23, Try.ntmps23
  go_wp2
  go_ret
  exact ⟨rfl, rfl⟩
theorem areRates_any (u d : Int) (w : World) : Calls Try.prog 32 #[.int .i64 u, .int .i64 d] w fun e w' => e = .returned (.bool (rateB u d)) ∧ w = w' := by
  have ha := fun w => isFrom_any u 0 1000000000000 w
  have hb := fun w => isFrom_any d 0 1000000000000 w
  have hr : rateB u d = (fromB u 0 1000000000000 && fromB d 0 1000000000000) := rfl
  rw [hr]
  obtain ⟨A, hA⟩ : ∃ A, A = fromB u 0 1000000000000 := ⟨_, rfl⟩
  obtain ⟨B, hB⟩ : ∃ B, B = fromB d 0 1000000000000 := ⟨_, rfl⟩
  rw [← hA] at ha ⊢
  rw [← hB] at hb ⊢
  clear hr hA hB
  have KA := Lib.hid ha
  have KB := Lib.hid hb
  clear ha hb
  go_enter Try.func32, Try.ntmps32
  go_wp2_with fail
  refine (KA.out _).mono ?_
  rintro e w' ⟨rfl, rfl⟩
  cases A
  · go_wp2_with fail
    go_ret
    exact ⟨rfl, rfl⟩
  · go_wp2_with fail
    refine (KB.out _).mono ?_
    rintro e w' ⟨rfl, rfl⟩
    cases B
    · go_wp2_with fail
      go_ret
      exact ⟨rfl, rfl⟩
    · go_wp2_with fail
      go_ret
      exact ⟨rfl, rfl⟩

set_option maxRecDepth 100000 in
theorem canFollow_any (l t u d n : Int) (w : World) : Calls Try.prog 24 #[.int .i64 l, .int .i64 t, .int .i64 u, .int .i64 d, .int .i64 n] w fun e w' => e = .returned (.bool (folB l t u d n)) ∧ w = w' := by
  have ha := fun w => isNumber_any l w
  have hb := fun w => isNumber_any t w
  have hc := fun w => areRates_any u d w
  have hd := fun w => isTime_any n w
  have hr : folB l t u d n = (numB l && numB t && rateB u d && timeB n) := rfl
  rw [hr]
  obtain ⟨A, hA⟩ : ∃ A, A = numB l := ⟨_, rfl⟩
  obtain ⟨B, hB⟩ : ∃ B, B = numB t := ⟨_, rfl⟩
  obtain ⟨C, hC⟩ : ∃ C, C = rateB u d := ⟨_, rfl⟩
  obtain ⟨D, hD⟩ : ∃ D, D = timeB n := ⟨_, rfl⟩
  rw [← hA] at ha ⊢
  rw [← hB] at hb ⊢
  rw [← hC] at hc ⊢
  rw [← hD] at hd ⊢
  clear hr hA hB hC hD
  have KA := Lib.hid ha
  have KB := Lib.hid hb
  have KC := Lib.hid hc
  have KD := Lib.hid hd
  clear ha hb hc hd
  go_enter Try.func24, Try.ntmps24
  go_wp2_with fail
  refine (KA.out _).mono ?_
  rintro e w' ⟨rfl, rfl⟩
  cases A
  · go_wp2_with fail
    go_ret
    exact ⟨rfl, rfl⟩
  · go_wp2_with fail
    refine (KB.out _).mono ?_
    rintro e w' ⟨rfl, rfl⟩
    cases B
    · go_wp2_with fail
      go_ret
      exact ⟨rfl, rfl⟩
    · go_wp2_with fail
      refine (KC.out _).mono ?_
      rintro e w' ⟨rfl, rfl⟩
      cases C
      · go_wp2_with fail
        go_ret
        exact ⟨rfl, rfl⟩
      · go_wp2_with fail
        refine (KD.out _).mono ?_
        rintro e w' ⟨rfl, rfl⟩
        cases D
        · go_wp2_with fail
          go_ret
          exact ⟨rfl, rfl⟩
        · go_wp2_with fail
          go_ret
          exact ⟨rfl, rfl⟩

set_option maxRecDepth 100000 in
theorem follows_any (l t u d n : Int) (w : World) : Calls Try.prog 25 #[.int .i64 l, .int .i64 t, .int .i64 u, .int .i64 d, .int .i64 n] w fun e w' => e = .returned (.bool (folB l t u d n)) ∧ w = w' := by
  have ha := fun w => inside_any l w
  have hb := fun w => inside_any t w
  have hc := fun w => inside_any u w
  have hd := fun w => inside_any d w
  have he := fun w => span_any n w
  have hr : folB l t u d n = (numB l && numB t && (numB u && decide (0 ≤ u)) && (numB d && decide (0 ≤ d)) && timeB n) := folB_two l t u d n
  rw [hr]
  obtain ⟨A, hA⟩ : ∃ A, A = numB l := ⟨_, rfl⟩
  obtain ⟨B, hB⟩ : ∃ B, B = numB t := ⟨_, rfl⟩
  obtain ⟨C, hC⟩ : ∃ C, C = numB u := ⟨_, rfl⟩
  obtain ⟨D, hD⟩ : ∃ D, D = numB d := ⟨_, rfl⟩
  obtain ⟨E, hE⟩ : ∃ E, E = timeB n := ⟨_, rfl⟩
  rw [← hA] at ha ⊢
  rw [← hB] at hb ⊢
  rw [← hC] at hc ⊢
  rw [← hD] at hd ⊢
  rw [← hE] at he ⊢
  clear hr hA hB hC hD hE
  have KA := Lib.hid ha
  have KB := Lib.hid hb
  have KC := Lib.hid hc
  have KD := Lib.hid hd
  have KE := Lib.hid he
  clear ha hb hc hd he
  by_cases h0 : 0 ≤ u <;> by_cases h1 : 0 ≤ d
  all_goals
    go_enter Try.func25, Try.ntmps25
    go_wp2_with fail
    refine (KA.out _).mono ?_
    rintro e w' ⟨rfl, rfl⟩
    cases A
    · go_wp2_with fail
      go_ret
      exact ⟨rfl, rfl⟩
    · go_wp2_with fail
      refine (KB.out _).mono ?_
      rintro e w' ⟨rfl, rfl⟩
      cases B
      · go_wp2_with fail
        go_ret
        exact ⟨rfl, rfl⟩
      · go_wp2_with fail
        refine (KC.out _).mono ?_
        rintro e w' ⟨rfl, rfl⟩
        cases C
        · go_wp2_with fail
          go_ret
          exact ⟨rfl, rfl⟩
        · go_wp2_with (first | (refine (KD.out _).mono ?_; rintro e w' ⟨rfl, rfl⟩; cases D) | (refine (KE.out _).mono ?_; rintro e w' ⟨rfl, rfl⟩))
          all_goals
            go_ret
            exact ⟨ret_bool (by simp [h0, h1]; try (intros; exfalso; omega)), rfl⟩
set_option maxHeartbeats 1000000 in
set_option maxRecDepth 100000 in
theorem limit_any (l t u d n : Int) (w : World) : Calls Try.prog 11 #[.int .i64 l, .int .i64 t, .int .i64 u, .int .i64 d, .int .i64 n] w fun e w' => e = .returned (.tuple #[.int .i64 (limV l t u d n), .int .i64 (limE l t u d n)]) ∧ w = w' := by
  have hv : limV l t u d n = if folB l t u d n = true then limR l t (u * n) (d * n) else 0 := rfl
  have hx : limE l t u d n = if folB l t u d n = true then 0 else 1 := rfl
  have ha := fun w => canFollow_any l t u d n w
  have hi := (fol_iff l t u d n).1
  rw [hv, hx]
  clear hv hx
  obtain ⟨Z, hZ⟩ : ∃ Z, Z = folB l t u d n := ⟨_, rfl⟩
  rw [← hZ] at ha hi ⊢
  clear hZ
  have KA := Lib.hid ha
  clear ha
  cases Z
  · clear hi
    go_enter Try.func11, Try.ntmps11
    go_wp2_with fail
    refine (KA.out _).mono ?_
    rintro e w' ⟨rfl, rfl⟩
    go_wp2_with fail
    go_ret2
    exact ⟨rfl, rfl⟩
  · obtain ⟨l0, l1, t0, t1, u0, u1, d0, d1, n0, n1⟩ := hi rfl
    obtain ⟨U0, U1⟩ := rate_bound u n u0 u1 n0 n1
    obtain ⟨D0, D1⟩ := rate_bound d n d0 d1 n0 n1
    clear hi
    have HL := Lib.hid (lim_is l t (u * n) (d * n) U0 D0)
    have w1 : IntKind.i64.wrap (u * n) = u * n := IntWalk.i64_in _ (by omega)
    have w2 : IntKind.i64.wrap (d * n) = d * n := IntWalk.i64_in _ (by omega)
    go_enter Try.func11, Try.ntmps11
    go_wp2_with fail
    refine (KA.out _).mono ?_
    rintro e w' ⟨rfl, rfl⟩
    go_wp2_with fail
    refine (limited_any _ _ _ _).mono ?_
    rintro e w' ⟨rfl, rfl⟩
    go_wp2_with fail
    go_ret2
    exact ⟨ret_ie (by rw [← HL.out]; rfl) rfl, rfl⟩
set_option maxHeartbeats 1000000 in
set_option maxRecDepth 100000 in
theorem rlimit_any (l t u d n : Int) (w : World) : Calls Try.prog 12 #[.int .i64 l, .int .i64 t, .int .i64 u, .int .i64 d, .int .i64 n] w fun e w' => e = .returned (.tuple #[.int .i64 (limV l t u d n), .int .i64 (limE l t u d n)]) ∧ w = w' := by
  have hv : limV l t u d n = if folB l t u d n = true then limR l t (u * n) (d * n) else 0 := rfl
  have hx : limE l t u d n = if folB l t u d n = true then 0 else 1 := rfl
  have ha := fun w => follows_any l t u d n w
  have hi := (fol_iff l t u d n).1
  rw [hv, hx]
  clear hv hx
  obtain ⟨Z, hZ⟩ : ∃ Z, Z = folB l t u d n := ⟨_, rfl⟩
  rw [← hZ] at ha hi ⊢
  clear hZ
  have KA := Lib.hid ha
  clear ha
  cases Z
  · clear hi
    go_enter Try.func12, Try.ntmps12
    go_wp2_with fail
    refine (KA.out _).mono ?_
    rintro e w' ⟨rfl, rfl⟩
    go_wp2_with fail
    go_ret2
    exact ⟨rfl, rfl⟩
  · obtain ⟨l0, l1, t0, t1, u0, u1, d0, d1, n0, n1⟩ := hi rfl
    obtain ⟨U0, U1⟩ := rate_bound u n u0 u1 n0 n1
    obtain ⟨D0, D1⟩ := rate_bound d n d0 d1 n0 n1
    clear hi
    have w1 : IntKind.i64.wrap (u * n) = u * n := IntWalk.i64_in _ (by omega)
    have w2 : IntKind.i64.wrap (d * n) = d * n := IntWalk.i64_in _ (by omega)
    by_cases hlt : l < t
    all_goals
      go_enter Try.func12, Try.ntmps12
      go_wp2_with fail
      refine (KA.out _).mono ?_
      rintro e w' ⟨rfl, rfl⟩
      go_wp2_with fail
      go_ret2
      exact ⟨ret_ie (by unfold limR; (first | rw [if_pos hlt] | rw [if_neg (by omega)])) rfl, rfl⟩
set_option maxHeartbeats 1000000 in
set_option maxRecDepth 100000 in
theorem settle_any (l t u d n : Int) (w : World) : Calls Try.prog 13 #[.int .i64 l, .int .i64 t, .int .i64 u, .int .i64 d, .int .i64 n] w fun e w' => e = .returned (.tuple #[.int .i64 (setV l t u d n), .int .i64 (setF l t u d n)]) ∧ w = w' := by
  have hv : setV l t u d n = if folB l t u d n = true then setN (wayI l t) (stepI2 l t (u * n) (d * n)) else 0 := rfl
  have hx : setF l t u d n = if folB l t u d n = true then setE (wayI l t) (stepI2 l t (u * n) (d * n)) else 1 := rfl
  have ha := fun w => canFollow_any l t u d n w
  have hi := (fol_iff l t u d n).1
  rw [hv, hx]
  clear hv hx
  obtain ⟨Z, hZ⟩ : ∃ Z, Z = folB l t u d n := ⟨_, rfl⟩
  rw [← hZ] at ha hi ⊢
  clear hZ
  have KA := Lib.hid ha
  clear ha
  cases Z
  · clear hi
    go_enter Try.func13, Try.ntmps13
    go_wp2_with fail
    refine (KA.out _).mono ?_
    rintro e w' ⟨rfl, rfl⟩
    go_wp2_with fail
    go_ret2
    exact ⟨rfl, rfl⟩
  · obtain ⟨l0, l1, t0, t1, u0, u1, d0, d1, n0, n1⟩ := hi rfl
    obtain ⟨U0, U1⟩ := rate_bound u n u0 u1 n0 n1
    obtain ⟨D0, D1⟩ := rate_bound d n d0 d1 n0 n1
    clear hi
    have w1 : IntKind.i64.wrap (u * n) = u * n := IntWalk.i64_in _ (by omega)
    have w2 : IntKind.i64.wrap (d * n) = d * n := IntWalk.i64_in _ (by omega)
    by_cases hlt : t - l < 0
    · have e1 : wayI l t = l - t := if_pos hlt
      have e2 : stepI2 l t (u * n) (d * n) = d * n := if_pos hlt
      rw [e1, e2]
      clear e1 e2
      by_cases hs : d * n = 0
      · rw [hs] at w2 D0 D1 ⊢
        go_enter Try.func13, Try.ntmps13
        go_wp2_with fail
        refine (KA.out _).mono ?_
        rintro e w' ⟨rfl, rfl⟩
        go_wp2_with fail
        go_ret2
        exact ⟨ret_ie (by unfold setN; simp) (by unfold setE; simp; try omega), rfl⟩
      · go_enter Try.func13, Try.ntmps13
        go_wp2_with fail
        refine (KA.out _).mono ?_
        rintro e w' ⟨rfl, rfl⟩
        go_wp2_with fail
        go_ret2
        exact ⟨ret_ie (by unfold setN; (try simp only [if_true]); rw [if_neg (by omega), if_neg hs]; (first | done | rfl | (congr 1; omega))) (by unfold setE; (try rw [if_pos rfl]); rw [if_neg (by omega), if_neg hs]), rfl⟩
    · have e1 : wayI l t = t - l := if_neg hlt
      have e2 : stepI2 l t (u * n) (d * n) = u * n := if_neg hlt
      rw [e1, e2]
      clear e1 e2
      by_cases hz : t - l = 0
      · go_enter Try.func13, Try.ntmps13
        go_wp2_with fail
        refine (KA.out _).mono ?_
        rintro e w' ⟨rfl, rfl⟩
        go_wp2_with fail
        go_ret2
        exact ⟨ret_ie (by unfold setN; simp; try omega) (by unfold setE; simp; try omega), rfl⟩
      · by_cases hs : u * n = 0
        · rw [hs] at w1 U0 U1 ⊢
          go_enter Try.func13, Try.ntmps13
          go_wp2_with fail
          refine (KA.out _).mono ?_
          rintro e w' ⟨rfl, rfl⟩
          go_wp2_with fail
          go_ret2
          exact ⟨ret_ie (by unfold setN; simp) (by unfold setE; simp; try omega), rfl⟩
        · go_enter Try.func13, Try.ntmps13
          go_wp2_with fail
          refine (KA.out _).mono ?_
          rintro e w' ⟨rfl, rfl⟩
          go_wp2_with fail
          go_ret2
          exact ⟨ret_ie (by unfold setN; (try simp only [if_true]); rw [if_neg (by omega), if_neg hs]; (first | done | rfl | (congr 1; omega))) (by unfold setE; (try rw [if_pos rfl]); rw [if_neg (by omega), if_neg hs]), rfl⟩
set_option maxHeartbeats 1000000 in
set_option maxRecDepth 100000 in
theorem rsettle_any (l t u d n : Int) (w : World) : Calls Try.prog 14 #[.int .i64 l, .int .i64 t, .int .i64 u, .int .i64 d, .int .i64 n] w fun e w' => e = .returned (.tuple #[.int .i64 (setV l t u d n), .int .i64 (setF l t u d n)]) ∧ w = w' := by
  have hv : setV l t u d n = if folB l t u d n = true then setN (wayI l t) (stepI2 l t (u * n) (d * n)) else 0 := rfl
  have hx : setF l t u d n = if folB l t u d n = true then setE (wayI l t) (stepI2 l t (u * n) (d * n)) else 1 := rfl
  have ha := fun w => follows_any l t u d n w
  have hi := (fol_iff l t u d n).1
  rw [hv, hx]
  clear hv hx
  obtain ⟨Z, hZ⟩ : ∃ Z, Z = folB l t u d n := ⟨_, rfl⟩
  rw [← hZ] at ha hi ⊢
  clear hZ
  have KA := Lib.hid ha
  clear ha
  cases Z
  · clear hi
    go_enter Try.func14, Try.ntmps14
    go_wp2_with fail
    refine (KA.out _).mono ?_
    rintro e w' ⟨rfl, rfl⟩
    go_wp2_with fail
    go_ret2
    exact ⟨rfl, rfl⟩
  · obtain ⟨l0, l1, t0, t1, u0, u1, d0, d1, n0, n1⟩ := hi rfl
    obtain ⟨U0, U1⟩ := rate_bound u n u0 u1 n0 n1
    obtain ⟨D0, D1⟩ := rate_bound d n d0 d1 n0 n1
    clear hi
    have w1 : IntKind.i64.wrap (u * n) = u * n := IntWalk.i64_in _ (by omega)
    have w2 : IntKind.i64.wrap (d * n) = d * n := IntWalk.i64_in _ (by omega)
    by_cases hlt : t - l < 0
    · have e1 : wayI l t = l - t := if_pos hlt
      have e2 : stepI2 l t (u * n) (d * n) = d * n := if_pos hlt
      rw [e1, e2]
      clear e1 e2
      by_cases hs : d * n = 0
      · rw [hs] at w2 D0 D1 ⊢
        go_enter Try.func14, Try.ntmps14
        go_wp2_with fail
        refine (KA.out _).mono ?_
        rintro e w' ⟨rfl, rfl⟩
        go_wp2_with fail
        go_ret2
        exact ⟨ret_ie (by unfold setN; simp) (by unfold setE; simp; try omega), rfl⟩
      · go_enter Try.func14, Try.ntmps14
        go_wp2_with fail
        refine (KA.out _).mono ?_
        rintro e w' ⟨rfl, rfl⟩
        go_wp2_with fail
        go_ret2
        exact ⟨ret_ie (by unfold setN; (try simp only [if_true]); rw [if_neg (by omega), if_neg hs]; (first | done | rfl | (congr 1; omega))) (by unfold setE; (try rw [if_pos rfl]); rw [if_neg (by omega), if_neg hs]), rfl⟩
    · have e1 : wayI l t = t - l := if_neg hlt
      have e2 : stepI2 l t (u * n) (d * n) = u * n := if_neg hlt
      rw [e1, e2]
      clear e1 e2
      by_cases hz : t - l = 0
      · go_enter Try.func14, Try.ntmps14
        go_wp2_with fail
        refine (KA.out _).mono ?_
        rintro e w' ⟨rfl, rfl⟩
        go_wp2_with fail
        go_ret2
        exact ⟨ret_ie (by unfold setN; simp; try omega) (by unfold setE; simp; try omega), rfl⟩
      · by_cases hs : u * n = 0
        · rw [hs] at w1 U0 U1 ⊢
          go_enter Try.func14, Try.ntmps14
          go_wp2_with fail
          refine (KA.out _).mono ?_
          rintro e w' ⟨rfl, rfl⟩
          go_wp2_with fail
          go_ret2
          exact ⟨ret_ie (by unfold setN; simp) (by unfold setE; simp; try omega), rfl⟩
        · go_enter Try.func14, Try.ntmps14
          go_wp2_with fail
          refine (KA.out _).mono ?_
          rintro e w' ⟨rfl, rfl⟩
          go_wp2_with fail
          go_ret2
          exact ⟨ret_ie (by unfold setN; (try simp only [if_true]); rw [if_neg (by omega), if_neg hs]; (first | done | rfl | (congr 1; omega))) (by unfold setE; (try rw [if_pos rfl]); rw [if_neg (by omega), if_neg hs]), rfl⟩
end Go.Proofs.Ytepmeacdacnhmaa
