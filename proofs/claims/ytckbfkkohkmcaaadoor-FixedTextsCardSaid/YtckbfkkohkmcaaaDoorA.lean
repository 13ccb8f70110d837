/- Contracts of the specification's functions on texts: digits, Round, Text. -/
import Derived.Test.YtckbfkkohkmcaaaDoorV
import Derived.Test.YtckbfkkohkmcaaaDoorZ
namespace Go.Proofs.YtckbfkkohkmcaaaDoor
open Go.RowKit

theorem dig_at_bytes (s : ByteArray) (k : Nat) (hlt : k < s.size) (h : k < ndig s.data.toList) : 48 ≤ (s[k]'hlt).toNat ∧ (s[k]'hlt).toNat ≤ 57 := by
  have hsl : k < s.data.toList.length := by rw [← Lib.size_eq]; exact hlt
  have hd := ndig_at s.data.toList k hsl h
  unfold dgt at hd
  rw [Bool.and_eq_true, decide_eq_true_eq, decide_eq_true_eq] at hd
  exact hd
theorem dig_stop_bytes (s : ByteArray) (k : Nat) (hlt : k < s.size) (h : k = ndig s.data.toList) : ¬ (48 ≤ (s[k]'hlt).toNat ∧ (s[k]'hlt).toNat ≤ 57) := by
  subst h
  have hd := ndig_stop s.data.toList (by rw [← Lib.size_eq]; exact hlt)
  intro h2
  have : dgt (s.data.toList[ndig s.data.toList]'(by rw [← Lib.size_eq]; exact hlt)) = true := by
    unfold dgt
    rw [Bool.and_eq_true, decide_eq_true_eq, decide_eq_true_eq]
    exact h2
  rw [hd] at this; cases this

set_option maxHeartbeats 1000000 in
theorem rdigits_any (s : ByteArray) (w : World) (hs : s.size ≤ 1000) :
    Calls Tryd.prog 38 #[.string s] w fun e w' => e = .returned (.int .i64 (ndig s.data.toList)) ∧ w = w' := by
  have hle := ndig_le s.data.toList
  rw [← Lib.size_eq] at hle
  obtain ⟨K, hK⟩ : ∃ K, K = ndig s.data.toList := ⟨_, rfl⟩
  rw [← hK] at hle ⊢
  go_enter Tryd.func38, Tryd.ntmps38
  go_wp2_with fail
  go_loop [3] (fun i => ∃ k : Nat, k ≤ K ∧ i = .int .i64 k) (fun i => s.size - (intOf i).toNat)
  case atStart => exact ⟨0, Nat.zero_le _, rfl⟩
  case round =>
    obtain ⟨k, hk, rfl⟩ := hrel
    by_cases hlt : k < s.size
    · by_cases hkK : k < K
      · obtain ⟨v1, v2⟩ := dig_at_bytes s k hlt (by omega)
        have u1 : decide ((48 : Int) ≤ ↑s[k].toNat) = true := by rw [decide_eq_true_eq]; omega
        have u2 : decide ((↑s[k].toNat : Int) ≤ 57) = true := by rw [decide_eq_true_eq]; omega
        have HK := Lib.hid hK
        clear hK v1 v2
        go_wp2_with fail
        go_round
        case rel => exact ⟨k + 1, by omega, by go_num⟩
        case measure => simp [intOf]; omega
      · obtain rfl : k = K := by omega
        have hd := dig_stop_bytes s k hlt hK
        have HK := Lib.hid hK
        clear hK hle hk
        by_cases h48 : 48 ≤ s[k].toNat
        · have u1 : decide ((48 : Int) ≤ ↑s[k].toNat) = true := by rw [decide_eq_true_eq]; omega
          have u2 : decide ((↑s[k].toNat : Int) ≤ 57) = false := by rw [decide_eq_false_iff_not]; omega
          clear hd h48
          go_wp2_with fail
          go_ret
          exact ⟨rfl, rfl⟩
        · have u1 : decide ((48 : Int) ≤ ↑s[k].toNat) = false := by rw [decide_eq_false_iff_not]; omega
          clear hd h48
          go_wp2_with fail
          go_ret
          exact ⟨rfl, rfl⟩
    · obtain rfl : k = K := by omega
      go_wp2_with fail
      go_ret
      exact ⟨rfl, rfl⟩

/-! Round -/
theorem divU_unit (n : Nat) (d : Nat) (_hd : d ≤ 3) (hn : n ≤ 1000000000000) : divU n (stepI d).natAbs = (((n : Int) + stepI d / 2) / stepI d) := by
  have hq : n / 18446744073709551616 = 0 := by omega
  unfold divU stepI
  split
  · rw [show (1000 : Int).natAbs = 1000 from rfl, hq]; split; · omega
    split; · omega
    split <;> omega
  · split
    · rw [show (100 : Int).natAbs = 100 from rfl, hq]; split; · omega
      split; · omega
      split <;> omega
    · split
      · rw [show (10 : Int).natAbs = 10 from rfl, hq]; split; · omega
        split; · omega
        split <;> omega
      · rw [show (1 : Int).natAbs = 1 from rfl, hq]; split; · omega
        split; · omega
        split <;> omega
theorem step_range (d : Nat) : 1 ≤ stepI d ∧ stepI d ≤ 1000 := by unfold stepI; split <;> (try split) <;> (try split) <;> omega
theorem roundI_ref (n : Int) (d : Nat) (hd : d ≤ 3) : roundI n d = if clampI n < 0 then -((-clampI n + stepI d / 2) / stepI d * stepI d) else clampI ((clampI n + stepI d / 2) / stepI d * stepI d) := by
  have rc := clampI_range n
  obtain ⟨s1, s2⟩ := step_range d
  have e : mulDivI n 1 (stepI d) = quoI (clampI n) (stepI d) := by
    unfold mulDivI
    rw [clampI_in 1 (by omega) (by omega), clampI_in (stepI d) (by omega) (by omega), Int.mul_one]
  unfold roundI
  rw [e]
  by_cases h : clampI n < 0
  · rw [if_pos h, quoI_neg2 _ _ (by omega) (by omega), divU_unit _ d hd (by omega), show (((clampI n).natAbs : Nat) : Int) = -clampI n by omega, Int.neg_mul]
  · rw [if_neg h, quoI_pos _ _ (by omega) (by omega), divU_unit _ d hd (by omega), show (((clampI n).natAbs : Nat) : Int) = clampI n by omega]
    have h2 : 0 ≤ (clampI n + stepI d / 2) / stepI d * stepI d ∧ (clampI n + stepI d / 2) / stepI d * stepI d ≤ 1000000000000 := by
      unfold stepI
      split
      · omega
      · split
        · omega
        · split <;> omega
    rw [clampI_in _ (by omega) h2.2]

def pw (j : Nat) : Int := if j = 0 then 1 else if j = 1 then 10 else if j = 2 then 100 else 1000
theorem pw_step (j : Nat) (h : j < 3) : pw j * 10 = pw (j + 1) := by
  have : j = 0 ∨ j = 1 ∨ j = 2 := by omega
  rcases this with rfl | rfl | rfl <;> decide +kernel
theorem pw_range (j : Nat) : 1 ≤ pw j ∧ pw j ≤ 1000 := by unfold pw; split <;> (try split) <;> (try split) <;> omega
theorem step_pw (d : Nat) (h : d ≤ 3) : stepI d = pw (3 - d) := by
  have : d = 0 ∨ d = 1 ∨ d = 2 ∨ d = 3 := by omega
  rcases this with rfl | rfl | rfl | rfl <;> decide +kernel

set_option maxHeartbeats 1000000 in
theorem rround_in (n : Int) (d : Nat) (w : World) (hd : d ≤ 3) :
    Calls Tryd.prog 11 #[.int .i64 n, .int .i64 d] w fun e w' => e = .returned (.tuple #[.int .i64 (roundI n d), .int .i64 0]) ∧ w = w' := by
  have rc := clampI_range n
  obtain ⟨s1, s2⟩ := step_range d
  have hR := roundI_ref n d hd
  obtain ⟨R, hRe⟩ : ∃ R, R = roundI n d := ⟨_, rfl⟩
  rw [← hRe] at hR ⊢
  have t0 : decide ((d : Int) < 0) = false := by rw [decide_eq_false_iff_not]; omega
  have t1 : decide ((3 : Int) < d) = false := by rw [decide_eq_false_iff_not]; omega
  obtain ⟨C, hC⟩ : ∃ C, C = clampI n := ⟨_, rfl⟩
  obtain ⟨U, hU⟩ : ∃ U, U = stepI d := ⟨_, rfl⟩
  obtain ⟨H, hH⟩ : ∃ H, H = U / 2 := ⟨_, rfl⟩
  rw [← hC, ← hU, ← hH] at hR
  rw [← hC] at rc
  rw [← hU] at s1 s2
  have h0 : 0 ≤ H := by omega
  have h1 : H ≤ 500 := by omega
  have e1 : wrap64 (U / 2) = H := by unfold wrap64; omega
  have hUd : U / 2 = H := hH.symm
  have HC := Lib.hid hC.symm
  have HUe := Lib.hid hU
  have n1 : ¬ U = 0 := by omega
  have HRe := Lib.hid hR
  clear hR hRe hC hU hH
  go_enter Tryd.func11, Tryd.ntmps11
  go_wp2_with fail
  go_loop [6, 7] (fun s i => ∃ k : Nat, d ≤ k ∧ k ≤ 3 ∧ i = .int .i64 k ∧ s = .int .i64 (pw (k - d))) (fun _ i => 3 - (intOf i).toNat)
  case atStart => exact ⟨d, Nat.le_refl _, hd, rfl, by rw [Nat.sub_self]; rfl⟩
  case round =>
    obtain ⟨k, hk1, hk2, rfl, rfl⟩ := hrel
    by_cases hk : k < 3
    · have e2 := pw_step (k - d) (by omega)
      rw [show k - d + 1 = k + 1 - d by omega] at e2
      obtain ⟨p1, p2⟩ := pw_range (k - d)
      obtain ⟨pa, hpa⟩ : ∃ pa, pa = pw (k - d) := ⟨_, rfl⟩
      obtain ⟨pb, hpb⟩ : ∃ pb, pb = pw (k + 1 - d) := ⟨_, rfl⟩
      rw [← hpa] at p1 p2 e2 ⊢
      rw [← hpb] at e2
      have k3 : (k : Int) < 3 := by omega
      have HPB := Lib.hid hpb
      clear hpa hpb hk hk2 hd
      go_wp2_with fail
      go_round
      case rel => exact ⟨k + 1, by omega, by omega, by go_num, by rw [← HPB.out]⟩
      case measure => simp [intOf]; omega
    · obtain rfl : k = 3 := by omega
      have hU : pw (3 - d) = U := by rw [HUe.out, step_pw d hd]
      rw [hU]
      clear hU hk hk1 hk2
      by_cases hneg : C < 0
      · have t2 : decide (C < 0) = true := decide_eq_true hneg
        have hR := HRe.out
        rw [if_pos hneg] at hR
        have q1 : 0 ≤ (-C + H) / U := Int.ediv_nonneg (by omega) (by omega)
        have q2 : (-C + H) / U ≤ -C + H := Int.ediv_le_self _ (by omega)
        obtain ⟨q, hq⟩ : ∃ q, q = (-C + H) / U := ⟨_, rfl⟩
        rw [← hq] at hR q1 q2
        have hb := mul_bound q U 2000000000000 1000 (by omega) (by omega) (by omega) (by omega)
        obtain ⟨P, hP⟩ : ∃ P, P = q * U := ⟨_, rfl⟩
        rw [← hP] at hR hb
        have f1 : wrap64 (-C) = -C := by unfold wrap64; omega
        have f2 : wrap64 (-C + H) = -C + H := by unfold wrap64; omega
        have f3 : wrap64 ((-C + H) / U) = q := by rw [← hq]; unfold wrap64; omega
        have f3' : (-C + H) / U = q := hq.symm
        have f4 : wrap64 (q * U) = P := by rw [← hP]; unfold wrap64; omega
        have f5 : wrap64 (-P) = -P := by unfold wrap64; omega
        have f6 : (-C + H).tdiv U = q := by rw [Int.tdiv_eq_ediv_of_nonneg (by omega)]; exact f3'
        have f7 : wrap64 q = q := by unfold wrap64; omega
        subst hR
        have HF := Lib.hid (And.intro f2 (And.intro f6 (And.intro f7 (And.intro f4 (And.intro f5 f1)))))
        clear hneg hq hP hb q1 q2 rc HRe e1 f1 f2 f3 f3' f4 f5 f6 f7
        go_wp2_with (go_at_call 28; refine (rclamp_any _ _).mono ?_; rintro e w' ⟨rfl, rfl⟩; rw [HC.out])
        go_ret2
        obtain ⟨f2, f6, f7, f4, f5, f1⟩ := HF.out
        refine ⟨?_, rfl⟩
        show Ending.returned (.tuple #[.int .i64 (wrap64 (-wrap64 (wrap64 ((wrap64 (wrap64 (-C) + H)).tdiv U) * U))), .int .i64 0]) = _
        rw [f1, f2, f6, f7, f4, f5]
      · have t2 : decide (C < 0) = false := decide_eq_false hneg
        have hR := HRe.out
        rw [if_neg hneg] at hR
        have q1 : 0 ≤ (C + H) / U := Int.ediv_nonneg (by omega) (by omega)
        have q2 : (C + H) / U ≤ C + H := Int.ediv_le_self _ (by omega)
        obtain ⟨q, hq⟩ : ∃ q, q = (C + H) / U := ⟨_, rfl⟩
        rw [← hq] at hR q1 q2
        have hb := mul_bound q U 2000000000000 1000 (by omega) (by omega) (by omega) (by omega)
        obtain ⟨P, hP⟩ : ∃ P, P = q * U := ⟨_, rfl⟩
        rw [← hP] at hR hb
        have f2 : wrap64 (C + H) = C + H := by unfold wrap64; omega
        have f3 : wrap64 ((C + H) / U) = q := by rw [← hq]; unfold wrap64; omega
        have f3' : (C + H) / U = q := hq.symm
        have f4 : wrap64 (q * U) = P := by rw [← hP]; unfold wrap64; omega
        have f8 : 0 ≤ C + H := by omega
        have HRR := Lib.hid hR
        have f6 : (C + H).tdiv U = q := by rw [Int.tdiv_eq_ediv_of_nonneg f8]; exact f3'
        have f7 : wrap64 q = q := by unfold wrap64; omega
        have HF := Lib.hid (And.intro f2 (And.intro f6 (And.intro f7 f4)))
        clear hneg hq hP hb q1 q2 rc HRe e1 hR f2 f3 f3' f4 f6 f7 f8
        go_wp2_with (go_at_call 28; refine (rclamp_any _ _).mono ?_; rintro e w' ⟨rfl, rfl⟩; try rw [HC.out])
        go_ret2
        obtain ⟨f2, f6, f7, f4⟩ := HF.out
        refine ⟨?_, rfl⟩
        show Ending.returned (.tuple #[.int .i64 (clampI (wrap64 (wrap64 ((wrap64 (C + H)).tdiv U) * U))), .int .i64 0]) = _
        rw [f2, f6, f7, f4, ← HRR.out]
end Go.Proofs.YtckbfkkohkmcaaaDoor
