/- Contracts of the specification's quotient, its rounding and its line. -/
import Derived.Test.YtgpbcdelaipifaaDoorX
import Derived.LoopTactic
namespace Go.Proofs.YtgpbcdelaipifaaDoor
open Go.RowKit

set_option maxHeartbeats 400000 in
theorem rquot_great (N c : Nat) (w : World) (h : N / 18446744073709551616 ≥ c) :
    Calls Tryd.prog 68 #[wideV N, .int .u64 c] w fun e w' => e = .returned (.tuple #[.int .u64 18446744073709551615, .int .u64 0]) ∧ Below w.heap.size w w' := by
  obtain ⟨v1, hv1⟩ : ∃ x : Nat, x = N / 18446744073709551616 := ⟨_, rfl⟩
  obtain ⟨v0, hv0⟩ : ∃ x : Nat, x = N % 18446744073709551616 := ⟨_, rfl⟩
  rw [wideV, ← hv1, ← hv0]
  have t1 : decide (c ≤ v1) = true := by rw [decide_eq_true_eq]; omega
  clear h hv1 hv0
  simp only [wordsV]
  go_enter Tryd.func68, Tryd.ntmps68
  go_wp2_with fail
  go_ret2
  exact ⟨rfl, (Below.refl _ _).alloc (Nat.le_refl _) _⟩

set_option maxRecDepth 100000 in
set_option maxHeartbeats 2000000 in
theorem rquot_small (N c : Nat) (w : World) (h : N / 18446744073709551616 < c) (hc : c < 18446744073709551616) :
    Calls Tryd.prog 68 #[wideV N, .int .u64 c] w fun e w' => e = .returned (.tuple #[.int .u64 ((N / c : Nat) : Int), .int .u64 ((N % c : Nat) : Int)]) ∧ Below w.heap.size w w' := by
  obtain ⟨hi, hhi⟩ : ∃ x : Nat, x = N / 18446744073709551616 := ⟨_, rfl⟩
  obtain ⟨lo, hlo⟩ : ∃ x : Nat, x = N % 18446744073709551616 := ⟨_, rfl⟩
  have hT := taken_end hi lo
  rw [show hi * 18446744073709551616 + lo = N by omega] at hT
  rw [wideV, ← hhi, ← hlo]
  rw [← hhi] at h
  have hlo64 : lo < 18446744073709551616 := by omega
  have t1 : decide (c ≤ hi) = false := by rw [decide_eq_false_iff_not]; omega
  have hS := taken_start hi lo hlo64
  have HT := Lib.hid hT
  have HS := Lib.hid hS
  have HH := Lib.hid h
  have HC := Lib.hid hc
  have HL := Lib.hid hlo64
  clear hT hS h hc hlo64 hhi hlo
  obtain ⟨Q, hQ⟩ : ∃ x : Nat, x = N / c := ⟨_, rfl⟩
  obtain ⟨R, hR⟩ : ∃ x : Nat, x = N % c := ⟨_, rfl⟩
  rw [← hQ, ← hR]
  have HQ := Lib.hid hQ
  have HR := Lib.hid hR
  clear hQ hR
  have c64 : (c : Int) < 18446744073709551616 := by have := HC.out; omega
  have lo64 : (lo : Int) < 18446744073709551616 := by have := HL.out; omega
  simp only [wordsV]
  go_enter Tryd.func68, Tryd.ntmps68
  go_wp2_with fail
  go_loop [6, 7, 8] (fun r q i => ∃ k r' q' : Nat, k ≤ 64 ∧ i = .int .i64 ((k : Int) - 1) ∧ r = .int .u64 r' ∧ q = .int .u64 q' ∧ Hid (r' = taken hi lo k % c) ∧ Hid (q' = taken hi lo k / c)) (fun _ _ i => (intOf i + 1).toNat)
  case atStart =>
    refine ⟨64, hi, 0, by omega, rfl, rfl, rfl, Lib.hid ?_, Lib.hid ?_⟩
    · rw [HS.out, Nat.mod_eq_of_lt HH.out]
    · rw [HS.out, Nat.div_eq_of_lt HH.out]
  case round =>
    obtain ⟨k, r, q, hk, rfl, rfl, rfl, Hr, Hq⟩ := hrel
    rcases Nat.eq_zero_or_pos k with h0 | h0
    · subst h0
      go_wp2_with fail
      go_ret2
      have e1 : q = Q := by rw [Hq.out, HT.out, HQ.out]
      have e2 : r = R := by rw [Hr.out, HT.out, HR.out]
      subst e1 e2
      exact ⟨rfl, (Below.refl _ _).alloc (Nat.le_refl _) _⟩
    · obtain ⟨j, rfl⟩ : ∃ j, k = j + 1 := ⟨k - 1, by omega⟩
      have hst := taken_step hi lo j (by omega)
      obtain ⟨b, hb⟩ : ∃ x : Nat, x = lo / 2 ^ j % 2 := ⟨_, rfl⟩
      have hb1 : b ≤ 1 := by omega
      rw [← hb] at hst
      have hdb := div_bit (taken hi lo (j + 1)) c b (by have := HH.out; omega) hb1
      rw [← hst, ← Hr.out, ← Hq.out] at hdb
      have hql := taken_div_lt hi lo c (j + 1) hk HH.out HL.out
      rw [← Hq.out] at hql
      have hq63 : q < 9223372036854775808 := Nat.lt_of_lt_of_le hql (Nat.pow_le_pow_right (n := 2) (by omega) (by omega : 64 - (j + 1) ≤ 63))
      have hrc : r < c := by rw [Hr.out]; exact Nat.mod_lt _ (by have := HH.out; omega)
      have g1 : bits .and .u64 (↑lo / 2 ^ j) 1 = (b : Int) := by
        have e : (lo : Int) / 2 ^ j = ((lo / 2 ^ j : Nat) : Int) := by simp
        have h := u64_and_nat (lo / 2 ^ j) 1 (Nat.lt_of_le_of_lt (Nat.div_le_self _ _) HL.out) (by omega)
        rw [nat_mask1, ← hb] at h
        rw [e]; exact h
      obtain ⟨s, hs⟩ : ∃ x : Nat, x = (2 * r + b) % 18446744073709551616 := ⟨_, rfl⟩
      have g2 : bits .or .u64 (IntKind.u64.wrap (↑r * 2)) (b : Int) = (s : Int) := by
        have e : IntKind.u64.wrap ((r : Int) * 2) = ((r * 2 % 18446744073709551616 : Nat) : Int) := by rw [IntKind.wrap_u64]; omega
        rw [e, u64_or_nat _ _ (by omega) (by omega), nat_join 1 _ _ (by omega) (by omega), hs]
        omega
      have j63 : (j : Int) ≤ 63 := by omega
      have q63 : (q : Int) < 9223372036854775808 := by omega
      have r64 : (r : Int) < 18446744073709551616 := by omega
      have s64 : (s : Int) < 18446744073709551616 := by omega
      have HDB := hdb
      have HRC := Lib.hid hrc
      have HB1 := Lib.hid hb1
      have HSS := Lib.hid hs
      clear hst hb hql hdb hq63 hrc hb1 hs hk h0
      by_cases hD : c ≤ 2 * r + b
      · rw [if_pos hD, if_pos hD] at HDB
        by_cases hr63 : 9223372036854775808 ≤ r
        · have t2 : ((r : Int) / 9223372036854775808 == 1) = true := by rw [beq_iff_eq]; omega
          have g3 : IntKind.u64.wrap ((s : Int) - c) = ((2 * r + b - c : Nat) : Int) := by rw [IntKind.wrap_u64]; have := HSS.out; have := HRC.out; have := HC.out; have := HB1.out; omega
          obtain ⟨r2, hr2⟩ : ∃ x : Nat, x = 2 * r + b - c := ⟨_, rfl⟩
          rw [← hr2] at g3 HDB
          clear hD hr63 hr2
          go_wp2_with fail
          go_round
          case rel => exact ⟨j, r2, 2 * q + 1, by omega, by go_num, rfl, by go_num, Lib.hid HDB.2.symm, Lib.hid HDB.1.symm⟩
          case measure => simp [intOf]
        · have t2 : ((r : Int) / 9223372036854775808 == 1) = false := by rw [beq_eq_false_iff_ne]; omega
          have t3 : decide (c ≤ s) = true := by rw [decide_eq_true_eq]; have := HSS.out; have := HB1.out; omega
          have g3 : IntKind.u64.wrap ((s : Int) - c) = ((2 * r + b - c : Nat) : Int) := by rw [IntKind.wrap_u64]; have := HSS.out; have := HRC.out; have := HC.out; have := HB1.out; omega
          obtain ⟨r2, hr2⟩ : ∃ x : Nat, x = 2 * r + b - c := ⟨_, rfl⟩
          rw [← hr2] at g3 HDB
          clear hD hr63 hr2
          go_wp2_with fail
          go_round
          case rel => exact ⟨j, r2, 2 * q + 1, by omega, by go_num, rfl, by go_num, Lib.hid HDB.2.symm, Lib.hid HDB.1.symm⟩
          case measure => simp [intOf]
      · rw [if_neg hD, if_neg hD, Nat.add_zero, Nat.sub_zero] at HDB
        have hr63 : r < 9223372036854775808 := by have := HC.out; omega
        have t2 : ((r : Int) / 9223372036854775808 == 1) = false := by rw [beq_eq_false_iff_ne]; omega
        have t3 : decide (c ≤ s) = false := by rw [decide_eq_false_iff_not]; have := HSS.out; have := HB1.out; omega
        have hse : 2 * r + b = s := by have := HSS.out; have := HB1.out; omega
        rw [hse] at HDB
        clear hD hr63 hse
        go_wp2_with fail
        go_round
        case rel => exact ⟨j, s, 2 * q, by omega, by go_num, rfl, by go_num, Lib.hid HDB.2.symm, Lib.hid HDB.1.symm⟩
        case measure => simp [intOf]

set_option maxHeartbeats 1000000 in
theorem rround_walk (neg : Bool) (h l q r c : Nat) (D : Int) (w : World) (q64 : (q : Int) < 18446744073709551616) (c64 : (c : Int) < 18446744073709551616) (hrc : q < 1000000000000 → r < c)
    (hD : D = if q ≥ 1000000000000 then 1000000000000 else if r ≥ c - r then (q : Int) + 1 else (q : Int))
    (Hq : ∀ w, Calls Tryd.prog 68 #[wordsV h l, .int .u64 c] w fun e w' => e = .returned (.tuple #[.int .u64 q, .int .u64 r]) ∧ Below w.heap.size w w') :
    Calls Tryd.prog 57 #[.bool neg, wordsV h l, .int .u64 c] w fun e w' => e = .returned (.int .i64 (if neg = true then -D else D)) ∧ Below w.heap.size w w' := by
  have HQ := Lib.hid Hq
  clear Hq
  simp only [wordsV] at *
  by_cases c2 : q ≥ 1000000000000
  · have t2 : decide ((1000000000000 : Int) ≤ q) = true := by rw [decide_eq_true_eq]; omega
    rw [if_pos c2] at hD
    subst hD
    clear c2 hrc q64 c64
    cases neg
    all_goals
      go_enter Tryd.func57, Tryd.ntmps57
      go_wp2_with fail
      refine (HQ.out _).mono ?_
      rintro e w1 ⟨rfl, hb⟩
      go_wp2_with fail
      go_ret
      exact ⟨rfl, ((Below.refl _ _).alloc (Nat.le_refl _) _).trans (hb.mono (by simp))⟩
  · have t2 : decide ((1000000000000 : Int) ≤ q) = false := by rw [decide_eq_false_iff_not]; omega
    rw [if_neg c2] at hD
    have hr := hrc (by omega)
    obtain ⟨d, hd⟩ : ∃ d : Nat, d = c - r := ⟨_, rfl⟩
    have e1 : IntKind.u64.wrap ((c : Int) - r) = d := by rw [IntKind.wrap_u64]; omega
    rw [← hd] at hD
    by_cases c3 : r ≥ d
    · have t3 : decide (d ≤ r) = true := decide_eq_true c3
      rw [if_pos c3] at hD
      obtain ⟨q1, hq1⟩ : ∃ q1 : Nat, q1 = q + 1 := ⟨_, rfl⟩
      have hD1 : D = (q1 : Int) := by omega
      have e2 : IntKind.u64.wrap ((q : Int) + 1) = q1 := by rw [IntKind.wrap_u64]; omega
      have e3 : wrap64 (q1 : Int) = q1 := by unfold wrap64; omega
      have e4 : wrap64 (-(q1 : Int)) = -q1 := by unfold wrap64; omega
      subst hD1
      clear c2 c3 hrc hr hd hD hq1 q64 c64
      cases neg
      all_goals
        go_enter Tryd.func57, Tryd.ntmps57
        go_wp2_with fail
        refine (HQ.out _).mono ?_
        rintro e w1 ⟨rfl, hb⟩
        have Hb := Lib.hid hb
        clear hb
        go_wp2_with fail
        go_ret
        exact ⟨rfl, ((Below.refl _ _).alloc (Nat.le_refl _) _).trans (Hb.out.mono (by simp))⟩
    · have t3 : decide (d ≤ r) = false := decide_eq_false c3
      rw [if_neg c3] at hD
      have e3 : wrap64 (q : Int) = q := by unfold wrap64; omega
      have e4 : wrap64 (-(q : Int)) = -q := by unfold wrap64; omega
      subst hD
      clear c2 c3 hrc hr hd q64 c64
      cases neg
      all_goals
        go_enter Tryd.func57, Tryd.ntmps57
        go_wp2_with fail
        refine (HQ.out _).mono ?_
        rintro e w1 ⟨rfl, hb⟩
        have Hb := Lib.hid hb
        clear hb
        go_wp2_with fail
        go_ret
        exact ⟨rfl, ((Below.refl _ _).alloc (Nat.le_refl _) _).trans (Hb.out.mono (by simp))⟩

theorem rround_any (neg : Bool) (N c : Nat) (w : World) (h0 : 0 < c) (hc : c < 18446744073709551616) :
    Calls Tryd.prog 57 #[.bool neg, wideV N, .int .u64 c] w fun e w' => e = .returned (.int .i64 (if neg = true then -divU N c else divU N c)) ∧ Below w.heap.size w w' := by
  by_cases h : N / 18446744073709551616 ≥ c
  · refine rround_walk neg _ _ 18446744073709551615 0 c (divU N c) w (by omega) (by omega) (fun _ => by omega) ?_ (fun w => rquot_great N c w h)
    unfold divU; rw [if_pos h, if_pos (by omega)]
  · have hq : N / c < 18446744073709551616 := by
      rw [Nat.div_lt_iff_lt_mul h0]
      have h1 : (N / 18446744073709551616 + 1) * 18446744073709551616 ≤ c * 18446744073709551616 := Nat.mul_le_mul_right _ (by omega)
      rw [Nat.mul_comm 18446744073709551616 c]
      omega
    have hm := Nat.mod_lt N h0
    refine rround_walk neg _ _ (N / c) (N % c) c (divU N c) w (by generalize N / c = q at *; omega) (by omega) (fun _ => hm) ?_ (fun w => rquot_small N c w (by omega) hc)
    unfold divU; rw [if_neg h]

/-! the line -/
theorem rline_low (x x1 y1 x2 y2 : Int) (w : World) (h : clampI x1 ≥ clampI x2) :
    Calls Tryd.prog 35 #[.int .i64 x, .int .i64 x1, .int .i64 y1, .int .i64 x2, .int .i64 y2] w fun e w' => e = .returned (.int .i64 (lineI x x1 y1 x2 y2)) ∧ Below w.heap.size w w' := by
  have e : lineI x x1 y1 x2 y2 = if clampI x < clampI x1 then clampI y1 else clampI y2 := by unfold lineI; rw [if_pos h]
  rw [e]
  have t1 : decide (clampI x2 ≤ clampI x1) = true := decide_eq_true h
  by_cases h2 : clampI x < clampI x1
  · rw [if_pos h2]
    have t2 : decide (clampI x < clampI x1) = true := decide_eq_true h2
    clear h h2 e
    go_enter Tryd.func35, Tryd.ntmps35
    go_wp2_with (go_at_call 45; refine (rclamp_any _ _).mono ?_; rintro e w' ⟨rfl, rfl⟩)
    go_ret
    exact ⟨rfl, Below.refl _ _⟩
  · rw [if_neg h2]
    have t2 : decide (clampI x < clampI x1) = false := decide_eq_false h2
    clear h h2 e
    go_enter Tryd.func35, Tryd.ntmps35
    go_wp2_with (go_at_call 45; refine (rclamp_any _ _).mono ?_; rintro e w' ⟨rfl, rfl⟩)
    go_ret
    exact ⟨rfl, Below.refl _ _⟩

theorem rline_side (x x1 y1 x2 y2 : Int) (w : World) (h : clampI x1 < clampI x2) (hs : clampI x ≤ clampI x1 ∨ clampI x2 ≤ clampI x) :
    Calls Tryd.prog 35 #[.int .i64 x, .int .i64 x1, .int .i64 y1, .int .i64 x2, .int .i64 y2] w fun e w' => e = .returned (.int .i64 (lineI x x1 y1 x2 y2)) ∧ Below w.heap.size w w' := by
  have ry1 := clampI_range y1
  have ry2 := clampI_range y2
  have t1 : decide (clampI x2 ≤ clampI x1) = false := by rw [decide_eq_false_iff_not]; omega
  by_cases h2 : clampI x ≤ clampI x1
  · have e : lineI x x1 y1 x2 y2 = clampI y1 := by
      unfold lineI
      rw [if_neg (by omega), show min (max (clampI x) (clampI x1)) (clampI x2) = clampI x1 by omega, Int.sub_self, Int.mul_zero, Int.add_zero]
      exact quoI_exact2 _ _ (by omega) ry1.1 ry1.2
    rw [e]
    have t2 : decide (clampI x ≤ clampI x1) = true := decide_eq_true h2
    clear h h2 e hs ry1 ry2
    go_enter Tryd.func35, Tryd.ntmps35
    go_wp2_with (go_at_call 45; refine (rclamp_any _ _).mono ?_; rintro e w' ⟨rfl, rfl⟩)
    go_ret
    exact ⟨rfl, Below.refl _ _⟩
  · have e : lineI x x1 y1 x2 y2 = clampI y2 := by
      unfold lineI
      rw [if_neg (by omega), show min (max (clampI x) (clampI x1)) (clampI x2) = clampI x2 by omega, Int.sub_self, Int.mul_zero, Int.zero_add]
      exact quoI_exact2 _ _ (by omega) ry2.1 ry2.2
    rw [e]
    have t2 : decide (clampI x ≤ clampI x1) = false := decide_eq_false h2
    have t3 : decide (clampI x2 ≤ clampI x) = true := by rw [decide_eq_true_eq]; omega
    clear h h2 e hs ry1 ry2
    go_enter Tryd.func35, Tryd.ntmps35
    go_wp2_with (go_at_call 45; refine (rclamp_any _ _).mono ?_; rintro e w' ⟨rfl, rfl⟩)
    go_ret
    exact ⟨rfl, Below.refl _ _⟩
set_option maxHeartbeats 1000000 in
theorem rline_same (x x1 y1 x2 y2 X X1 Y1 X2 Y2 D E1 E2 Z : Int) (dn n1 m1 n2 m2 a1 a0 b1 b0 : Nat) (w : World)
    (c0 : clampI x = X) (c1 : clampI x1 = X1) (c2 : clampI y1 = Y1) (c3 : clampI x2 = X2) (c4 : clampI y2 = Y2) (t1 : decide (X2 ≤ X1) = false) (t2 : decide (X ≤ X1) = false) (t3 : decide (X2 ≤ X) = false)
    (e1 : wrap64 (X2 - X1) = D) (e2 : wrap64 (X2 - X) = E1) (e3 : wrap64 (X - X1) = E2)
    (Hd : ∀ w, Calls Tryd.prog 54 #[.int .i64 D] w fun e w' => e = .returned (.int .u64 dn) ∧ w = w')
    (H1 : ∀ w, Calls Tryd.prog 54 #[.int .i64 Y1] w fun e w' => e = .returned (.int .u64 n1) ∧ w = w')
    (H2 : ∀ w, Calls Tryd.prog 54 #[.int .i64 E1] w fun e w' => e = .returned (.int .u64 m1) ∧ w = w')
    (H3 : ∀ w, Calls Tryd.prog 54 #[.int .i64 Y2] w fun e w' => e = .returned (.int .u64 n2) ∧ w = w')
    (H4 : ∀ w, Calls Tryd.prog 54 #[.int .i64 E2] w fun e w' => e = .returned (.int .u64 m2) ∧ w = w')
    (HP : ∀ w, Calls Tryd.prog 55 #[.int .u64 n1, .int .u64 m1] w fun e w' => e = .returned (wordsV a1 a0) ∧ Below w.heap.size w w')
    (HQ : ∀ w, Calls Tryd.prog 55 #[.int .u64 n2, .int .u64 m2] w fun e w' => e = .returned (wordsV b1 b0) ∧ Below w.heap.size w w')
    (sg : Bool) (ab s1 s0 : Nat) (t4 : decide (Y1 < 0) = sg) (t5 : decide (Y2 < 0) = sg) (e4 : IntKind.u64.wrap ((a1 : Int) + b1) = ab)
    (Hs : ∀ w, Calls Tryd.prog 56 #[wordsV ab a0, .int .u64 b0] w fun e w' => e = .returned (wordsV s1 s0) ∧ Below w.heap.size w w')
    (Hr : ∀ w, Calls Tryd.prog 57 #[.bool sg, wordsV s1 s0, .int .u64 dn] w fun e w' => e = .returned (.int .i64 Z) ∧ Below w.heap.size w w') :
    Calls Tryd.prog 35 #[.int .i64 x, .int .i64 x1, .int .i64 y1, .int .i64 x2, .int .i64 y2] w fun e w' => e = .returned (.int .i64 Z) ∧ Below w.heap.size w w' := by
  have KHd := Lib.hid Hd
  have KH1 := Lib.hid H1
  have KH2 := Lib.hid H2
  have KH3 := Lib.hid H3
  have KH4 := Lib.hid H4
  have KHP := Lib.hid HP
  have KHQ := Lib.hid HQ
  have KHs := Lib.hid Hs
  have KHr := Lib.hid Hr
  clear Hd H1 H2 H3 H4 HP HQ Hs Hr
  go_enter Tryd.func35, Tryd.ntmps35
  go_wp2_with (go_at_call 45; refine (rclamp_any _ _).mono ?_; rintro e w' ⟨rfl, rfl⟩)
  refine (KHd.out _).mono ?_
  rintro e w' ⟨rfl, rfl⟩
  go_wp2_with fail
  refine (KH1.out _).mono ?_
  rintro e w' ⟨rfl, rfl⟩
  go_wp2_with fail
  refine (KH2.out _).mono ?_
  rintro e w' ⟨rfl, rfl⟩
  go_wp2_with fail
  refine (KHP.out _).mono ?_
  rintro e w1 ⟨rfl, hb1⟩
  have B1 := Lib.hid hb1
  clear hb1
  go_wp2_with fail
  refine (KH3.out _).mono ?_
  rintro e w' ⟨rfl, rfl⟩
  go_wp2_with fail
  refine (KH4.out _).mono ?_
  rintro e w' ⟨rfl, rfl⟩
  go_wp2_with fail
  refine (KHQ.out _).mono ?_
  rintro e w2 ⟨rfl, hb2⟩
  have B2 := Lib.hid (B1.out.trans (hb2.mono B1.out.size))
  clear hb2
  simp only [wordsV]
  go_wp2_with fail
  refine (KHs.out _).mono ?_
  rintro e w3 ⟨rfl, hb3⟩
  have B3 := Lib.hid (((B2.out.alloc B2.out.size _).alloc (by simp; have := B2.out.size; omega) _).trans (hb3.mono (by simp; have := B2.out.size; omega)))
  clear hb3
  simp only [wordsV]
  go_wp2_with fail
  refine (KHr.out _).mono ?_
  rintro e w4 ⟨rfl, hb4⟩
  have B4 := Lib.hid ((B3.out.alloc B3.out.size _).trans (hb4.mono (by simp; have := B3.out.size; omega)))
  clear hb4
  go_wp2_with fail
  go_ret
  exact ⟨rfl, B4.out⟩

set_option maxHeartbeats 1000000 in
theorem rline_less (x x1 y1 x2 y2 X X1 Y1 X2 Y2 D E1 E2 Z : Int) (dn n1 m1 n2 m2 a1 a0 b1 b0 : Nat) (w : World)
    (c0 : clampI x = X) (c1 : clampI x1 = X1) (c2 : clampI y1 = Y1) (c3 : clampI x2 = X2) (c4 : clampI y2 = Y2) (t1 : decide (X2 ≤ X1) = false) (t2 : decide (X ≤ X1) = false) (t3 : decide (X2 ≤ X) = false)
    (e1 : wrap64 (X2 - X1) = D) (e2 : wrap64 (X2 - X) = E1) (e3 : wrap64 (X - X1) = E2)
    (Hd : ∀ w, Calls Tryd.prog 54 #[.int .i64 D] w fun e w' => e = .returned (.int .u64 dn) ∧ w = w')
    (H1 : ∀ w, Calls Tryd.prog 54 #[.int .i64 Y1] w fun e w' => e = .returned (.int .u64 n1) ∧ w = w')
    (H2 : ∀ w, Calls Tryd.prog 54 #[.int .i64 E1] w fun e w' => e = .returned (.int .u64 m1) ∧ w = w')
    (H3 : ∀ w, Calls Tryd.prog 54 #[.int .i64 Y2] w fun e w' => e = .returned (.int .u64 n2) ∧ w = w')
    (H4 : ∀ w, Calls Tryd.prog 54 #[.int .i64 E2] w fun e w' => e = .returned (.int .u64 m2) ∧ w = w')
    (HP : ∀ w, Calls Tryd.prog 55 #[.int .u64 n1, .int .u64 m1] w fun e w' => e = .returned (wordsV a1 a0) ∧ Below w.heap.size w w')
    (HQ : ∀ w, Calls Tryd.prog 55 #[.int .u64 n2, .int .u64 m2] w fun e w' => e = .returned (wordsV b1 b0) ∧ Below w.heap.size w w')
    (s1 s2 : Bool) (d1 d0 : Nat) (t4 : decide (Y1 < 0) = s1) (t5 : decide (Y2 < 0) = s2) (hs : (s1 == s2) = false) (t6 : (decide (a1 < b1) || (decide (a1 = b1) && decide (a0 < b0))) = true)
    (Hs : ∀ w, Calls Tryd.prog 58 #[wordsV b1 b0, wordsV a1 a0] w fun e w' => e = .returned (wordsV d1 d0) ∧ Below w.heap.size w w')
    (Hr : ∀ w, Calls Tryd.prog 57 #[.bool s2, wordsV d1 d0, .int .u64 dn] w fun e w' => e = .returned (.int .i64 Z) ∧ Below w.heap.size w w') :
    Calls Tryd.prog 35 #[.int .i64 x, .int .i64 x1, .int .i64 y1, .int .i64 x2, .int .i64 y2] w fun e w' => e = .returned (.int .i64 Z) ∧ Below w.heap.size w w' := by
  have KHd := Lib.hid Hd
  have KH1 := Lib.hid H1
  have KH2 := Lib.hid H2
  have KH3 := Lib.hid H3
  have KH4 := Lib.hid H4
  have KHP := Lib.hid HP
  have KHQ := Lib.hid HQ
  have KHs := Lib.hid Hs
  have KHr := Lib.hid Hr
  clear Hd H1 H2 H3 H4 HP HQ Hs Hr
  by_cases q1 : a1 < b1
  · have u1 : decide (a1 < b1) = true := decide_eq_true q1
    clear q1 t6
    go_enter Tryd.func35, Tryd.ntmps35
    go_wp2_with (go_at_call 45; refine (rclamp_any _ _).mono ?_; rintro e w' ⟨rfl, rfl⟩)
    refine (KHd.out _).mono ?_
    rintro e w' ⟨rfl, rfl⟩
    go_wp2_with fail
    refine (KH1.out _).mono ?_
    rintro e w' ⟨rfl, rfl⟩
    go_wp2_with fail
    refine (KH2.out _).mono ?_
    rintro e w' ⟨rfl, rfl⟩
    go_wp2_with fail
    refine (KHP.out _).mono ?_
    rintro e w1 ⟨rfl, hb1⟩
    have B1 := Lib.hid hb1
    clear hb1
    go_wp2_with fail
    refine (KH3.out _).mono ?_
    rintro e w' ⟨rfl, rfl⟩
    go_wp2_with fail
    refine (KH4.out _).mono ?_
    rintro e w' ⟨rfl, rfl⟩
    go_wp2_with fail
    refine (KHQ.out _).mono ?_
    rintro e w2 ⟨rfl, hb2⟩
    have B2 := Lib.hid (B1.out.trans (hb2.mono B1.out.size))
    clear hb2
    simp only [wordsV]
    go_wp2_with fail
    refine (KHs.out _).mono ?_
    rintro e w3 ⟨rfl, hb3⟩
    have B3 := Lib.hid (((B2.out.alloc B2.out.size _).alloc (by simp; have := B2.out.size; omega) _).trans (hb3.mono (by simp; have := B2.out.size; omega)))
    clear hb3
    go_wp2_with fail
    refine (KHr.out _).mono ?_
    rintro e w4 ⟨rfl, hb4⟩
    have B4 := Lib.hid (B3.out.trans (hb4.mono B3.out.size))
    clear hb4
    go_wp2_with fail
    go_ret
    exact ⟨rfl, B4.out⟩
  · have u1 : decide (a1 < b1) = false := decide_eq_false q1
    have q2 : a1 = b1 ∧ a0 < b0 := by simpa [q1] using t6
    obtain ⟨q2, q3⟩ := q2
    have u2 : decide (a0 < b0) = true := decide_eq_true q3
    subst q2
    clear q1 q3 t6
    go_enter Tryd.func35, Tryd.ntmps35
    go_wp2_with (go_at_call 45; refine (rclamp_any _ _).mono ?_; rintro e w' ⟨rfl, rfl⟩)
    refine (KHd.out _).mono ?_
    rintro e w' ⟨rfl, rfl⟩
    go_wp2_with fail
    refine (KH1.out _).mono ?_
    rintro e w' ⟨rfl, rfl⟩
    go_wp2_with fail
    refine (KH2.out _).mono ?_
    rintro e w' ⟨rfl, rfl⟩
    go_wp2_with fail
    refine (KHP.out _).mono ?_
    rintro e w1 ⟨rfl, hb1⟩
    have B1 := Lib.hid hb1
    clear hb1
    go_wp2_with fail
    refine (KH3.out _).mono ?_
    rintro e w' ⟨rfl, rfl⟩
    go_wp2_with fail
    refine (KH4.out _).mono ?_
    rintro e w' ⟨rfl, rfl⟩
    go_wp2_with fail
    refine (KHQ.out _).mono ?_
    rintro e w2 ⟨rfl, hb2⟩
    have B2 := Lib.hid (B1.out.trans (hb2.mono B1.out.size))
    clear hb2
    simp only [wordsV]
    go_wp2_with fail
    refine (KHs.out _).mono ?_
    rintro e w3 ⟨rfl, hb3⟩
    have B3 := Lib.hid (((B2.out.alloc B2.out.size _).alloc (by simp; have := B2.out.size; omega) _).trans (hb3.mono (by simp; have := B2.out.size; omega)))
    clear hb3
    go_wp2_with fail
    refine (KHr.out _).mono ?_
    rintro e w4 ⟨rfl, hb4⟩
    have B4 := Lib.hid (B3.out.trans (hb4.mono B3.out.size))
    clear hb4
    go_wp2_with fail
    go_ret
    exact ⟨rfl, B4.out⟩

set_option maxHeartbeats 1000000 in
theorem rline_more (x x1 y1 x2 y2 X X1 Y1 X2 Y2 D E1 E2 Z : Int) (dn n1 m1 n2 m2 a1 a0 b1 b0 : Nat) (w : World)
    (c0 : clampI x = X) (c1 : clampI x1 = X1) (c2 : clampI y1 = Y1) (c3 : clampI x2 = X2) (c4 : clampI y2 = Y2) (t1 : decide (X2 ≤ X1) = false) (t2 : decide (X ≤ X1) = false) (t3 : decide (X2 ≤ X) = false)
    (e1 : wrap64 (X2 - X1) = D) (e2 : wrap64 (X2 - X) = E1) (e3 : wrap64 (X - X1) = E2)
    (Hd : ∀ w, Calls Tryd.prog 54 #[.int .i64 D] w fun e w' => e = .returned (.int .u64 dn) ∧ w = w')
    (H1 : ∀ w, Calls Tryd.prog 54 #[.int .i64 Y1] w fun e w' => e = .returned (.int .u64 n1) ∧ w = w')
    (H2 : ∀ w, Calls Tryd.prog 54 #[.int .i64 E1] w fun e w' => e = .returned (.int .u64 m1) ∧ w = w')
    (H3 : ∀ w, Calls Tryd.prog 54 #[.int .i64 Y2] w fun e w' => e = .returned (.int .u64 n2) ∧ w = w')
    (H4 : ∀ w, Calls Tryd.prog 54 #[.int .i64 E2] w fun e w' => e = .returned (.int .u64 m2) ∧ w = w')
    (HP : ∀ w, Calls Tryd.prog 55 #[.int .u64 n1, .int .u64 m1] w fun e w' => e = .returned (wordsV a1 a0) ∧ Below w.heap.size w w')
    (HQ : ∀ w, Calls Tryd.prog 55 #[.int .u64 n2, .int .u64 m2] w fun e w' => e = .returned (wordsV b1 b0) ∧ Below w.heap.size w w')
    (s1 s2 : Bool) (d1 d0 : Nat) (t4 : decide (Y1 < 0) = s1) (t5 : decide (Y2 < 0) = s2) (hs : (s1 == s2) = false) (t6 : (decide (a1 < b1) || (decide (a1 = b1) && decide (a0 < b0))) = false)
    (Hs : ∀ w, Calls Tryd.prog 58 #[wordsV a1 a0, wordsV b1 b0] w fun e w' => e = .returned (wordsV d1 d0) ∧ Below w.heap.size w w')
    (Hr : ∀ w, Calls Tryd.prog 57 #[.bool s1, wordsV d1 d0, .int .u64 dn] w fun e w' => e = .returned (.int .i64 Z) ∧ Below w.heap.size w w') :
    Calls Tryd.prog 35 #[.int .i64 x, .int .i64 x1, .int .i64 y1, .int .i64 x2, .int .i64 y2] w fun e w' => e = .returned (.int .i64 Z) ∧ Below w.heap.size w w' := by
  have KHd := Lib.hid Hd
  have KH1 := Lib.hid H1
  have KH2 := Lib.hid H2
  have KH3 := Lib.hid H3
  have KH4 := Lib.hid H4
  have KHP := Lib.hid HP
  have KHQ := Lib.hid HQ
  have KHs := Lib.hid Hs
  have KHr := Lib.hid Hr
  clear Hd H1 H2 H3 H4 HP HQ Hs Hr
  have q1 : ¬ a1 < b1 := fun h => by simp [h] at t6
  have u1 : decide (a1 < b1) = false := decide_eq_false q1
  by_cases q2 : a1 = b1
  · have q3 : ¬ a0 < b0 := fun h => by simp [h, q2] at t6
    have u2 : decide (a0 < b0) = false := decide_eq_false q3
    subst q2
    clear q1 q3 t6
    go_enter Tryd.func35, Tryd.ntmps35
    go_wp2_with (go_at_call 45; refine (rclamp_any _ _).mono ?_; rintro e w' ⟨rfl, rfl⟩)
    refine (KHd.out _).mono ?_
    rintro e w' ⟨rfl, rfl⟩
    go_wp2_with fail
    refine (KH1.out _).mono ?_
    rintro e w' ⟨rfl, rfl⟩
    go_wp2_with fail
    refine (KH2.out _).mono ?_
    rintro e w' ⟨rfl, rfl⟩
    go_wp2_with fail
    refine (KHP.out _).mono ?_
    rintro e w1 ⟨rfl, hb1⟩
    have B1 := Lib.hid hb1
    clear hb1
    go_wp2_with fail
    refine (KH3.out _).mono ?_
    rintro e w' ⟨rfl, rfl⟩
    go_wp2_with fail
    refine (KH4.out _).mono ?_
    rintro e w' ⟨rfl, rfl⟩
    go_wp2_with fail
    refine (KHQ.out _).mono ?_
    rintro e w2 ⟨rfl, hb2⟩
    have B2 := Lib.hid (B1.out.trans (hb2.mono B1.out.size))
    clear hb2
    simp only [wordsV]
    go_wp2_with fail
    refine (KHs.out _).mono ?_
    rintro e w3 ⟨rfl, hb3⟩
    have B3 := Lib.hid (((B2.out.alloc B2.out.size _).alloc (by simp; have := B2.out.size; omega) _).trans (hb3.mono (by simp; have := B2.out.size; omega)))
    clear hb3
    go_wp2_with fail
    refine (KHr.out _).mono ?_
    rintro e w4 ⟨rfl, hb4⟩
    have B4 := Lib.hid (B3.out.trans (hb4.mono B3.out.size))
    clear hb4
    go_wp2_with fail
    go_ret
    exact ⟨rfl, B4.out⟩
  · have u2 : ((a1 : Int) == b1) = false := by rw [beq_eq_false_iff_ne]; omega
    clear q1 q2 t6
    go_enter Tryd.func35, Tryd.ntmps35
    go_wp2_with (go_at_call 45; refine (rclamp_any _ _).mono ?_; rintro e w' ⟨rfl, rfl⟩)
    refine (KHd.out _).mono ?_
    rintro e w' ⟨rfl, rfl⟩
    go_wp2_with fail
    refine (KH1.out _).mono ?_
    rintro e w' ⟨rfl, rfl⟩
    go_wp2_with fail
    refine (KH2.out _).mono ?_
    rintro e w' ⟨rfl, rfl⟩
    go_wp2_with fail
    refine (KHP.out _).mono ?_
    rintro e w1 ⟨rfl, hb1⟩
    have B1 := Lib.hid hb1
    clear hb1
    go_wp2_with fail
    refine (KH3.out _).mono ?_
    rintro e w' ⟨rfl, rfl⟩
    go_wp2_with fail
    refine (KH4.out _).mono ?_
    rintro e w' ⟨rfl, rfl⟩
    go_wp2_with fail
    refine (KHQ.out _).mono ?_
    rintro e w2 ⟨rfl, hb2⟩
    have B2 := Lib.hid (B1.out.trans (hb2.mono B1.out.size))
    clear hb2
    simp only [wordsV]
    go_wp2_with fail
    refine (KHs.out _).mono ?_
    rintro e w3 ⟨rfl, hb3⟩
    have B3 := Lib.hid (((B2.out.alloc B2.out.size _).alloc (by simp; have := B2.out.size; omega) _).trans (hb3.mono (by simp; have := B2.out.size; omega)))
    clear hb3
    go_wp2_with fail
    refine (KHr.out _).mono ?_
    rintro e w4 ⟨rfl, hb4⟩
    have B4 := Lib.hid (B3.out.trans (hb4.mono B3.out.size))
    clear hb4
    go_wp2_with fail
    go_ret
    exact ⟨rfl, B4.out⟩
end Go.Proofs.YtgpbcdelaipifaaDoor
