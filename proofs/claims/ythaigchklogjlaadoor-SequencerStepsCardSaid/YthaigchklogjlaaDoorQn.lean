/- Contracts of the specification of sequencer (plenumref21), of few. -/
import Derived.Test.YthaigchklogjlaaDoorQm
import Derived.Test.YthaigchklogjlaaDoorQr
import Derived.Deep.QuietTactic
import Derived.BigQuiet
namespace Go.Proofs.YthaigchklogjlaaDoor
open Go.RowKit Go.Shelf

set_option linter.unusedVariables false
set_option linter.unusedSimpArgs false
theorem inR_no {lo n hi : Int} (h : ¬ (lo ≤ n ∧ n ≤ hi)) : inR lo n hi = false := by
  unfold inR
  rw [Bool.and_eq_false_iff, decide_eq_false_iff_not, decide_eq_false_iff_not]
  omega
theorem rtime_any (d : Int) (w : World) : Calls Tryd.prog 29 #[.int .i64 d] w fun e w' => e = .returned (.bool (inR 1 d 86400)) ∧ w = w' := by
  by_cases h1 : 1 ≤ d
  · by_cases h2 : d ≤ 86400
    · rw [inR_yes h1 h2]
      go_enter Tryd.func29, Tryd.ntmps29
      go_wp2_with fail
      go_ret
      exact ⟨rfl, rfl⟩
    · rw [inR_no (fun h => h2 h.2)]
      go_enter Tryd.func29, Tryd.ntmps29
      go_wp2_with fail
      go_ret
      exact ⟨rfl, rfl⟩
  · rw [inR_no (fun h => h1 h.1)]
    go_enter Tryd.func29, Tryd.ntmps29
    go_wp2_with fail
    go_ret
    exact ⟨rfl, rfl⟩
theorem rTime_any (d : Int) (w : World) : Calls Tryd.prog 17 #[.int .i64 d] w fun e w' => e = .returned (.bool (inR 1 d 86400)) ∧ w = w' := by
  have KT := Lib.hid (rtime_any d)
  obtain ⟨B, hB⟩ : ∃ x, x = inR 1 d 86400 := ⟨_, rfl⟩
  rw [← hB] at KT ⊢
  clear hB
  go_enter Tryd.func17, Tryd.ntmps17
  go_wp2_with fail
  refine (KT.out _).mono ?_
  rintro e w1 ⟨rfl, rfl⟩
  go_wp2_with fail
  go_ret
  exact ⟨rfl, rfl⟩
theorem few_any (a : Option Addr) (n c : Nat) (w : World) (hn : n ≤ 9223372036854775807) : Calls Tryd.prog 10 #[.slice a n c] w fun e w' => e = .returned (.bool (decide (n ≤ 10))) ∧ w = w' := by
  have hz : decide ((n : Int) ≤ 10) = decide (n ≤ 10) := decide_eq_decide.2 ⟨fun _ => by omega, fun _ => by omega⟩
  rw [← hz]
  clear hz
  go_enter Tryd.func10, Tryd.ntmps10
  go_wp2_with fail
  go_ret
  exact ⟨rfl, rfl⟩
set_option maxHeartbeats 1000000 in
theorem rpossible_bin (k n : Int) (w : World) : Calls Tryd.prog 30 #[.agg #[.int .i64 k, .int .i64 n], .int .i64 2] w fun e w' => e = .returned (.bool (fitQ ⟨#[98, 105, 110, 97, 114, 121]⟩ k n)) ∧ Below w.heap.size w w' := by
  obtain ⟨W, b, hW, hb, R1, B, sz⟩ := box1 w #[.int .i64 k, .int .i64 n] 27
  have HB := Lib.hid B
  have r0 := R1.c 0 _ rfl
  have r1 := R1.c 1 _ rfl
  clear R1 B sz
  have HF := Lib.hid (fitQ_bin k n)
  obtain ⟨F, hF⟩ : ∃ x, x = fitQ ⟨#[98, 105, 110, 97, 114, 121]⟩ k n := ⟨_, rfl⟩
  rw [← hF] at HF ⊢
  clear hF
  by_cases hk : k = 2
  · have bhk : (k == 2) = true := by rw [beq_iff_eq]; exact hk
    have Hhk := Lib.hid hk
    clear hk
    by_cases hl : n = 0
    · have bhl : (n == 0) = true := by rw [beq_iff_eq]; exact hl
      have Hhl := Lib.hid hl
      clear hl
      by_cases hh : n = 1
      · have bhh : (n == 1) = true := by rw [beq_iff_eq]; exact hh
        have Hhh := Lib.hid hh
        clear hh
        exact absurd Hhl.out (by have := Hhh.out; omega)
      · have bhh : (n == 1) = false := by rw [beq_eq_false_iff_ne]; exact hh
        have Hhh := Lib.hid hh
        clear hh
        go_enter Tryd.func30, Tryd.ntmps30
        go_upto_region 1 with fail
        rw [← hW]
        try rw [← hb]
        clear hW hb
        go_wp2_with fail
        go_ret
        have h1 := Hhk.out
        have h2 := Hhl.out
        have h3 := Hhh.out
        refine ⟨?_, HB.out⟩
        rw [HF.out]
        first
          | (rw [decide_eq_false h1]; rfl)
          | (rw [decide_eq_true h1, inR_yes (by omega) (by omega)]; rfl)
          | (rw [decide_eq_true h1, inR_no (by omega)]; rfl)
    · have bhl : (n == 0) = false := by rw [beq_eq_false_iff_ne]; exact hl
      have Hhl := Lib.hid hl
      clear hl
      by_cases hh : n = 1
      · have bhh : (n == 1) = true := by rw [beq_iff_eq]; exact hh
        have Hhh := Lib.hid hh
        clear hh
        go_enter Tryd.func30, Tryd.ntmps30
        go_upto_region 1 with fail
        rw [← hW]
        try rw [← hb]
        clear hW hb
        go_wp2_with fail
        go_ret
        have h1 := Hhk.out
        have h2 := Hhl.out
        have h3 := Hhh.out
        refine ⟨?_, HB.out⟩
        rw [HF.out]
        first
          | (rw [decide_eq_false h1]; rfl)
          | (rw [decide_eq_true h1, inR_yes (by omega) (by omega)]; rfl)
          | (rw [decide_eq_true h1, inR_no (by omega)]; rfl)
      · have bhh : (n == 1) = false := by rw [beq_eq_false_iff_ne]; exact hh
        have Hhh := Lib.hid hh
        clear hh
        go_enter Tryd.func30, Tryd.ntmps30
        go_upto_region 1 with fail
        rw [← hW]
        try rw [← hb]
        clear hW hb
        go_wp2_with fail
        go_ret
        have h1 := Hhk.out
        have h2 := Hhl.out
        have h3 := Hhh.out
        refine ⟨?_, HB.out⟩
        rw [HF.out]
        first
          | (rw [decide_eq_false h1]; rfl)
          | (rw [decide_eq_true h1, inR_yes (by omega) (by omega)]; rfl)
          | (rw [decide_eq_true h1, inR_no (by omega)]; rfl)
  · have bhk : (k == 2) = false := by rw [beq_eq_false_iff_ne]; exact hk
    have Hhk := Lib.hid hk
    clear hk
    by_cases hl : n = 0
    · have bhl : (n == 0) = true := by rw [beq_iff_eq]; exact hl
      have Hhl := Lib.hid hl
      clear hl
      by_cases hh : n = 1
      · have bhh : (n == 1) = true := by rw [beq_iff_eq]; exact hh
        have Hhh := Lib.hid hh
        clear hh
        exact absurd Hhl.out (by have := Hhh.out; omega)
      · have bhh : (n == 1) = false := by rw [beq_eq_false_iff_ne]; exact hh
        have Hhh := Lib.hid hh
        clear hh
        go_enter Tryd.func30, Tryd.ntmps30
        go_upto_region 1 with fail
        rw [← hW]
        try rw [← hb]
        clear hW hb
        go_wp2_with fail
        go_ret
        have h1 := Hhk.out
        have h2 := Hhl.out
        have h3 := Hhh.out
        refine ⟨?_, HB.out⟩
        rw [HF.out]
        first
          | (rw [decide_eq_false h1]; rfl)
          | (rw [decide_eq_true h1, inR_yes (by omega) (by omega)]; rfl)
          | (rw [decide_eq_true h1, inR_no (by omega)]; rfl)
    · have bhl : (n == 0) = false := by rw [beq_eq_false_iff_ne]; exact hl
      have Hhl := Lib.hid hl
      clear hl
      by_cases hh : n = 1
      · have bhh : (n == 1) = true := by rw [beq_iff_eq]; exact hh
        have Hhh := Lib.hid hh
        clear hh
        go_enter Tryd.func30, Tryd.ntmps30
        go_upto_region 1 with fail
        rw [← hW]
        try rw [← hb]
        clear hW hb
        go_wp2_with fail
        go_ret
        have h1 := Hhk.out
        have h2 := Hhl.out
        have h3 := Hhh.out
        refine ⟨?_, HB.out⟩
        rw [HF.out]
        first
          | (rw [decide_eq_false h1]; rfl)
          | (rw [decide_eq_true h1, inR_yes (by omega) (by omega)]; rfl)
          | (rw [decide_eq_true h1, inR_no (by omega)]; rfl)
      · have bhh : (n == 1) = false := by rw [beq_eq_false_iff_ne]; exact hh
        have Hhh := Lib.hid hh
        clear hh
        go_enter Tryd.func30, Tryd.ntmps30
        go_upto_region 1 with fail
        rw [← hW]
        try rw [← hb]
        clear hW hb
        go_wp2_with fail
        go_ret
        have h1 := Hhk.out
        have h2 := Hhl.out
        have h3 := Hhh.out
        refine ⟨?_, HB.out⟩
        rw [HF.out]
        first
          | (rw [decide_eq_false h1]; rfl)
          | (rw [decide_eq_true h1, inR_yes (by omega) (by omega)]; rfl)
          | (rw [decide_eq_true h1, inR_no (by omega)]; rfl)
set_option maxHeartbeats 1000000 in
theorem rpossible_u (k n : Int) (w : World) : Calls Tryd.prog 30 #[.agg #[.int .i64 k, .int .i64 n], .int .i64 1] w fun e w' => e = .returned (.bool (fitQ ⟨#[85]⟩ k n)) ∧ Below w.heap.size w w' := by
  obtain ⟨W, b, hW, hb, R1, B, sz⟩ := box1 w #[.int .i64 k, .int .i64 n] 27
  have HB := Lib.hid B
  have r0 := R1.c 0 _ rfl
  have r1 := R1.c 1 _ rfl
  clear R1 B sz
  have HF := Lib.hid (fitQ_u k n)
  obtain ⟨F, hF⟩ : ∃ x, x = fitQ ⟨#[85]⟩ k n := ⟨_, rfl⟩
  rw [← hF] at HF ⊢
  clear hF
  by_cases hk : k = 1
  · have bhk : (k == 1) = true := by rw [beq_iff_eq]; exact hk
    have Hhk := Lib.hid hk
    clear hk
    by_cases hl : -1000000000000 ≤ n
    · have Hhl := Lib.hid hl
      by_cases hh : n ≤ 1000000000000
      · have Hhh := Lib.hid hh
        go_enter Tryd.func30, Tryd.ntmps30
        go_upto_region 1 with fail
        rw [← hW]
        try rw [← hb]
        clear hW hb
        go_wp2_with fail
        go_ret
        have h1 := Hhk.out
        have h2 := Hhl.out
        have h3 := Hhh.out
        refine ⟨?_, HB.out⟩
        rw [HF.out]
        first
          | (rw [decide_eq_false h1]; rfl)
          | (rw [decide_eq_true h1, inR_yes (by omega) (by omega)]; rfl)
          | (rw [decide_eq_true h1, inR_no (by omega)]; rfl)
      · have Hhh := Lib.hid hh
        go_enter Tryd.func30, Tryd.ntmps30
        go_upto_region 1 with fail
        rw [← hW]
        try rw [← hb]
        clear hW hb
        go_wp2_with fail
        go_ret
        have h1 := Hhk.out
        have h2 := Hhl.out
        have h3 := Hhh.out
        refine ⟨?_, HB.out⟩
        rw [HF.out]
        first
          | (rw [decide_eq_false h1]; rfl)
          | (rw [decide_eq_true h1, inR_yes (by omega) (by omega)]; rfl)
          | (rw [decide_eq_true h1, inR_no (by omega)]; rfl)
    · have Hhl := Lib.hid hl
      by_cases hh : n ≤ 1000000000000
      · have Hhh := Lib.hid hh
        go_enter Tryd.func30, Tryd.ntmps30
        go_upto_region 1 with fail
        rw [← hW]
        try rw [← hb]
        clear hW hb
        go_wp2_with fail
        go_ret
        have h1 := Hhk.out
        have h2 := Hhl.out
        have h3 := Hhh.out
        refine ⟨?_, HB.out⟩
        rw [HF.out]
        first
          | (rw [decide_eq_false h1]; rfl)
          | (rw [decide_eq_true h1, inR_yes (by omega) (by omega)]; rfl)
          | (rw [decide_eq_true h1, inR_no (by omega)]; rfl)
      · have Hhh := Lib.hid hh
        exact absurd Hhl.out (by have := Hhh.out; omega)
  · have bhk : (k == 1) = false := by rw [beq_eq_false_iff_ne]; exact hk
    have Hhk := Lib.hid hk
    clear hk
    by_cases hl : -1000000000000 ≤ n
    · have Hhl := Lib.hid hl
      by_cases hh : n ≤ 1000000000000
      · have Hhh := Lib.hid hh
        go_enter Tryd.func30, Tryd.ntmps30
        go_upto_region 1 with fail
        rw [← hW]
        try rw [← hb]
        clear hW hb
        go_wp2_with fail
        go_ret
        have h1 := Hhk.out
        have h2 := Hhl.out
        have h3 := Hhh.out
        refine ⟨?_, HB.out⟩
        rw [HF.out]
        first
          | (rw [decide_eq_false h1]; rfl)
          | (rw [decide_eq_true h1, inR_yes (by omega) (by omega)]; rfl)
          | (rw [decide_eq_true h1, inR_no (by omega)]; rfl)
      · have Hhh := Lib.hid hh
        go_enter Tryd.func30, Tryd.ntmps30
        go_upto_region 1 with fail
        rw [← hW]
        try rw [← hb]
        clear hW hb
        go_wp2_with fail
        go_ret
        have h1 := Hhk.out
        have h2 := Hhl.out
        have h3 := Hhh.out
        refine ⟨?_, HB.out⟩
        rw [HF.out]
        first
          | (rw [decide_eq_false h1]; rfl)
          | (rw [decide_eq_true h1, inR_yes (by omega) (by omega)]; rfl)
          | (rw [decide_eq_true h1, inR_no (by omega)]; rfl)
    · have Hhl := Lib.hid hl
      by_cases hh : n ≤ 1000000000000
      · have Hhh := Lib.hid hh
        go_enter Tryd.func30, Tryd.ntmps30
        go_upto_region 1 with fail
        rw [← hW]
        try rw [← hb]
        clear hW hb
        go_wp2_with fail
        go_ret
        have h1 := Hhk.out
        have h2 := Hhl.out
        have h3 := Hhh.out
        refine ⟨?_, HB.out⟩
        rw [HF.out]
        first
          | (rw [decide_eq_false h1]; rfl)
          | (rw [decide_eq_true h1, inR_yes (by omega) (by omega)]; rfl)
          | (rw [decide_eq_true h1, inR_no (by omega)]; rfl)
      · have Hhh := Lib.hid hh
        exact absurd Hhl.out (by have := Hhh.out; omega)
end Go.Proofs.YthaigchklogjlaaDoor
