/- Contract of the specification's Valid. -/
import Derived.Test.YtaaaddmdcldclaaGreatDoorTh
namespace Go.Proofs.YtaaaddmdcldclaaGreatDoor
open Go.RowKit Go.Shelf
set_option linter.unusedVariables false
set_option linter.unusedSimpArgs false

/-- whether a token is possible, as the specification says it -/
def validB (k : Int) (t : ByteArray) (n : Int) : Bool :=
  if k = 1 then wordOkB t && decide (n = 0)
  else if k = 2 then decide (t.size = 0) && decide (-1000000000000 ≤ n) && decide (n ≤ 1000000000000)
  else if k = 3 then labelB t && decide (n = 0)
  else if k = 4 then decide (t.size = 0) && decide (0 ≤ n) && decide (n < 1440)
  else if k = 5 then (dateR t).1 && (dateR t).2 && decide (n = 0)
  else if k = 6 then sigB t && decide (n = 0)
  else false
set_option maxHeartbeats 8000000 in
set_option maxRecDepth 100000 in
theorem rvalid_any (k : Int) (t : ByteArray) (n a : Int) (ht : t.size ≤ 1000000) (w : World) : Calls Tryz.prog 19 #[.agg #[.int .i64 k, .string t, .int .i64 n, .int .i64 a]] w fun e w' => e = .returned (.bool (validB k t n)) ∧ Below w.heap.size w w' := by
  by_cases h1 : k = 1
  · subst h1
    have hcc := fun w => word_any t w
    obtain ⟨V, hV⟩ : ∃ V, V = wordOkB t := ⟨_, rfl⟩
    rw [← hV] at hcc
    have HCC := Lib.hid hcc
    have HY0 := Lib.hid (show validB 1 t n = (V && decide (n = 0)) by unfold validB; rw [if_pos rfl]; rw [hV])
    clear hcc hV
    obtain ⟨W, g, hW, hg, R1, B, sz⟩ := box1 w #[.int .i64 (1), .string t, .int .i64 n, .int .i64 a] 40
    have HB := Lib.hid B
    have HG := Lib.hid R1
    clear B R1 sz
    go_enter Tryz.func19, Tryz.ntmps19
    go_upto_region 1 with fail
    rw [← hW]
    try rw [← hg]
    clear hW hg
    have g_0 := HG.out.c 0 _ rfl
    have g_1 := HG.out.c 1 _ rfl
    have g_2 := HG.out.c 2 _ rfl
    have g_3 := HG.out.c 3 _ rfl
    go_wp2_with fail
    refine (HCC.out _).mono ?_
    rintro e w1 ⟨rfl, hb⟩
    have HG := Lib.hid (HG.out.keep hb)
    have HB := Lib.hid (HB.out.trans (hb.mono HB.out.size))
    clear hb g_0 g_1 g_2 g_3
    have g_0 := HG.out.c 0 _ rfl
    have g_1 := HG.out.c 1 _ rfl
    have g_2 := HG.out.c 2 _ rfl
    have g_3 := HG.out.c 3 _ rfl
    cases V
    · have HY := Lib.hid (show validB 1 t n = false by rw [HY0.out]; rfl)
      go_wp2_with fail
      go_ret
      exact ⟨by rw [HY.out]; (first | done | rfl), HB.out⟩
    by_cases hn : n = 0
    · have tn : (n == 0) = true := by simpa using hn
      have HY := Lib.hid (show validB 1 t n = true by rw [HY0.out, decide_eq_true hn]; rfl)
      clear hn
      go_wp2_with fail
      go_ret
      exact ⟨by rw [HY.out]; (first | done | rfl), HB.out⟩
    · have tn : (n == 0) = false := by simpa using hn
      have HY := Lib.hid (show validB 1 t n = false by rw [HY0.out, decide_eq_false hn]; rfl)
      clear hn
      go_wp2_with fail
      go_ret
      exact ⟨by rw [HY.out]; (first | done | rfl), HB.out⟩
  by_cases h2 : k = 2
  · subst h2
    have HY0 := Lib.hid (show validB 2 t n = (decide (t.size = 0) && decide (-1000000000000 ≤ n) && decide (n ≤ 1000000000000) ) by unfold validB; rw [if_neg (show ¬ (2 : Int) = 1 by decide), if_pos rfl])
    by_cases ht0 : t.size = 0
    rotate_left
    · have hne := nil_no (s := t) (by omega)
      have HY := Lib.hid (show validB 2 t n = false by rw [HY0.out, decide_eq_false ht0]; simp)
      obtain ⟨W, g, hW, hg, R1, B, sz⟩ := box1 w #[.int .i64 (2), .string t, .int .i64 n, .int .i64 a] 40
      have HB := Lib.hid B
      have HG := Lib.hid R1
      clear B R1 sz
      go_enter Tryz.func19, Tryz.ntmps19
      go_upto_region 1 with fail
      rw [← hW]
      try rw [← hg]
      clear hW hg
      have g_0 := HG.out.c 0 _ rfl
      have g_1 := HG.out.c 1 _ rfl
      have g_2 := HG.out.c 2 _ rfl
      have g_3 := HG.out.c 3 _ rfl
      go_wp2_with fail
      go_ret
      exact ⟨by rw [HY.out]; (first | done | rfl), HB.out⟩
    have hem : (t.toList == ([] : List UInt8)) = true := by rw [empty_of ht0, Lib.toList_data]; rfl
    by_cases hlo : -1000000000000 ≤ n
    rotate_left
    · have HY := Lib.hid (show validB 2 t n = false by rw [HY0.out, decide_eq_false hlo]; simp)
      obtain ⟨W, g, hW, hg, R1, B, sz⟩ := box1 w #[.int .i64 (2), .string t, .int .i64 n, .int .i64 a] 40
      have HB := Lib.hid B
      have HG := Lib.hid R1
      clear B R1 sz
      go_enter Tryz.func19, Tryz.ntmps19
      go_upto_region 1 with fail
      rw [← hW]
      try rw [← hg]
      clear hW hg
      have g_0 := HG.out.c 0 _ rfl
      have g_1 := HG.out.c 1 _ rfl
      have g_2 := HG.out.c 2 _ rfl
      have g_3 := HG.out.c 3 _ rfl
      go_wp2_with fail
      go_ret
      exact ⟨by rw [HY.out]; (first | done | rfl), HB.out⟩
    by_cases hhi : n ≤ 1000000000000
    rotate_left
    · have HY := Lib.hid (show validB 2 t n = false by rw [HY0.out, decide_eq_false hhi]; simp)
      obtain ⟨W, g, hW, hg, R1, B, sz⟩ := box1 w #[.int .i64 (2), .string t, .int .i64 n, .int .i64 a] 40
      have HB := Lib.hid B
      have HG := Lib.hid R1
      clear B R1 sz
      go_enter Tryz.func19, Tryz.ntmps19
      go_upto_region 1 with fail
      rw [← hW]
      try rw [← hg]
      clear hW hg
      have g_0 := HG.out.c 0 _ rfl
      have g_1 := HG.out.c 1 _ rfl
      have g_2 := HG.out.c 2 _ rfl
      have g_3 := HG.out.c 3 _ rfl
      go_wp2_with fail
      go_ret
      exact ⟨by rw [HY.out]; (first | done | rfl), HB.out⟩
    have HY := Lib.hid (show validB 2 t n = true by rw [HY0.out, decide_eq_true ht0, decide_eq_true hlo, decide_eq_true hhi]; simp)
    obtain ⟨W, g, hW, hg, R1, B, sz⟩ := box1 w #[.int .i64 (2), .string t, .int .i64 n, .int .i64 a] 40
    have HB := Lib.hid B
    have HG := Lib.hid R1
    clear B R1 sz
    go_enter Tryz.func19, Tryz.ntmps19
    go_upto_region 1 with fail
    rw [← hW]
    try rw [← hg]
    clear hW hg
    have g_0 := HG.out.c 0 _ rfl
    have g_1 := HG.out.c 1 _ rfl
    have g_2 := HG.out.c 2 _ rfl
    have g_3 := HG.out.c 3 _ rfl
    go_wp2_with fail
    go_ret
    exact ⟨by rw [HY.out]; (first | done | rfl), HB.out⟩
  by_cases h3 : k = 3
  · subst h3
    have hcc := fun w => rlabel_any t ht w
    obtain ⟨V, hV⟩ : ∃ V, V = labelB t := ⟨_, rfl⟩
    rw [← hV] at hcc
    have HCC := Lib.hid hcc
    have HY0 := Lib.hid (show validB 3 t n = (V && decide (n = 0)) by unfold validB; rw [if_neg (show ¬ (3 : Int) = 1 by decide), if_neg (show ¬ (3 : Int) = 2 by decide), if_pos rfl]; rw [hV])
    clear hcc hV
    obtain ⟨W, g, hW, hg, R1, B, sz⟩ := box1 w #[.int .i64 (3), .string t, .int .i64 n, .int .i64 a] 40
    have HB := Lib.hid B
    have HG := Lib.hid R1
    clear B R1 sz
    go_enter Tryz.func19, Tryz.ntmps19
    go_upto_region 1 with fail
    rw [← hW]
    try rw [← hg]
    clear hW hg
    have g_0 := HG.out.c 0 _ rfl
    have g_1 := HG.out.c 1 _ rfl
    have g_2 := HG.out.c 2 _ rfl
    have g_3 := HG.out.c 3 _ rfl
    go_wp2_with fail
    refine (HCC.out _).mono ?_
    rintro e w1 ⟨rfl, hb⟩
    have HG := Lib.hid (HG.out.keep hb)
    have HB := Lib.hid (HB.out.trans (hb.mono HB.out.size))
    clear hb g_0 g_1 g_2 g_3
    have g_0 := HG.out.c 0 _ rfl
    have g_1 := HG.out.c 1 _ rfl
    have g_2 := HG.out.c 2 _ rfl
    have g_3 := HG.out.c 3 _ rfl
    cases V
    · have HY := Lib.hid (show validB 3 t n = false by rw [HY0.out]; rfl)
      go_wp2_with fail
      go_ret
      exact ⟨by rw [HY.out]; (first | done | rfl), HB.out⟩
    by_cases hn : n = 0
    · have tn : (n == 0) = true := by simpa using hn
      have HY := Lib.hid (show validB 3 t n = true by rw [HY0.out, decide_eq_true hn]; rfl)
      clear hn
      go_wp2_with fail
      go_ret
      exact ⟨by rw [HY.out]; (first | done | rfl), HB.out⟩
    · have tn : (n == 0) = false := by simpa using hn
      have HY := Lib.hid (show validB 3 t n = false by rw [HY0.out, decide_eq_false hn]; rfl)
      clear hn
      go_wp2_with fail
      go_ret
      exact ⟨by rw [HY.out]; (first | done | rfl), HB.out⟩
  by_cases h4 : k = 4
  · subst h4
    have HY0 := Lib.hid (show validB 4 t n = (decide (t.size = 0) && decide (0 ≤ n) && decide (n < 1440) ) by unfold validB; rw [if_neg (show ¬ (4 : Int) = 1 by decide), if_neg (show ¬ (4 : Int) = 2 by decide), if_neg (show ¬ (4 : Int) = 3 by decide), if_pos rfl])
    by_cases ht0 : t.size = 0
    rotate_left
    · have hne := nil_no (s := t) (by omega)
      have HY := Lib.hid (show validB 4 t n = false by rw [HY0.out, decide_eq_false ht0]; simp)
      obtain ⟨W, g, hW, hg, R1, B, sz⟩ := box1 w #[.int .i64 (4), .string t, .int .i64 n, .int .i64 a] 40
      have HB := Lib.hid B
      have HG := Lib.hid R1
      clear B R1 sz
      go_enter Tryz.func19, Tryz.ntmps19
      go_upto_region 1 with fail
      rw [← hW]
      try rw [← hg]
      clear hW hg
      have g_0 := HG.out.c 0 _ rfl
      have g_1 := HG.out.c 1 _ rfl
      have g_2 := HG.out.c 2 _ rfl
      have g_3 := HG.out.c 3 _ rfl
      go_wp2_with fail
      go_ret
      exact ⟨by rw [HY.out]; (first | done | rfl), HB.out⟩
    have hem : (t.toList == ([] : List UInt8)) = true := by rw [empty_of ht0, Lib.toList_data]; rfl
    by_cases hlo : 0 ≤ n
    rotate_left
    · have HY := Lib.hid (show validB 4 t n = false by rw [HY0.out, decide_eq_false hlo]; simp)
      obtain ⟨W, g, hW, hg, R1, B, sz⟩ := box1 w #[.int .i64 (4), .string t, .int .i64 n, .int .i64 a] 40
      have HB := Lib.hid B
      have HG := Lib.hid R1
      clear B R1 sz
      go_enter Tryz.func19, Tryz.ntmps19
      go_upto_region 1 with fail
      rw [← hW]
      try rw [← hg]
      clear hW hg
      have g_0 := HG.out.c 0 _ rfl
      have g_1 := HG.out.c 1 _ rfl
      have g_2 := HG.out.c 2 _ rfl
      have g_3 := HG.out.c 3 _ rfl
      go_wp2_with fail
      go_ret
      exact ⟨by rw [HY.out]; (first | done | rfl), HB.out⟩
    by_cases hhi : n < 1440
    rotate_left
    · have HY := Lib.hid (show validB 4 t n = false by rw [HY0.out, decide_eq_false hhi]; simp)
      obtain ⟨W, g, hW, hg, R1, B, sz⟩ := box1 w #[.int .i64 (4), .string t, .int .i64 n, .int .i64 a] 40
      have HB := Lib.hid B
      have HG := Lib.hid R1
      clear B R1 sz
      go_enter Tryz.func19, Tryz.ntmps19
      go_upto_region 1 with fail
      rw [← hW]
      try rw [← hg]
      clear hW hg
      have g_0 := HG.out.c 0 _ rfl
      have g_1 := HG.out.c 1 _ rfl
      have g_2 := HG.out.c 2 _ rfl
      have g_3 := HG.out.c 3 _ rfl
      go_wp2_with fail
      go_ret
      exact ⟨by rw [HY.out]; (first | done | rfl), HB.out⟩
    have HY := Lib.hid (show validB 4 t n = true by rw [HY0.out, decide_eq_true ht0, decide_eq_true hlo, decide_eq_true hhi]; simp)
    obtain ⟨W, g, hW, hg, R1, B, sz⟩ := box1 w #[.int .i64 (4), .string t, .int .i64 n, .int .i64 a] 40
    have HB := Lib.hid B
    have HG := Lib.hid R1
    clear B R1 sz
    go_enter Tryz.func19, Tryz.ntmps19
    go_upto_region 1 with fail
    rw [← hW]
    try rw [← hg]
    clear hW hg
    have g_0 := HG.out.c 0 _ rfl
    have g_1 := HG.out.c 1 _ rfl
    have g_2 := HG.out.c 2 _ rfl
    have g_3 := HG.out.c 3 _ rfl
    go_wp2_with fail
    go_ret
    exact ⟨by rw [HY.out]; (first | done | rfl), HB.out⟩
  by_cases h5 : k = 5
  · subst h5
    have hcc := fun w => date_any t ht w
    obtain ⟨⟨F, O⟩, hV⟩ : ∃ V, V = dateR t := ⟨_, rfl⟩
    rw [← hV] at hcc
    have HCC := Lib.hid hcc
    have HY0 := Lib.hid (show validB 5 t n = (F && O && decide (n = 0)) by unfold validB; rw [if_neg (show ¬ (5 : Int) = 1 by decide), if_neg (show ¬ (5 : Int) = 2 by decide), if_neg (show ¬ (5 : Int) = 3 by decide), if_neg (show ¬ (5 : Int) = 4 by decide), if_pos rfl]; rw [← hV])
    clear hcc hV
    obtain ⟨W, g, hW, hg, R1, B, sz⟩ := box1 w #[.int .i64 (5), .string t, .int .i64 n, .int .i64 a] 40
    have HB := Lib.hid B
    have HG := Lib.hid R1
    clear B R1 sz
    go_enter Tryz.func19, Tryz.ntmps19
    go_upto_region 1 with fail
    rw [← hW]
    try rw [← hg]
    clear hW hg
    have g_0 := HG.out.c 0 _ rfl
    have g_1 := HG.out.c 1 _ rfl
    have g_2 := HG.out.c 2 _ rfl
    have g_3 := HG.out.c 3 _ rfl
    go_wp2_with fail
    refine (HCC.out _).mono ?_
    rintro e w1 ⟨rfl, hb⟩
    have HG := Lib.hid (HG.out.keep hb)
    have HB := Lib.hid (HB.out.trans (hb.mono HB.out.size))
    clear hb g_0 g_1 g_2 g_3
    have g_0 := HG.out.c 0 _ rfl
    have g_1 := HG.out.c 1 _ rfl
    have g_2 := HG.out.c 2 _ rfl
    have g_3 := HG.out.c 3 _ rfl
    cases F
    · have HY := Lib.hid (show validB 5 t n = false by rw [HY0.out]; rfl)
      go_wp2_with fail
      go_ret
      exact ⟨by rw [HY.out]; (first | done | rfl), HB.out⟩
    cases O
    · have HY := Lib.hid (show validB 5 t n = false by rw [HY0.out]; rfl)
      go_wp2_with fail
      go_ret
      exact ⟨by rw [HY.out]; (first | done | rfl), HB.out⟩
    by_cases hn : n = 0
    · have tn : (n == 0) = true := by simpa using hn
      have HY := Lib.hid (show validB 5 t n = true by rw [HY0.out, decide_eq_true hn]; rfl)
      clear hn
      go_wp2_with fail
      go_ret
      exact ⟨by rw [HY.out]; (first | done | rfl), HB.out⟩
    · have tn : (n == 0) = false := by simpa using hn
      have HY := Lib.hid (show validB 5 t n = false by rw [HY0.out, decide_eq_false hn]; rfl)
      clear hn
      go_wp2_with fail
      go_ret
      exact ⟨by rw [HY.out]; (first | done | rfl), HB.out⟩
  by_cases h6 : k = 6
  · subst h6
    have hcc := fun w => sign_any t w
    obtain ⟨V, hV⟩ : ∃ V, V = sigB t := ⟨_, rfl⟩
    rw [← hV] at hcc
    have HCC := Lib.hid hcc
    have HY0 := Lib.hid (show validB 6 t n = (V && decide (n = 0)) by unfold validB; rw [if_neg (show ¬ (6 : Int) = 1 by decide), if_neg (show ¬ (6 : Int) = 2 by decide), if_neg (show ¬ (6 : Int) = 3 by decide), if_neg (show ¬ (6 : Int) = 4 by decide), if_neg (show ¬ (6 : Int) = 5 by decide), if_pos rfl]; rw [hV])
    clear hcc hV
    obtain ⟨W, g, hW, hg, R1, B, sz⟩ := box1 w #[.int .i64 (6), .string t, .int .i64 n, .int .i64 a] 40
    have HB := Lib.hid B
    have HG := Lib.hid R1
    clear B R1 sz
    go_enter Tryz.func19, Tryz.ntmps19
    go_upto_region 1 with fail
    rw [← hW]
    try rw [← hg]
    clear hW hg
    have g_0 := HG.out.c 0 _ rfl
    have g_1 := HG.out.c 1 _ rfl
    have g_2 := HG.out.c 2 _ rfl
    have g_3 := HG.out.c 3 _ rfl
    go_wp2_with fail
    refine (HCC.out _).mono ?_
    rintro e w1 ⟨rfl, hb⟩
    have HG := Lib.hid (HG.out.keep hb)
    have HB := Lib.hid (HB.out.trans (hb.mono HB.out.size))
    clear hb g_0 g_1 g_2 g_3
    have g_0 := HG.out.c 0 _ rfl
    have g_1 := HG.out.c 1 _ rfl
    have g_2 := HG.out.c 2 _ rfl
    have g_3 := HG.out.c 3 _ rfl
    cases V
    · have HY := Lib.hid (show validB 6 t n = false by rw [HY0.out]; rfl)
      go_wp2_with fail
      go_ret
      exact ⟨by rw [HY.out]; (first | done | rfl), HB.out⟩
    by_cases hn : n = 0
    · have tn : (n == 0) = true := by simpa using hn
      have HY := Lib.hid (show validB 6 t n = true by rw [HY0.out, decide_eq_true hn]; rfl)
      clear hn
      go_wp2_with fail
      go_ret
      exact ⟨by rw [HY.out]; (first | done | rfl), HB.out⟩
    · have tn : (n == 0) = false := by simpa using hn
      have HY := Lib.hid (show validB 6 t n = false by rw [HY0.out, decide_eq_false hn]; rfl)
      clear hn
      go_wp2_with fail
      go_ret
      exact ⟨by rw [HY.out]; (first | done | rfl), HB.out⟩
  have HY := Lib.hid (show validB k t n = false by unfold validB; rw [if_neg h1, if_neg h2, if_neg h3, if_neg h4, if_neg h5, if_neg h6])
  have t1 : (k == 1) = false := by rw [beq_eq_false_iff_ne]; exact h1
  have t2 : (k == 2) = false := by rw [beq_eq_false_iff_ne]; exact h2
  have t3 : (k == 3) = false := by rw [beq_eq_false_iff_ne]; exact h3
  have t4 : (k == 4) = false := by rw [beq_eq_false_iff_ne]; exact h4
  have t5 : (k == 5) = false := by rw [beq_eq_false_iff_ne]; exact h5
  have t6 : (k == 6) = false := by rw [beq_eq_false_iff_ne]; exact h6
  clear h1 h2 h3 h4 h5 h6
  obtain ⟨W, g, hW, hg, R1, B, sz⟩ := box1 w #[.int .i64 (k), .string t, .int .i64 n, .int .i64 a] 40
  have HB := Lib.hid B
  have HG := Lib.hid R1
  clear B R1 sz
  go_enter Tryz.func19, Tryz.ntmps19
  go_upto_region 1 with fail
  rw [← hW]
  try rw [← hg]
  clear hW hg
  have g_0 := HG.out.c 0 _ rfl
  have g_1 := HG.out.c 1 _ rfl
  have g_2 := HG.out.c 2 _ rfl
  have g_3 := HG.out.c 3 _ rfl
  go_wp2_with fail
  go_ret
  exact ⟨by rw [HY.out]; (first | done | rfl), HB.out⟩
end Go.Proofs.YtaaaddmdcldclaaGreatDoor
