/- Contracts of lexer.spelling, Spell, Valid. Asked: strconv's table of powers reads as laid. -/
import Derived.Test.YtaaaddmdcldclaaGreatDoorNt
namespace Go.Proofs.YtaaaddmdcldclaaGreatDoor
open Go.RowKit Go.Shelf
set_option linter.unusedVariables false
set_option linter.unusedSimpArgs false

set_option maxHeartbeats 4000000 in
set_option maxRecDepth 100000 in
theorem spelling_any (k : Int) (t : ByteArray) (n a : Int) (ht : t.size ≤ 1000) (w : World) (hT : Tab w) : Calls Tryz.prog 36 #[.agg #[.int .i64 k, .string t, .int .i64 n, .int .i64 a]] w fun e w' => e = .returned (.string (spellB k t n)) ∧ Below w.heap.size w w' := by
  by_cases h1 : k = 1
  · subst h1
    have HY := Lib.hid (show spellB 1 t n = t from if_pos (by decide))
    obtain ⟨W, g, hW, hg, R1, B, sz⟩ := box1 w #[.int .i64 (1), .string t, .int .i64 n, .int .i64 a] 40
    have HB0 := Lib.hid B
    have HG0 := Lib.hid R1
    clear B R1 sz
    go_enter Tryz.func36, Tryz.ntmps36
    go_upto_region 1 with fail
    rw [← hW]
    try rw [← hg]
    clear hW hg
    have g_0 := HG0.out.c 0 _ rfl
    have g_1 := HG0.out.c 1 _ rfl
    have g_2 := HG0.out.c 2 _ rfl
    have g_3 := HG0.out.c 3 _ rfl
    go_wp2_with fail
    go_ret
    exact ⟨by rw [HY.out]; (first | done | rfl), HB0.out⟩
  by_cases h5 : k = 5
  · subst h5
    have HY := Lib.hid (show spellB 5 t n = t from if_pos (by decide))
    obtain ⟨W, g, hW, hg, R1, B, sz⟩ := box1 w #[.int .i64 (5), .string t, .int .i64 n, .int .i64 a] 40
    have HB0 := Lib.hid B
    have HG0 := Lib.hid R1
    clear B R1 sz
    go_enter Tryz.func36, Tryz.ntmps36
    go_upto_region 1 with fail
    rw [← hW]
    try rw [← hg]
    clear hW hg
    have g_0 := HG0.out.c 0 _ rfl
    have g_1 := HG0.out.c 1 _ rfl
    have g_2 := HG0.out.c 2 _ rfl
    have g_3 := HG0.out.c 3 _ rfl
    go_wp2_with fail
    go_ret
    exact ⟨by rw [HY.out]; (first | done | rfl), HB0.out⟩
  by_cases h6 : k = 6
  · subst h6
    have HY := Lib.hid (show spellB 6 t n = t from if_pos (by decide))
    obtain ⟨W, g, hW, hg, R1, B, sz⟩ := box1 w #[.int .i64 (6), .string t, .int .i64 n, .int .i64 a] 40
    have HB0 := Lib.hid B
    have HG0 := Lib.hid R1
    clear B R1 sz
    go_enter Tryz.func36, Tryz.ntmps36
    go_upto_region 1 with fail
    rw [← hW]
    try rw [← hg]
    clear hW hg
    have g_0 := HG0.out.c 0 _ rfl
    have g_1 := HG0.out.c 1 _ rfl
    have g_2 := HG0.out.c 2 _ rfl
    have g_3 := HG0.out.c 3 _ rfl
    go_wp2_with fail
    go_ret
    exact ⟨by rw [HY.out]; (first | done | rfl), HB0.out⟩
  by_cases h3 : k = 3
  · subst h3
    have HY := Lib.hid (show spellB 3 t n = ⟨#[34]⟩ ++ t ++ ⟨#[34]⟩ from (if_neg (by decide)).trans (if_pos rfl))
    have z1 : ¬ 9223372036854775807 < 1 + t.size := by omega
    have z2 : ¬ 9223372036854775807 < 1 + t.size + 1 := by omega
    clear h1 h5 h6 hT
    obtain ⟨W, g, hW, hg, R1, B, sz⟩ := box1 w #[.int .i64 (3), .string t, .int .i64 n, .int .i64 a] 40
    have HB0 := Lib.hid B
    have HG0 := Lib.hid R1
    clear B R1 sz
    go_enter Tryz.func36, Tryz.ntmps36
    go_upto_region 1 with fail
    rw [← hW]
    try rw [← hg]
    clear hW hg
    have g_0 := HG0.out.c 0 _ rfl
    have g_1 := HG0.out.c 1 _ rfl
    have g_2 := HG0.out.c 2 _ rfl
    have g_3 := HG0.out.c 3 _ rfl
    go_wp2_with fail
    go_ret
    exact ⟨by rw [HY.out]; (first | done | rfl), HB0.out⟩
  by_cases h2 : k = 2
  · subst h2
    have HY := Lib.hid (show spellB 2 t n = Fx.textB n from (if_neg (by decide)).trans ((if_neg (by decide)).trans (if_pos rfl)))
    have HF := Lib.hid (fun (x : World) (hb : Below w.heap.size w x) => Fx.text_any n x (hT.below hb))
    clear h1 h5 h6 h3 hT
    obtain ⟨W, g, hW, hg, R1, B, sz⟩ := box1 w #[.int .i64 (2), .string t, .int .i64 n, .int .i64 a] 40
    have HB0 := Lib.hid B
    have HG0 := Lib.hid R1
    clear B R1 sz
    go_enter Tryz.func36, Tryz.ntmps36
    go_upto_region 1 with fail
    rw [← hW]
    try rw [← hg]
    clear hW hg
    have g_0 := HG0.out.c 0 _ rfl
    have g_1 := HG0.out.c 1 _ rfl
    have g_2 := HG0.out.c 2 _ rfl
    have g_3 := HG0.out.c 3 _ rfl
    go_wp2_with fail
    refine (HF.out _ HB0.out).mono ?_
    rintro e w1 ⟨rfl, hb⟩
    have HB1 := Lib.hid (HB0.out.trans (hb.mono HB0.out.size))
    clear hb g_0 g_1 g_2 g_3
    go_wp2_with fail
    go_ret
    exact ⟨by rw [HY.out]; (first | done | rfl), HB1.out⟩
  by_cases h4 : k = 4
  · subst h4
    clear h1 h5 h6 h3 h2
    by_cases hn : 0 ≤ n ∧ n < 1440
    · have HY := Lib.hid (show spellB 4 t n = Cv.bs (Cv.clockL n) from (if_neg (by decide)).trans ((if_neg (by decide)).trans ((if_neg (by decide)).trans ((if_pos rfl).trans (if_pos hn)))))
      have HF := Lib.hid (fun (x : World) (hb : Below w.heap.size w x) => Cv.clock_yes n x hn.1 hn.2 (hT.below hb))
      clear hT hn
      obtain ⟨W, g, hW, hg, R1, B, sz⟩ := box1 w #[.int .i64 (4), .string t, .int .i64 n, .int .i64 a] 40
      have HB0 := Lib.hid B
      have HG0 := Lib.hid R1
      clear B R1 sz
      go_enter Tryz.func36, Tryz.ntmps36
      go_upto_region 1 with fail
      rw [← hW]
      try rw [← hg]
      clear hW hg
      have g_0 := HG0.out.c 0 _ rfl
      have g_1 := HG0.out.c 1 _ rfl
      have g_2 := HG0.out.c 2 _ rfl
      have g_3 := HG0.out.c 3 _ rfl
      go_wp2_with fail
      refine (HF.out _ HB0.out).mono ?_
      rintro e w1 ⟨rfl, hb⟩
      have HB1 := Lib.hid (HB0.out.trans (hb.mono HB0.out.size))
      clear hb g_0 g_1 g_2 g_3
      go_wp2_with fail
      go_ret
      exact ⟨by rw [HY.out]; (first | done | rfl), HB1.out⟩
    · have HY := Lib.hid (show spellB 4 t n = ⟨#[]⟩ from (if_neg (by decide)).trans ((if_neg (by decide)).trans ((if_neg (by decide)).trans ((if_pos rfl).trans (if_neg hn)))))
      have HF := Lib.hid (fun (x : World) => Cv.clock_no n x hn)
      clear hT hn
      obtain ⟨W, g, hW, hg, R1, B, sz⟩ := box1 w #[.int .i64 (4), .string t, .int .i64 n, .int .i64 a] 40
      have HB0 := Lib.hid B
      have HG0 := Lib.hid R1
      clear B R1 sz
      go_enter Tryz.func36, Tryz.ntmps36
      go_upto_region 1 with fail
      rw [← hW]
      try rw [← hg]
      clear hW hg
      have g_0 := HG0.out.c 0 _ rfl
      have g_1 := HG0.out.c 1 _ rfl
      have g_2 := HG0.out.c 2 _ rfl
      have g_3 := HG0.out.c 3 _ rfl
      go_wp2_with fail
      refine (HF.out _).mono ?_
      rintro e w1 ⟨rfl, rfl⟩
      clear g_0 g_1 g_2 g_3
      go_wp2_with fail
      go_ret
      exact ⟨by rw [HY.out]; (first | done | rfl), HB0.out⟩
  have HY := Lib.hid (show spellB k t n = ⟨#[]⟩ from (if_neg (by omega)).trans ((if_neg h3).trans ((if_neg h2).trans (if_neg h4))))
  have t1 : (k == 1) = false := by rw [beq_eq_false_iff_ne]; exact h1
  have t5 : (k == 5) = false := by rw [beq_eq_false_iff_ne]; exact h5
  have t6 : (k == 6) = false := by rw [beq_eq_false_iff_ne]; exact h6
  have t3 : (k == 3) = false := by rw [beq_eq_false_iff_ne]; exact h3
  have t2 : (k == 2) = false := by rw [beq_eq_false_iff_ne]; exact h2
  have t4 : (k == 4) = false := by rw [beq_eq_false_iff_ne]; exact h4
  clear h1 h5 h6 h3 h2 h4 hT
  obtain ⟨W, g, hW, hg, R1, B, sz⟩ := box1 w #[.int .i64 (k), .string t, .int .i64 n, .int .i64 a] 40
  have HB0 := Lib.hid B
  have HG0 := Lib.hid R1
  clear B R1 sz
  go_enter Tryz.func36, Tryz.ntmps36
  go_upto_region 1 with fail
  rw [← hW]
  try rw [← hg]
  clear hW hg
  have g_0 := HG0.out.c 0 _ rfl
  have g_1 := HG0.out.c 1 _ rfl
  have g_2 := HG0.out.c 2 _ rfl
  have g_3 := HG0.out.c 3 _ rfl
  go_wp2_with fail
  go_ret
  exact ⟨by rw [HY.out]; (first | done | rfl), HB0.out⟩
end Go.Proofs.YtaaaddmdcldclaaGreatDoor
