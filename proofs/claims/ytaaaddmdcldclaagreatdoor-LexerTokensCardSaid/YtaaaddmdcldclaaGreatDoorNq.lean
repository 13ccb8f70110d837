/- Contract of lexer.readToken. -/
import Derived.Test.YtaaaddmdcldclaaGreatDoorNp
namespace Go.Proofs.YtaaaddmdcldclaaGreatDoor
open Go.RowKit Go.Shelf

def signI (c : Int) : Int := Lib.indexByte [40, 41, 44, 61, 58, 60, 62] c.toNat.toUInt8
def readTokenV (s : ByteArray) : Array Value :=
  if letB (byteI s 0) = true then readWordV s
  else if (digB (byteI s 0) || decide (byteI s 0 = 45) || decide (byteI s 0 = 42)) = true then readRunV s
  else if byteI s 0 = 34 then readTextV s
  else if 0 ≤ signI (byteI s 0) then #[tokV 6 (s.extract 0 1) 0 0, .int .i64 1, .int .i64 0]
  else #[tok0, .int .i64 0, .int .i64 2]
theorem word_form (s : ByteArray) : ∃ k t n l c, readWordV s = #[.agg #[.int .i64 k, .string t, .int .i64 n, .int .i64 0], .int .i64 l, .int .i64 c] := by
  unfold readWordV; split <;> exact ⟨_, _, _, _, _, rfl⟩
theorem run_form (s : ByteArray) : ∃ k t n l c, readRunV s = #[.agg #[.int .i64 k, .string t, .int .i64 n, .int .i64 0], .int .i64 l, .int .i64 c] := ⟨_, _, _, _, _, rfl⟩
theorem text_form (s : ByteArray) : ∃ k t n l c, readTextV s = #[.agg #[.int .i64 k, .string t, .int .i64 n, .int .i64 0], .int .i64 l, .int .i64 c] := by
  unfold readTextV; split
  · split <;> exact ⟨_, _, _, _, _, rfl⟩
  · exact ⟨_, _, _, _, _, rfl⟩

set_option maxHeartbeats 4000000 in
set_option maxRecDepth 100000 in
theorem readToken_any (s : ByteArray) (h0 : 0 < s.size) (hs : s.size ≤ 1000) (w : World) : Calls Tryz.prog 31 #[.string s] w fun e w' => e = .returned (.tuple (readTokenV s)) ∧ Below w.heap.size w w' := by
  obtain ⟨W, h, hW, hh, RT, B, sz⟩ := box1 w #[.int .i64 0, .string ⟨#[]⟩, .int .i64 0, .int .i64 0] 40
  have HB0 := Lib.hid B
  have HT0 := Lib.hid RT
  have hwh : w.heap.size ≤ h := by omega
  obtain ⟨c, hc⟩ : ∃ c : Int, c = (s[0].toNat : Int) := ⟨_, rfl⟩
  have hc2 : (s[0].toNat : Int) = c := hc.symm
  have HCC := Lib.hid (show byteI s 0 = c from (byteI_at h0).trans hc2)
  have h0' : (0 : Int) < (s.size : Int) := by omega
  have h1' : (1 : Int) ≤ (s.size : Int) := by omega
  have hle := fun w => let_any c w
  have hdi := fun w => dig_any c w
  obtain ⟨F, hF⟩ : ∃ F, F = letB c := ⟨_, rfl⟩
  obtain ⟨D, hD⟩ : ∃ F, F = digB c := ⟨_, rfl⟩
  rw [← hF] at hle
  rw [← hD] at hdi
  have HLE := Lib.hid hle
  have HDI := Lib.hid hdi
  have HF := Lib.hid hF
  have HD := Lib.hid hD
  have HS := Lib.hid hs
  have hib := fun w => Tryz.strings_IndexByte ⟨#[40, 41, 44, 61, 58, 60, 62]⟩ c w
  obtain ⟨I, hI⟩ : ∃ x, x = signI c := ⟨_, rfl⟩
  have HIB := Lib.hid (show ∀ w, Calls Tryz.prog 58 #[.string ⟨#[40, 41, 44, 61, 58, 60, 62]⟩, .int .u8 c] w fun e w' => e = .returned (.int .i64 I) ∧ w' = w by rw [hI]; exact hib)
  have HI := Lib.hid hI
  clear hle hdi hF hD hc RT B sz hib hI
  go_enter Tryz.func31, Tryz.ntmps31
  go_wp2_with fail
  rw [← hW]
  try rw [← hh]
  clear hW hh
  refine (HLE.out _).mono ?_
  rintro e w1 ⟨rfl, hb⟩
  have HB1 := Lib.hid (HB0.out.trans (hb.mono HB0.out.size))
  have HT1 := Lib.hid (HT0.out.keep hb)
  clear hb
  cases F
  rotate_left
  · obtain ⟨k, t, n, l, q, hw⟩ := word_form s
    have hc := fun w => readWord_any s h0 (by have := HS.out; omega) w
    rw [hw] at hc
    have HC := Lib.hid hc
    have HY := Lib.hid (show readTokenV s = #[.agg #[.int .i64 k, .string t, .int .i64 n, .int .i64 0], .int .i64 l, .int .i64 q] by unfold readTokenV; rw [HCC.out, if_pos HF.out.symm]; exact hw)
    clear hc hw
    go_wp2_with fail
    refine (HC.out _).mono ?_
    rintro e w2 ⟨rfl, hb⟩
    have HB2 := Lib.hid (HB1.out.trans (hb.mono HB1.out.size))
    have HT2 := Lib.hid (HT1.out.keep hb)
    clear hb
    have t_0 := HT2.out.c 0 _ rfl
    have t_1 := HT2.out.c 1 _ rfl
    have t_2 := HT2.out.c 2 _ rfl
    have t_3 := HT2.out.c 3 _ rfl
    have t_z := HT2.out.fz
    go_wp2_with fail
    have hs := (HT2.out).setRow [.int .i64 k, .string t, .int .i64 n, .int .i64 0] rfl
    have y0 : ((((w2.setCell ⟨h, 0, none⟩ (.int .i64 k)).setCell ⟨h, 1, none⟩ (.string t)).setCell ⟨h, 2, none⟩ (.int .i64 n)).setCell ⟨h, 3, none⟩ (.int .i64 0)).cell? ⟨h, 0, none⟩ = some (.int .i64 k) := hs.c 0 _ rfl
    have y1 : ((((w2.setCell ⟨h, 0, none⟩ (.int .i64 k)).setCell ⟨h, 1, none⟩ (.string t)).setCell ⟨h, 2, none⟩ (.int .i64 n)).setCell ⟨h, 3, none⟩ (.int .i64 0)).cell? ⟨h, 1, none⟩ = some (.string t) := hs.c 1 _ rfl
    have y2 : ((((w2.setCell ⟨h, 0, none⟩ (.int .i64 k)).setCell ⟨h, 1, none⟩ (.string t)).setCell ⟨h, 2, none⟩ (.int .i64 n)).setCell ⟨h, 3, none⟩ (.int .i64 0)).cell? ⟨h, 2, none⟩ = some (.int .i64 n) := hs.c 2 _ rfl
    have y3 : ((((w2.setCell ⟨h, 0, none⟩ (.int .i64 k)).setCell ⟨h, 1, none⟩ (.string t)).setCell ⟨h, 2, none⟩ (.int .i64 n)).setCell ⟨h, 3, none⟩ (.int .i64 0)).cell? ⟨h, 3, none⟩ = some (.int .i64 0) := hs.c 3 _ rfl
    (try simp only [Exit.inBlock, Exit.then])
    refine bodyPost_ret (by simp [results, Tryz.results31, go_sem, y0, y1, y2, y3]; try rfl) rfl ?_
    exact ⟨by rw [HY.out]; (first | done | rfl), set_below HB2.out (by assumption) [.int .i64 k, .string t, .int .i64 n, .int .i64 0]⟩
  go_wp2_with fail
  refine (HDI.out _).mono ?_
  rintro e w2 ⟨rfl, hb⟩
  have HB2 := Lib.hid (HB1.out.trans (hb.mono HB1.out.size))
  have HT2 := Lib.hid (HT1.out.keep hb)
  clear hb
  cases D
  rotate_left
  · obtain ⟨k, t, n, l, q, hw⟩ := run_form s
    have hc := fun w => readRun_any s h0 HS.out w
    rw [hw] at hc
    have HC := Lib.hid hc
    have HY := Lib.hid (show readTokenV s = #[.agg #[.int .i64 k, .string t, .int .i64 n, .int .i64 0], .int .i64 l, .int .i64 q] by unfold readTokenV; rw [HCC.out, if_neg (by rw [← HF.out]; simp), if_pos (by rw [← HD.out]; rfl)]; exact hw)
    clear hc hw
    go_wp2_with fail
    refine (HC.out _).mono ?_
    rintro e w3 ⟨rfl, hb⟩
    have HB3 := Lib.hid (HB2.out.trans (hb.mono HB2.out.size))
    have HT3 := Lib.hid (HT2.out.keep hb)
    clear hb
    have t_0 := HT3.out.c 0 _ rfl
    have t_1 := HT3.out.c 1 _ rfl
    have t_2 := HT3.out.c 2 _ rfl
    have t_3 := HT3.out.c 3 _ rfl
    have t_z := HT3.out.fz
    go_wp2_with fail
    have hs := (HT3.out).setRow [.int .i64 k, .string t, .int .i64 n, .int .i64 0] rfl
    have y0 : ((((w3.setCell ⟨h, 0, none⟩ (.int .i64 k)).setCell ⟨h, 1, none⟩ (.string t)).setCell ⟨h, 2, none⟩ (.int .i64 n)).setCell ⟨h, 3, none⟩ (.int .i64 0)).cell? ⟨h, 0, none⟩ = some (.int .i64 k) := hs.c 0 _ rfl
    have y1 : ((((w3.setCell ⟨h, 0, none⟩ (.int .i64 k)).setCell ⟨h, 1, none⟩ (.string t)).setCell ⟨h, 2, none⟩ (.int .i64 n)).setCell ⟨h, 3, none⟩ (.int .i64 0)).cell? ⟨h, 1, none⟩ = some (.string t) := hs.c 1 _ rfl
    have y2 : ((((w3.setCell ⟨h, 0, none⟩ (.int .i64 k)).setCell ⟨h, 1, none⟩ (.string t)).setCell ⟨h, 2, none⟩ (.int .i64 n)).setCell ⟨h, 3, none⟩ (.int .i64 0)).cell? ⟨h, 2, none⟩ = some (.int .i64 n) := hs.c 2 _ rfl
    have y3 : ((((w3.setCell ⟨h, 0, none⟩ (.int .i64 k)).setCell ⟨h, 1, none⟩ (.string t)).setCell ⟨h, 2, none⟩ (.int .i64 n)).setCell ⟨h, 3, none⟩ (.int .i64 0)).cell? ⟨h, 3, none⟩ = some (.int .i64 0) := hs.c 3 _ rfl
    (try simp only [Exit.inBlock, Exit.then])
    refine bodyPost_ret (by simp [results, Tryz.results31, go_sem, y0, y1, y2, y3]; try rfl) rfl ?_
    exact ⟨by rw [HY.out]; (first | done | rfl), set_below HB3.out (by assumption) [.int .i64 k, .string t, .int .i64 n, .int .i64 0]⟩
  by_cases h45 : c = 45
  · have t45 : (c == 45) = true := by rw [beq_iff_eq]; exact h45
    have HQ := Lib.hid h45
    clear h45
    obtain ⟨k, t, n, l, q, hw⟩ := run_form s
    have hc := fun w => readRun_any s h0 HS.out w
    rw [hw] at hc
    have HC := Lib.hid hc
    have HY := Lib.hid (show readTokenV s = #[.agg #[.int .i64 k, .string t, .int .i64 n, .int .i64 0], .int .i64 l, .int .i64 q] by unfold readTokenV; rw [HCC.out, if_neg (by rw [← HF.out]; simp), if_pos (by rw [decide_eq_true HQ.out]; simp)]; exact hw)
    clear hc hw
    go_wp2_with fail
    refine (HC.out _).mono ?_
    rintro e w3 ⟨rfl, hb⟩
    have HB3 := Lib.hid (HB2.out.trans (hb.mono HB2.out.size))
    have HT3 := Lib.hid (HT2.out.keep hb)
    clear hb
    have t_0 := HT3.out.c 0 _ rfl
    have t_1 := HT3.out.c 1 _ rfl
    have t_2 := HT3.out.c 2 _ rfl
    have t_3 := HT3.out.c 3 _ rfl
    have t_z := HT3.out.fz
    go_wp2_with fail
    have hs := (HT3.out).setRow [.int .i64 k, .string t, .int .i64 n, .int .i64 0] rfl
    have y0 : ((((w3.setCell ⟨h, 0, none⟩ (.int .i64 k)).setCell ⟨h, 1, none⟩ (.string t)).setCell ⟨h, 2, none⟩ (.int .i64 n)).setCell ⟨h, 3, none⟩ (.int .i64 0)).cell? ⟨h, 0, none⟩ = some (.int .i64 k) := hs.c 0 _ rfl
    have y1 : ((((w3.setCell ⟨h, 0, none⟩ (.int .i64 k)).setCell ⟨h, 1, none⟩ (.string t)).setCell ⟨h, 2, none⟩ (.int .i64 n)).setCell ⟨h, 3, none⟩ (.int .i64 0)).cell? ⟨h, 1, none⟩ = some (.string t) := hs.c 1 _ rfl
    have y2 : ((((w3.setCell ⟨h, 0, none⟩ (.int .i64 k)).setCell ⟨h, 1, none⟩ (.string t)).setCell ⟨h, 2, none⟩ (.int .i64 n)).setCell ⟨h, 3, none⟩ (.int .i64 0)).cell? ⟨h, 2, none⟩ = some (.int .i64 n) := hs.c 2 _ rfl
    have y3 : ((((w3.setCell ⟨h, 0, none⟩ (.int .i64 k)).setCell ⟨h, 1, none⟩ (.string t)).setCell ⟨h, 2, none⟩ (.int .i64 n)).setCell ⟨h, 3, none⟩ (.int .i64 0)).cell? ⟨h, 3, none⟩ = some (.int .i64 0) := hs.c 3 _ rfl
    (try simp only [Exit.inBlock, Exit.then])
    refine bodyPost_ret (by simp [results, Tryz.results31, go_sem, y0, y1, y2, y3]; try rfl) rfl ?_
    exact ⟨by rw [HY.out]; (first | done | rfl), set_below HB3.out (by assumption) [.int .i64 k, .string t, .int .i64 n, .int .i64 0]⟩
  have t45 : (c == 45) = false := by rw [beq_eq_false_iff_ne]; exact h45
  have HQ := Lib.hid h45
  clear h45
  by_cases h42 : c = 42
  · have t42 : (c == 42) = true := by rw [beq_iff_eq]; exact h42
    have HQ := Lib.hid h42
    clear h42
    obtain ⟨k, t, n, l, q, hw⟩ := run_form s
    have hc := fun w => readRun_any s h0 HS.out w
    rw [hw] at hc
    have HC := Lib.hid hc
    have HY := Lib.hid (show readTokenV s = #[.agg #[.int .i64 k, .string t, .int .i64 n, .int .i64 0], .int .i64 l, .int .i64 q] by unfold readTokenV; rw [HCC.out, if_neg (by rw [← HF.out]; simp), if_pos (by rw [decide_eq_true HQ.out]; simp)]; exact hw)
    clear hc hw
    go_wp2_with fail
    refine (HC.out _).mono ?_
    rintro e w3 ⟨rfl, hb⟩
    have HB3 := Lib.hid (HB2.out.trans (hb.mono HB2.out.size))
    have HT3 := Lib.hid (HT2.out.keep hb)
    clear hb
    have t_0 := HT3.out.c 0 _ rfl
    have t_1 := HT3.out.c 1 _ rfl
    have t_2 := HT3.out.c 2 _ rfl
    have t_3 := HT3.out.c 3 _ rfl
    have t_z := HT3.out.fz
    go_wp2_with fail
    have hs := (HT3.out).setRow [.int .i64 k, .string t, .int .i64 n, .int .i64 0] rfl
    have y0 : ((((w3.setCell ⟨h, 0, none⟩ (.int .i64 k)).setCell ⟨h, 1, none⟩ (.string t)).setCell ⟨h, 2, none⟩ (.int .i64 n)).setCell ⟨h, 3, none⟩ (.int .i64 0)).cell? ⟨h, 0, none⟩ = some (.int .i64 k) := hs.c 0 _ rfl
    have y1 : ((((w3.setCell ⟨h, 0, none⟩ (.int .i64 k)).setCell ⟨h, 1, none⟩ (.string t)).setCell ⟨h, 2, none⟩ (.int .i64 n)).setCell ⟨h, 3, none⟩ (.int .i64 0)).cell? ⟨h, 1, none⟩ = some (.string t) := hs.c 1 _ rfl
    have y2 : ((((w3.setCell ⟨h, 0, none⟩ (.int .i64 k)).setCell ⟨h, 1, none⟩ (.string t)).setCell ⟨h, 2, none⟩ (.int .i64 n)).setCell ⟨h, 3, none⟩ (.int .i64 0)).cell? ⟨h, 2, none⟩ = some (.int .i64 n) := hs.c 2 _ rfl
    have y3 : ((((w3.setCell ⟨h, 0, none⟩ (.int .i64 k)).setCell ⟨h, 1, none⟩ (.string t)).setCell ⟨h, 2, none⟩ (.int .i64 n)).setCell ⟨h, 3, none⟩ (.int .i64 0)).cell? ⟨h, 3, none⟩ = some (.int .i64 0) := hs.c 3 _ rfl
    (try simp only [Exit.inBlock, Exit.then])
    refine bodyPost_ret (by simp [results, Tryz.results31, go_sem, y0, y1, y2, y3]; try rfl) rfl ?_
    exact ⟨by rw [HY.out]; (first | done | rfl), set_below HB3.out (by assumption) [.int .i64 k, .string t, .int .i64 n, .int .i64 0]⟩
  have t42 : (c == 42) = false := by rw [beq_eq_false_iff_ne]; exact h42
  have HN := Lib.hid (show ¬ (digB c || decide (c = 45) || decide (c = 42)) = true by rw [← HD.out, decide_eq_false HQ.out, decide_eq_false h42]; simp)
  clear h42
  by_cases h34 : c = 34
  · have t34 : (c == 34) = true := by rw [beq_iff_eq]; exact h34
    have HQ := Lib.hid h34
    clear h34
    obtain ⟨k, t, n, l, q, hw⟩ := text_form s
    have hc := fun w => readText_lex s h0 HS.out w
    rw [hw] at hc
    have HC := Lib.hid hc
    have HY := Lib.hid (show readTokenV s = #[.agg #[.int .i64 k, .string t, .int .i64 n, .int .i64 0], .int .i64 l, .int .i64 q] by unfold readTokenV; rw [HCC.out, if_neg (by rw [← HF.out]; simp), if_neg HN.out, if_pos HQ.out]; exact hw)
    clear hc hw
    go_wp2_with fail
    refine (HC.out _).mono ?_
    rintro e w3 ⟨rfl, hb⟩
    have HB3 := Lib.hid (HB2.out.trans (hb.mono HB2.out.size))
    have HT3 := Lib.hid (HT2.out.keep hb)
    clear hb
    have t_0 := HT3.out.c 0 _ rfl
    have t_1 := HT3.out.c 1 _ rfl
    have t_2 := HT3.out.c 2 _ rfl
    have t_3 := HT3.out.c 3 _ rfl
    have t_z := HT3.out.fz
    go_wp2_with fail
    have hs := (HT3.out).setRow [.int .i64 k, .string t, .int .i64 n, .int .i64 0] rfl
    have y0 : ((((w3.setCell ⟨h, 0, none⟩ (.int .i64 k)).setCell ⟨h, 1, none⟩ (.string t)).setCell ⟨h, 2, none⟩ (.int .i64 n)).setCell ⟨h, 3, none⟩ (.int .i64 0)).cell? ⟨h, 0, none⟩ = some (.int .i64 k) := hs.c 0 _ rfl
    have y1 : ((((w3.setCell ⟨h, 0, none⟩ (.int .i64 k)).setCell ⟨h, 1, none⟩ (.string t)).setCell ⟨h, 2, none⟩ (.int .i64 n)).setCell ⟨h, 3, none⟩ (.int .i64 0)).cell? ⟨h, 1, none⟩ = some (.string t) := hs.c 1 _ rfl
    have y2 : ((((w3.setCell ⟨h, 0, none⟩ (.int .i64 k)).setCell ⟨h, 1, none⟩ (.string t)).setCell ⟨h, 2, none⟩ (.int .i64 n)).setCell ⟨h, 3, none⟩ (.int .i64 0)).cell? ⟨h, 2, none⟩ = some (.int .i64 n) := hs.c 2 _ rfl
    have y3 : ((((w3.setCell ⟨h, 0, none⟩ (.int .i64 k)).setCell ⟨h, 1, none⟩ (.string t)).setCell ⟨h, 2, none⟩ (.int .i64 n)).setCell ⟨h, 3, none⟩ (.int .i64 0)).cell? ⟨h, 3, none⟩ = some (.int .i64 0) := hs.c 3 _ rfl
    (try simp only [Exit.inBlock, Exit.then])
    refine bodyPost_ret (by simp [results, Tryz.results31, go_sem, y0, y1, y2, y3]; try rfl) rfl ?_
    exact ⟨by rw [HY.out]; (first | done | rfl), set_below HB3.out (by assumption) [.int .i64 k, .string t, .int .i64 n, .int .i64 0]⟩
  have t34 : (c == 34) = false := by rw [beq_eq_false_iff_ne]; exact h34
  have HQ4 := Lib.hid h34
  clear h34
  go_wp2_with fail
  refine (HIB.out _).mono ?_
  rintro e w' ⟨rfl, rfl⟩
  by_cases hi : 0 ≤ I
  · have HY := Lib.hid (show readTokenV s = #[tokV 6 (s.extract 0 1) 0 0, .int .i64 1, .int .i64 0] by unfold readTokenV; rw [HCC.out, if_neg (by rw [← HF.out]; simp), if_neg HN.out, if_neg HQ4.out, if_pos (by rw [← HI.out]; exact hi)])
    have t_0 := HT2.out.c 0 _ rfl
    have t_1 := HT2.out.c 1 _ rfl
    have t_2 := HT2.out.c 2 _ rfl
    have t_3 := HT2.out.c 3 _ rfl
    have t_z := HT2.out.fz
    go_wp2_with fail
    have hs := (HT2.out).setRow [.int .i64 6, .string (s.extract 0 1), .int .i64 0, .int .i64 0] rfl
    have y0 : ((((w'.setCell ⟨h, 0, none⟩ (.int .i64 6)).setCell ⟨h, 1, none⟩ (.string (s.extract 0 1))).setCell ⟨h, 2, none⟩ (.int .i64 0)).setCell ⟨h, 3, none⟩ (.int .i64 0)).cell? ⟨h, 0, none⟩ = some (.int .i64 6) := hs.c 0 _ rfl
    have y1 : ((((w'.setCell ⟨h, 0, none⟩ (.int .i64 6)).setCell ⟨h, 1, none⟩ (.string (s.extract 0 1))).setCell ⟨h, 2, none⟩ (.int .i64 0)).setCell ⟨h, 3, none⟩ (.int .i64 0)).cell? ⟨h, 1, none⟩ = some (.string (s.extract 0 1)) := hs.c 1 _ rfl
    have y2 : ((((w'.setCell ⟨h, 0, none⟩ (.int .i64 6)).setCell ⟨h, 1, none⟩ (.string (s.extract 0 1))).setCell ⟨h, 2, none⟩ (.int .i64 0)).setCell ⟨h, 3, none⟩ (.int .i64 0)).cell? ⟨h, 2, none⟩ = some (.int .i64 0) := hs.c 2 _ rfl
    have y3 : ((((w'.setCell ⟨h, 0, none⟩ (.int .i64 6)).setCell ⟨h, 1, none⟩ (.string (s.extract 0 1))).setCell ⟨h, 2, none⟩ (.int .i64 0)).setCell ⟨h, 3, none⟩ (.int .i64 0)).cell? ⟨h, 3, none⟩ = some (.int .i64 0) := hs.c 3 _ rfl
    (try simp only [Exit.inBlock, Exit.then])
    refine bodyPost_ret (by simp [results, Tryz.results31, go_sem, y0, y1, y2, y3]; try rfl) rfl ?_
    exact ⟨by rw [HY.out]; (first | done | rfl), set_below HB2.out (by assumption) [.int .i64 6, .string (s.extract 0 1), .int .i64 0, .int .i64 0]⟩
  · have HY := Lib.hid (show readTokenV s = #[tok0, .int .i64 0, .int .i64 2] by unfold readTokenV; rw [HCC.out, if_neg (by rw [← HF.out]; simp), if_neg HN.out, if_neg HQ4.out, if_neg (by rw [← HI.out]; exact hi)])
    have t_0 := HT2.out.c 0 _ rfl
    have t_1 := HT2.out.c 1 _ rfl
    have t_2 := HT2.out.c 2 _ rfl
    have t_3 := HT2.out.c 3 _ rfl
    have t_z := HT2.out.fz
    go_wp2_with fail
    have hs := (HT2.out).setRow [.int .i64 0, .string ⟨#[]⟩, .int .i64 0, .int .i64 0] rfl
    have y0 : ((((w'.setCell ⟨h, 0, none⟩ (.int .i64 0)).setCell ⟨h, 1, none⟩ (.string ⟨#[]⟩)).setCell ⟨h, 2, none⟩ (.int .i64 0)).setCell ⟨h, 3, none⟩ (.int .i64 0)).cell? ⟨h, 0, none⟩ = some (.int .i64 0) := hs.c 0 _ rfl
    have y1 : ((((w'.setCell ⟨h, 0, none⟩ (.int .i64 0)).setCell ⟨h, 1, none⟩ (.string ⟨#[]⟩)).setCell ⟨h, 2, none⟩ (.int .i64 0)).setCell ⟨h, 3, none⟩ (.int .i64 0)).cell? ⟨h, 1, none⟩ = some (.string ⟨#[]⟩) := hs.c 1 _ rfl
    have y2 : ((((w'.setCell ⟨h, 0, none⟩ (.int .i64 0)).setCell ⟨h, 1, none⟩ (.string ⟨#[]⟩)).setCell ⟨h, 2, none⟩ (.int .i64 0)).setCell ⟨h, 3, none⟩ (.int .i64 0)).cell? ⟨h, 2, none⟩ = some (.int .i64 0) := hs.c 2 _ rfl
    have y3 : ((((w'.setCell ⟨h, 0, none⟩ (.int .i64 0)).setCell ⟨h, 1, none⟩ (.string ⟨#[]⟩)).setCell ⟨h, 2, none⟩ (.int .i64 0)).setCell ⟨h, 3, none⟩ (.int .i64 0)).cell? ⟨h, 3, none⟩ = some (.int .i64 0) := hs.c 3 _ rfl
    (try simp only [Exit.inBlock, Exit.then])
    refine bodyPost_ret (by simp [results, Tryz.results31, go_sem, y0, y1, y2, y3]; try rfl) rfl ?_
    exact ⟨by rw [HY.out]; (first | done | rfl), set_below HB2.out (by assumption) [.int .i64 0, .string ⟨#[]⟩, .int .i64 0, .int .i64 0]⟩
end Go.Proofs.YtaaaddmdcldclaaGreatDoor
