/- Contract of lexer.readText. -/
import Derived.Test.YtaaaddmdcldclaaGreatDoorNg
namespace Go.Proofs.YtaaaddmdcldclaaGreatDoor
open Go.RowKit Go.Shelf

theorem bef_size (s : ByteArray) (d : UInt8) : (befS s d).size ≤ s.size := by
  rcases ix_cases s d with h | ⟨i, h, hi⟩
  · rw [(cut_miss h).1]; exact Nat.le_refl _
  · rw [(cut_hit h).1, ByteArray.size_extract]; omega
def tailS (s : ByteArray) : ByteArray := s.extract 1 s.size
def textS (s : ByteArray) : ByteArray := befS (tailS s) 34
def readTextV (s : ByteArray) : Array Value := if (hasS (tailS s) 34 && printB (textS s)) = true then (if labelB (textS s) = true then #[tokV 3 (textS s) 0 0, .int .i64 ((textS s).size + 2), .int .i64 0] else #[tok0, .int .i64 0, .int .i64 4]) else #[tok0, .int .i64 0, .int .i64 2]

set_option maxHeartbeats 4000000 in
set_option maxRecDepth 100000 in
theorem readText_lex (s : ByteArray) (h0 : 0 < s.size) (hs : s.size ≤ 1000) (w : World) : Calls Tryz.prog 57 #[.string s] w fun e w' => e = .returned (.tuple (readTextV s)) ∧ Below w.heap.size w w' := by
  obtain ⟨W, h, hW, hh, RT, B, sz⟩ := box1 w #[.int .i64 0, .string ⟨#[]⟩, .int .i64 0, .int .i64 0] 40
  have HB0 := Lib.hid B
  have HT0 := Lib.hid RT
  have hwh : w.heap.size ≤ h := by omega
  have ht : (tailS s).size ≤ 1000 := by unfold tailS; rw [ByteArray.size_extract]; omega
  have hz := bef_size (tailS s) 34
  have hcu := fun w => cut_any (tailS s) 34 w ht
  have hpr := fun w => print_any (textS s) (by show (befS (tailS s) 34).size ≤ _; omega) w
  have hla := fun w => label_any (textS s) (by show (befS (tailS s) 34).size ≤ _; omega) w
  have he : s.extract 1 s.size = tailS s := rfl
  have htx : befS (tailS s) 34 = textS s := rfl
  rw [htx] at hcu hz
  obtain ⟨V, hV⟩ : ∃ x, x = readTextV s := ⟨_, rfl⟩
  have hV2 : V = if (hasS (tailS s) 34 && printB (textS s)) = true then (if labelB (textS s) = true then #[tokV 3 (textS s) 0 0, .int .i64 ((textS s).size + 2), .int .i64 0] else #[tok0, .int .i64 0, .int .i64 4]) else #[tok0, .int .i64 0, .int .i64 2] := hV
  rw [← hV]
  obtain ⟨U, hU⟩ : ∃ x, x = tailS s := ⟨_, rfl⟩
  obtain ⟨T, hT⟩ : ∃ x, x = textS s := ⟨_, rfl⟩
  obtain ⟨A, hA⟩ : ∃ x, x = aftS (tailS s) 34 := ⟨_, rfl⟩
  obtain ⟨X, hX⟩ : ∃ x, x = hasS (tailS s) 34 := ⟨_, rfl⟩
  obtain ⟨P, hP⟩ : ∃ x, x = printB (textS s) := ⟨_, rfl⟩
  obtain ⟨L, hL⟩ : ∃ x, x = labelB (textS s) := ⟨_, rfl⟩
  rw [← hX, ← hP, ← hL, ← hT] at hV2
  rw [← hT, ← hA, ← hX, ← hU] at hcu
  rw [← hP, ← hT] at hpr
  rw [← hL, ← hT] at hla
  rw [← hT, ← hU] at hz
  rw [← hU] at he ht
  have HCU := Lib.hid hcu
  have HPR := Lib.hid hpr
  have HLA := Lib.hid hla
  have HV := Lib.hid hV2
  have l1 : (1 : Int) ≤ (s.size : Int) := by omega
  have l2 : IntKind.i64.wrap ((T.size : Int) + 2) = (T.size : Int) + 2 := IntWalk.i64_in _ ⟨by omega, by omega⟩
  clear hcu hpr hla hV hV2 hU hT hA hX hP hL ht hz htx RT B sz
  go_enter Tryz.func57, Tryz.ntmps57
  go_wp2_with fail
  rw [← hW]
  try rw [← hh]
  clear hW hh
  refine (HCU.out _).mono ?_
  rintro e w1 ⟨rfl, hb⟩
  have HB1 := Lib.hid (HB0.out.trans (hb.mono HB0.out.size))
  have HT1 := Lib.hid (HT0.out.keep hb)
  clear hb
  cases X
  · have HY := Lib.hid (show V = #[tok0, .int .i64 0, .int .i64 2] by rw [HV.out]; rfl)
    have t_0 := HT1.out.c 0 _ rfl
    have t_1 := HT1.out.c 1 _ rfl
    have t_2 := HT1.out.c 2 _ rfl
    have t_3 := HT1.out.c 3 _ rfl
    have t_z := HT1.out.fz
    go_wp2_with fail
    have hs := (HT1.out).setRow [.int .i64 0, .string ⟨#[]⟩, .int .i64 0, .int .i64 0] rfl
    have y0 : ((((w1.setCell ⟨h, 0, none⟩ (.int .i64 0)).setCell ⟨h, 1, none⟩ (.string ⟨#[]⟩)).setCell ⟨h, 2, none⟩ (.int .i64 0)).setCell ⟨h, 3, none⟩ (.int .i64 0)).cell? ⟨h, 0, none⟩ = some (.int .i64 0) := hs.c 0 _ rfl
    have y1 : ((((w1.setCell ⟨h, 0, none⟩ (.int .i64 0)).setCell ⟨h, 1, none⟩ (.string ⟨#[]⟩)).setCell ⟨h, 2, none⟩ (.int .i64 0)).setCell ⟨h, 3, none⟩ (.int .i64 0)).cell? ⟨h, 1, none⟩ = some (.string ⟨#[]⟩) := hs.c 1 _ rfl
    have y2 : ((((w1.setCell ⟨h, 0, none⟩ (.int .i64 0)).setCell ⟨h, 1, none⟩ (.string ⟨#[]⟩)).setCell ⟨h, 2, none⟩ (.int .i64 0)).setCell ⟨h, 3, none⟩ (.int .i64 0)).cell? ⟨h, 2, none⟩ = some (.int .i64 0) := hs.c 2 _ rfl
    have y3 : ((((w1.setCell ⟨h, 0, none⟩ (.int .i64 0)).setCell ⟨h, 1, none⟩ (.string ⟨#[]⟩)).setCell ⟨h, 2, none⟩ (.int .i64 0)).setCell ⟨h, 3, none⟩ (.int .i64 0)).cell? ⟨h, 3, none⟩ = some (.int .i64 0) := hs.c 3 _ rfl
    (try simp only [Exit.inBlock, Exit.then])
    refine bodyPost_ret (by simp [results, Tryz.results57, go_sem, y0, y1, y2, y3]; try rfl) rfl ?_
    exact ⟨by rw [HY.out]; rfl, set_below HB1.out (by assumption) [.int .i64 0, .string ⟨#[]⟩, .int .i64 0, .int .i64 0]⟩
  go_wp2_with fail
  refine (HPR.out _).mono ?_
  rintro e w2 ⟨rfl, hb⟩
  have HB2 := Lib.hid (HB1.out.trans (hb.mono HB1.out.size))
  have HT2 := Lib.hid (HT1.out.keep hb)
  clear hb
  cases P
  · have HY := Lib.hid (show V = #[tok0, .int .i64 0, .int .i64 2] by rw [HV.out]; rfl)
    have t_0 := HT2.out.c 0 _ rfl
    have t_1 := HT2.out.c 1 _ rfl
    have t_2 := HT2.out.c 2 _ rfl
    have t_3 := HT2.out.c 3 _ rfl
    have t_z := HT2.out.fz
    go_wp2_with fail
    have hs := (HT2.out).setRow [.int .i64 0, .string ⟨#[]⟩, .int .i64 0, .int .i64 0] rfl
    have y0 : ((((w2.setCell ⟨h, 0, none⟩ (.int .i64 0)).setCell ⟨h, 1, none⟩ (.string ⟨#[]⟩)).setCell ⟨h, 2, none⟩ (.int .i64 0)).setCell ⟨h, 3, none⟩ (.int .i64 0)).cell? ⟨h, 0, none⟩ = some (.int .i64 0) := hs.c 0 _ rfl
    have y1 : ((((w2.setCell ⟨h, 0, none⟩ (.int .i64 0)).setCell ⟨h, 1, none⟩ (.string ⟨#[]⟩)).setCell ⟨h, 2, none⟩ (.int .i64 0)).setCell ⟨h, 3, none⟩ (.int .i64 0)).cell? ⟨h, 1, none⟩ = some (.string ⟨#[]⟩) := hs.c 1 _ rfl
    have y2 : ((((w2.setCell ⟨h, 0, none⟩ (.int .i64 0)).setCell ⟨h, 1, none⟩ (.string ⟨#[]⟩)).setCell ⟨h, 2, none⟩ (.int .i64 0)).setCell ⟨h, 3, none⟩ (.int .i64 0)).cell? ⟨h, 2, none⟩ = some (.int .i64 0) := hs.c 2 _ rfl
    have y3 : ((((w2.setCell ⟨h, 0, none⟩ (.int .i64 0)).setCell ⟨h, 1, none⟩ (.string ⟨#[]⟩)).setCell ⟨h, 2, none⟩ (.int .i64 0)).setCell ⟨h, 3, none⟩ (.int .i64 0)).cell? ⟨h, 3, none⟩ = some (.int .i64 0) := hs.c 3 _ rfl
    (try simp only [Exit.inBlock, Exit.then])
    refine bodyPost_ret (by simp [results, Tryz.results57, go_sem, y0, y1, y2, y3]; try rfl) rfl ?_
    exact ⟨by rw [HY.out]; rfl, set_below HB2.out (by assumption) [.int .i64 0, .string ⟨#[]⟩, .int .i64 0, .int .i64 0]⟩
  go_wp2_with fail
  refine (HLA.out _).mono ?_
  rintro e w3 ⟨rfl, hb⟩
  have HB3 := Lib.hid (HB2.out.trans (hb.mono HB2.out.size))
  have HT3 := Lib.hid (HT2.out.keep hb)
  clear hb
  cases L
  · have HY := Lib.hid (show V = #[tok0, .int .i64 0, .int .i64 4] by rw [HV.out]; rfl)
    have t_0 := HT3.out.c 0 _ rfl
    have t_1 := HT3.out.c 1 _ rfl
    have t_2 := HT3.out.c 2 _ rfl
    have t_3 := HT3.out.c 3 _ rfl
    have t_z := HT3.out.fz
    go_wp2_with fail
    have hs := (HT3.out).setRow [.int .i64 0, .string ⟨#[]⟩, .int .i64 0, .int .i64 0] rfl
    have y0 : ((((w3.setCell ⟨h, 0, none⟩ (.int .i64 0)).setCell ⟨h, 1, none⟩ (.string ⟨#[]⟩)).setCell ⟨h, 2, none⟩ (.int .i64 0)).setCell ⟨h, 3, none⟩ (.int .i64 0)).cell? ⟨h, 0, none⟩ = some (.int .i64 0) := hs.c 0 _ rfl
    have y1 : ((((w3.setCell ⟨h, 0, none⟩ (.int .i64 0)).setCell ⟨h, 1, none⟩ (.string ⟨#[]⟩)).setCell ⟨h, 2, none⟩ (.int .i64 0)).setCell ⟨h, 3, none⟩ (.int .i64 0)).cell? ⟨h, 1, none⟩ = some (.string ⟨#[]⟩) := hs.c 1 _ rfl
    have y2 : ((((w3.setCell ⟨h, 0, none⟩ (.int .i64 0)).setCell ⟨h, 1, none⟩ (.string ⟨#[]⟩)).setCell ⟨h, 2, none⟩ (.int .i64 0)).setCell ⟨h, 3, none⟩ (.int .i64 0)).cell? ⟨h, 2, none⟩ = some (.int .i64 0) := hs.c 2 _ rfl
    have y3 : ((((w3.setCell ⟨h, 0, none⟩ (.int .i64 0)).setCell ⟨h, 1, none⟩ (.string ⟨#[]⟩)).setCell ⟨h, 2, none⟩ (.int .i64 0)).setCell ⟨h, 3, none⟩ (.int .i64 0)).cell? ⟨h, 3, none⟩ = some (.int .i64 0) := hs.c 3 _ rfl
    (try simp only [Exit.inBlock, Exit.then])
    refine bodyPost_ret (by simp [results, Tryz.results57, go_sem, y0, y1, y2, y3]; try rfl) rfl ?_
    exact ⟨by rw [HY.out]; rfl, set_below HB3.out (by assumption) [.int .i64 0, .string ⟨#[]⟩, .int .i64 0, .int .i64 0]⟩
  · have HY := Lib.hid (show V = #[tokV 3 T 0 0, .int .i64 (T.size + 2), .int .i64 0] by rw [HV.out]; rfl)
    have t_0 := HT3.out.c 0 _ rfl
    have t_1 := HT3.out.c 1 _ rfl
    have t_2 := HT3.out.c 2 _ rfl
    have t_3 := HT3.out.c 3 _ rfl
    have t_z := HT3.out.fz
    go_wp2_with fail
    have hs := (HT3.out).setRow [.int .i64 3, .string T, .int .i64 0, .int .i64 0] rfl
    have y0 : ((((w3.setCell ⟨h, 0, none⟩ (.int .i64 3)).setCell ⟨h, 1, none⟩ (.string T)).setCell ⟨h, 2, none⟩ (.int .i64 0)).setCell ⟨h, 3, none⟩ (.int .i64 0)).cell? ⟨h, 0, none⟩ = some (.int .i64 3) := hs.c 0 _ rfl
    have y1 : ((((w3.setCell ⟨h, 0, none⟩ (.int .i64 3)).setCell ⟨h, 1, none⟩ (.string T)).setCell ⟨h, 2, none⟩ (.int .i64 0)).setCell ⟨h, 3, none⟩ (.int .i64 0)).cell? ⟨h, 1, none⟩ = some (.string T) := hs.c 1 _ rfl
    have y2 : ((((w3.setCell ⟨h, 0, none⟩ (.int .i64 3)).setCell ⟨h, 1, none⟩ (.string T)).setCell ⟨h, 2, none⟩ (.int .i64 0)).setCell ⟨h, 3, none⟩ (.int .i64 0)).cell? ⟨h, 2, none⟩ = some (.int .i64 0) := hs.c 2 _ rfl
    have y3 : ((((w3.setCell ⟨h, 0, none⟩ (.int .i64 3)).setCell ⟨h, 1, none⟩ (.string T)).setCell ⟨h, 2, none⟩ (.int .i64 0)).setCell ⟨h, 3, none⟩ (.int .i64 0)).cell? ⟨h, 3, none⟩ = some (.int .i64 0) := hs.c 3 _ rfl
    (try simp only [Exit.inBlock, Exit.then])
    refine bodyPost_ret (by simp [results, Tryz.results57, go_sem, y0, y1, y2, y3]; try rfl) rfl ?_
    exact ⟨by rw [HY.out]; rfl, set_below HB3.out (by assumption) [.int .i64 3, .string T, .int .i64 0, .int .i64 0]⟩
end Go.Proofs.YtaaaddmdcldclaaGreatDoor
