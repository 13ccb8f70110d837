/- Contracts of lexer.timeOf and numberOf. -/
import Derived.Test.YtaaaddmdcldclaaGreatDoorNk
import Derived.Test.YtaaaddmdcldclaaGreatDoorCi
import Derived.Test.YtaaaddmdcldclaaGreatDoorFp
namespace Go.Proofs.YtaaaddmdcldclaaGreatDoor
open Go.RowKit Go.Shelf

def clkN (s : ByteArray) : Int := (Cv.clockR s.data.toList).1
def clkE (s : ByteArray) : Int := (Cv.clockR s.data.toList).2
def timeV (s : ByteArray) : Array Value := if clkE s = 0 then #[tokV 4 ⟨#[]⟩ (clkN s) 0, .int .i64 0] else #[tok0, .int .i64 (clkE s)]
def fixN (s : ByteArray) : Int := (Fx.parseL s.data.toList).1
def fixE (s : ByteArray) : Int := (Fx.parseL s.data.toList).2
def bareS (s : ByteArray) : ByteArray := ⟨(Lib.trimPrefix s.data.toList [45]).toArray⟩
def minusB (s : ByteArray) : Bool := Lib.hasPrefix s.data.toList [45]
def badNumB (s : ByteArray) : Bool := paddedB (bareS s) || (minusB s && decide (fixN s = 0) && decide (fixE s = 0))
def numberV (s : ByteArray) : Array Value := if badNumB s = true then #[tok0, .int .i64 2] else if fixE s = 0 then #[tokV 2 ⟨#[]⟩ (fixN s) 0, .int .i64 0] else #[tok0, .int .i64 (fixE s)]
theorem clock_lex (s : ByteArray) (w : World) (hs : s.size ≤ 1000) : Calls Tryz.prog 85 #[.string s] w fun e w' => e = .returned (.tuple #[.int .i64 (clkN s), .int .i64 (clkE s)]) ∧ Below w.heap.size w w' := by
  by_cases h : Cv.formL s.data.toList Cv.clockF = true
  · exact Cv.parseClock_yes s w hs h
  · have h2 : Cv.formL s.data.toList Cv.clockF = false := by simpa using h
    have e : Cv.clockR s.data.toList = (0, 2) := if_neg h
    have e1 : clkN s = 0 := by unfold clkN; rw [e]
    have e2 : clkE s = 2 := by unfold clkE; rw [e]
    rw [e1, e2]
    exact Cv.parseClock_no s w hs h2
theorem bare_size (s : ByteArray) : (bareS s).size ≤ s.size := by
  have h := Fx.trimPrefix_le s.data.toList [45]
  have h2 : (bareS s).size = (Lib.trimPrefix s.data.toList [45]).length := List.size_toArray
  have h3 : s.size = s.data.toList.length := Lib.size_eq s
  omega

set_option maxHeartbeats 4000000 in
set_option maxRecDepth 100000 in
theorem time_lex (s : ByteArray) (hs : s.size ≤ 1000) (w : World) : Calls Tryz.prog 73 #[.string s] w fun e w' => e = .returned (.tuple (timeV s)) ∧ Below w.heap.size w w' := by
  obtain ⟨W, h, hW, hh, RT, B, sz⟩ := box1 w #[.int .i64 0, .string ⟨#[]⟩, .int .i64 0, .int .i64 0] 40
  have HB0 := Lib.hid B
  have HT0 := Lib.hid RT
  have hwh : w.heap.size ≤ h := by omega
  have hpc := fun w => clock_lex s w hs
  obtain ⟨n, hn⟩ : ∃ x, x = clkN s := ⟨_, rfl⟩
  obtain ⟨e0, he⟩ : ∃ x, x = clkE s := ⟨_, rfl⟩
  have hpc : ∀ w, Calls Tryz.prog 85 #[.string s] w fun e w' => e = .returned (.tuple #[.int .i64 n, .int .i64 e0]) ∧ Below w.heap.size w w' := by rw [hn, he]; exact hpc
  have HPC := Lib.hid hpc
  have hV : timeV s = if e0 = 0 then #[tokV 4 ⟨#[]⟩ n 0, .int .i64 0] else #[tok0, .int .i64 e0] := by rw [hn, he]; rfl
  clear hpc hn he RT B sz
  by_cases h0 : e0 = 0
  · have HY := Lib.hid (hV.trans (if_pos h0))
    subst h0
    clear hV
    go_enter Tryz.func73, Tryz.ntmps73
    go_wp2_with fail
    rw [← hW]
    try rw [← hh]
    clear hW hh
    refine (HPC.out _).mono ?_
    rintro e w1 ⟨rfl, hb⟩
    have HB1 := Lib.hid (HB0.out.trans (hb.mono HB0.out.size))
    have HT1 := Lib.hid (HT0.out.keep hb)
    clear hb
    have t_0 := HT1.out.c 0 _ rfl
    have t_1 := HT1.out.c 1 _ rfl
    have t_2 := HT1.out.c 2 _ rfl
    have t_3 := HT1.out.c 3 _ rfl
    have t_z := HT1.out.fz
    go_wp2_with fail
    have hs := (HT1.out).setRow [.int .i64 4, .string ⟨#[]⟩, .int .i64 n, .int .i64 0] rfl
    have y0 : ((((w1.setCell ⟨h, 0, none⟩ (.int .i64 4)).setCell ⟨h, 1, none⟩ (.string ⟨#[]⟩)).setCell ⟨h, 2, none⟩ (.int .i64 n)).setCell ⟨h, 3, none⟩ (.int .i64 0)).cell? ⟨h, 0, none⟩ = some (.int .i64 4) := hs.c 0 _ rfl
    have y1 : ((((w1.setCell ⟨h, 0, none⟩ (.int .i64 4)).setCell ⟨h, 1, none⟩ (.string ⟨#[]⟩)).setCell ⟨h, 2, none⟩ (.int .i64 n)).setCell ⟨h, 3, none⟩ (.int .i64 0)).cell? ⟨h, 1, none⟩ = some (.string ⟨#[]⟩) := hs.c 1 _ rfl
    have y2 : ((((w1.setCell ⟨h, 0, none⟩ (.int .i64 4)).setCell ⟨h, 1, none⟩ (.string ⟨#[]⟩)).setCell ⟨h, 2, none⟩ (.int .i64 n)).setCell ⟨h, 3, none⟩ (.int .i64 0)).cell? ⟨h, 2, none⟩ = some (.int .i64 n) := hs.c 2 _ rfl
    have y3 : ((((w1.setCell ⟨h, 0, none⟩ (.int .i64 4)).setCell ⟨h, 1, none⟩ (.string ⟨#[]⟩)).setCell ⟨h, 2, none⟩ (.int .i64 n)).setCell ⟨h, 3, none⟩ (.int .i64 0)).cell? ⟨h, 3, none⟩ = some (.int .i64 0) := hs.c 3 _ rfl
    (try simp only [Exit.inBlock, Exit.then])
    refine bodyPost_ret (by simp [results, Tryz.results73, go_sem, y0, y1, y2, y3]; try rfl) rfl ?_
    exact ⟨by rw [HY.out]; rfl, set_below HB1.out (by assumption) [.int .i64 4, .string ⟨#[]⟩, .int .i64 n, .int .i64 0]⟩
  · have HY := Lib.hid (hV.trans (if_neg h0))
    have t0 : (e0 != 0) = true := by simpa using h0
    clear hV
    go_enter Tryz.func73, Tryz.ntmps73
    go_wp2_with fail
    rw [← hW]
    try rw [← hh]
    clear hW hh
    refine (HPC.out _).mono ?_
    rintro e w1 ⟨rfl, hb⟩
    have HB1 := Lib.hid (HB0.out.trans (hb.mono HB0.out.size))
    have HT1 := Lib.hid (HT0.out.keep hb)
    clear hb
    have t_0 := HT1.out.c 0 _ rfl
    have t_1 := HT1.out.c 1 _ rfl
    have t_2 := HT1.out.c 2 _ rfl
    have t_3 := HT1.out.c 3 _ rfl
    have t_z := HT1.out.fz
    go_wp2_with fail
    have hs := (HT1.out).setRow [.int .i64 0, .string ⟨#[]⟩, .int .i64 0, .int .i64 0] rfl
    have y0 : ((((w1.setCell ⟨h, 0, none⟩ (.int .i64 0)).setCell ⟨h, 1, none⟩ (.string ⟨#[]⟩)).setCell ⟨h, 2, none⟩ (.int .i64 0)).setCell ⟨h, 3, none⟩ (.int .i64 0)).cell? ⟨h, 0, none⟩ = some (.int .i64 0) := hs.c 0 _ rfl
    have y1 : ((((w1.setCell ⟨h, 0, none⟩ (.int .i64 0)).setCell ⟨h, 1, none⟩ (.string ⟨#[]⟩)).setCell ⟨h, 2, none⟩ (.int .i64 0)).setCell ⟨h, 3, none⟩ (.int .i64 0)).cell? ⟨h, 1, none⟩ = some (.string ⟨#[]⟩) := hs.c 1 _ rfl
    have y2 : ((((w1.setCell ⟨h, 0, none⟩ (.int .i64 0)).setCell ⟨h, 1, none⟩ (.string ⟨#[]⟩)).setCell ⟨h, 2, none⟩ (.int .i64 0)).setCell ⟨h, 3, none⟩ (.int .i64 0)).cell? ⟨h, 2, none⟩ = some (.int .i64 0) := hs.c 2 _ rfl
    have y3 : ((((w1.setCell ⟨h, 0, none⟩ (.int .i64 0)).setCell ⟨h, 1, none⟩ (.string ⟨#[]⟩)).setCell ⟨h, 2, none⟩ (.int .i64 0)).setCell ⟨h, 3, none⟩ (.int .i64 0)).cell? ⟨h, 3, none⟩ = some (.int .i64 0) := hs.c 3 _ rfl
    (try simp only [Exit.inBlock, Exit.then])
    refine bodyPost_ret (by simp [results, Tryz.results73, go_sem, y0, y1, y2, y3]; try rfl) rfl ?_
    exact ⟨by rw [HY.out]; rfl, set_below HB1.out (by assumption) [.int .i64 0, .string ⟨#[]⟩, .int .i64 0, .int .i64 0]⟩

set_option maxHeartbeats 4000000 in
set_option maxRecDepth 100000 in
theorem number_lex (s : ByteArray) (hs : s.size ≤ 1000) (w : World) : Calls Tryz.prog 75 #[.string s] w fun e w' => e = .returned (.tuple (numberV s)) ∧ Below w.heap.size w w' := by
  obtain ⟨W, h, hW, hh, RT, B, sz⟩ := box1 w #[.int .i64 0, .string ⟨#[]⟩, .int .i64 0, .int .i64 0] 40
  have HB0 := Lib.hid B
  have HT0 := Lib.hid RT
  have hwh : w.heap.size ≤ h := by omega
  have hcp := fun w => Tryz.strings_CutPrefix s ⟨#[45]⟩ w
  have hfp := fun w => Fx.parse_any s w hs
  have hpd := fun w => padded_any (bareS s) (Nat.le_trans (bare_size s) hs) w
  obtain ⟨n, hn⟩ : ∃ x, x = fixN s := ⟨_, rfl⟩
  obtain ⟨e0, he⟩ : ∃ x, x = fixE s := ⟨_, rfl⟩
  obtain ⟨D, hD⟩ : ∃ x, x = bareS s := ⟨_, rfl⟩
  obtain ⟨M, hM⟩ : ∃ x, x = minusB s := ⟨_, rfl⟩
  obtain ⟨P, hP⟩ : ∃ x, x = paddedB (bareS s) := ⟨_, rfl⟩
  have HFP := Lib.hid (show ∀ w, Calls Tryz.prog 89 #[.string s] w fun e w' => e = .returned (.tuple #[.int .i64 n, .int .i64 e0]) ∧ Below w.heap.size w w' by rw [hn, he]; exact hfp)
  have HCP := Lib.hid (show ∀ w, Calls Tryz.prog 88 #[.string s, .string ⟨#[45]⟩] w fun e w' => e = .returned (.tuple #[.string D, .bool M]) ∧ w' = w by rw [hD, hM]; exact hcp)
  rw [← hP, ← hD] at hpd
  have HPD := Lib.hid hpd
  have hV : numberV s = if (P || (M && decide (n = 0) && decide (e0 = 0))) = true then #[tok0, .int .i64 2] else if e0 = 0 then #[tokV 2 ⟨#[]⟩ n 0, .int .i64 0] else #[tok0, .int .i64 e0] := by rw [hn, he, hP, hM]; rfl
  clear hcp hfp hpd hn he hD hM hP RT B sz
  cases P
  · by_cases h0 : e0 = 0
    · have t0 : (e0 == 0) = true := by simpa using h0
      have t0' : (e0 != 0) = false := by simpa using h0
      cases M
      · have HY := Lib.hid (show numberV s = #[tokV 2 ⟨#[]⟩ n 0, .int .i64 0] by rw [hV, if_pos h0]; rfl)
        subst h0
        clear hV
        go_enter Tryz.func75, Tryz.ntmps75
        go_wp2_with fail
        rw [← hW]
        try rw [← hh]
        clear hW hh
        refine (HCP.out _).mono ?_
        rintro e w' ⟨rfl, rfl⟩
        go_wp2_with fail
        refine (HFP.out _).mono ?_
        rintro e w1 ⟨rfl, hb⟩
        have HB1 := Lib.hid (HB0.out.trans (hb.mono HB0.out.size))
        have HT1 := Lib.hid (HT0.out.keep hb)
        clear hb
        go_wp2_with fail
        refine (HPD.out _).mono ?_
        rintro e w2 ⟨rfl, hb⟩
        have HB2 := Lib.hid (HB1.out.trans (hb.mono HB1.out.size))
        have HT2 := Lib.hid (HT1.out.keep hb)
        clear hb
        have t_0 := HT2.out.c 0 _ rfl
        have t_1 := HT2.out.c 1 _ rfl
        have t_2 := HT2.out.c 2 _ rfl
        have t_3 := HT2.out.c 3 _ rfl
        have t_z := HT2.out.fz
        go_wp2_with fail
        have hs := (HT2.out).setRow [.int .i64 2, .string ⟨#[]⟩, .int .i64 n, .int .i64 0] rfl
        have y0 : ((((w2.setCell ⟨h, 0, none⟩ (.int .i64 2)).setCell ⟨h, 1, none⟩ (.string ⟨#[]⟩)).setCell ⟨h, 2, none⟩ (.int .i64 n)).setCell ⟨h, 3, none⟩ (.int .i64 0)).cell? ⟨h, 0, none⟩ = some (.int .i64 2) := hs.c 0 _ rfl
        have y1 : ((((w2.setCell ⟨h, 0, none⟩ (.int .i64 2)).setCell ⟨h, 1, none⟩ (.string ⟨#[]⟩)).setCell ⟨h, 2, none⟩ (.int .i64 n)).setCell ⟨h, 3, none⟩ (.int .i64 0)).cell? ⟨h, 1, none⟩ = some (.string ⟨#[]⟩) := hs.c 1 _ rfl
        have y2 : ((((w2.setCell ⟨h, 0, none⟩ (.int .i64 2)).setCell ⟨h, 1, none⟩ (.string ⟨#[]⟩)).setCell ⟨h, 2, none⟩ (.int .i64 n)).setCell ⟨h, 3, none⟩ (.int .i64 0)).cell? ⟨h, 2, none⟩ = some (.int .i64 n) := hs.c 2 _ rfl
        have y3 : ((((w2.setCell ⟨h, 0, none⟩ (.int .i64 2)).setCell ⟨h, 1, none⟩ (.string ⟨#[]⟩)).setCell ⟨h, 2, none⟩ (.int .i64 n)).setCell ⟨h, 3, none⟩ (.int .i64 0)).cell? ⟨h, 3, none⟩ = some (.int .i64 0) := hs.c 3 _ rfl
        (try simp only [Exit.inBlock, Exit.then])
        refine bodyPost_ret (by simp [results, Tryz.results75, go_sem, y0, y1, y2, y3]; try rfl) rfl ?_
        exact ⟨by rw [HY.out]; rfl, set_below HB2.out (by assumption) [.int .i64 2, .string ⟨#[]⟩, .int .i64 n, .int .i64 0]⟩
      · by_cases hn0 : n = 0
        · have HY := Lib.hid (show numberV s = #[tok0, .int .i64 2] by rw [hV, hn0, h0]; rfl)
          subst h0
          subst hn0
          clear hV
          go_enter Tryz.func75, Tryz.ntmps75
          go_wp2_with fail
          rw [← hW]
          try rw [← hh]
          clear hW hh
          refine (HCP.out _).mono ?_
          rintro e w' ⟨rfl, rfl⟩
          go_wp2_with fail
          refine (HFP.out _).mono ?_
          rintro e w1 ⟨rfl, hb⟩
          have HB1 := Lib.hid (HB0.out.trans (hb.mono HB0.out.size))
          have HT1 := Lib.hid (HT0.out.keep hb)
          clear hb
          go_wp2_with fail
          refine (HPD.out _).mono ?_
          rintro e w2 ⟨rfl, hb⟩
          have HB2 := Lib.hid (HB1.out.trans (hb.mono HB1.out.size))
          have HT2 := Lib.hid (HT1.out.keep hb)
          clear hb
          have t_0 := HT2.out.c 0 _ rfl
          have t_1 := HT2.out.c 1 _ rfl
          have t_2 := HT2.out.c 2 _ rfl
          have t_3 := HT2.out.c 3 _ rfl
          have t_z := HT2.out.fz
          go_wp2_with fail
          have hs := (HT2.out).setRow [.int .i64 0, .string ⟨#[]⟩, .int .i64 0, .int .i64 0] rfl
          have y0 : ((((w2.setCell ⟨h, 0, none⟩ (.int .i64 0)).setCell ⟨h, 1, none⟩ (.string ⟨#[]⟩)).setCell ⟨h, 2, none⟩ (.int .i64 0)).setCell ⟨h, 3, none⟩ (.int .i64 0)).cell? ⟨h, 0, none⟩ = some (.int .i64 0) := hs.c 0 _ rfl
          have y1 : ((((w2.setCell ⟨h, 0, none⟩ (.int .i64 0)).setCell ⟨h, 1, none⟩ (.string ⟨#[]⟩)).setCell ⟨h, 2, none⟩ (.int .i64 0)).setCell ⟨h, 3, none⟩ (.int .i64 0)).cell? ⟨h, 1, none⟩ = some (.string ⟨#[]⟩) := hs.c 1 _ rfl
          have y2 : ((((w2.setCell ⟨h, 0, none⟩ (.int .i64 0)).setCell ⟨h, 1, none⟩ (.string ⟨#[]⟩)).setCell ⟨h, 2, none⟩ (.int .i64 0)).setCell ⟨h, 3, none⟩ (.int .i64 0)).cell? ⟨h, 2, none⟩ = some (.int .i64 0) := hs.c 2 _ rfl
          have y3 : ((((w2.setCell ⟨h, 0, none⟩ (.int .i64 0)).setCell ⟨h, 1, none⟩ (.string ⟨#[]⟩)).setCell ⟨h, 2, none⟩ (.int .i64 0)).setCell ⟨h, 3, none⟩ (.int .i64 0)).cell? ⟨h, 3, none⟩ = some (.int .i64 0) := hs.c 3 _ rfl
          (try simp only [Exit.inBlock, Exit.then])
          refine bodyPost_ret (by simp [results, Tryz.results75, go_sem, y0, y1, y2, y3]; try rfl) rfl ?_
          exact ⟨by rw [HY.out]; rfl, set_below HB2.out (by assumption) [.int .i64 0, .string ⟨#[]⟩, .int .i64 0, .int .i64 0]⟩
        · have HY := Lib.hid (show numberV s = #[tokV 2 ⟨#[]⟩ n 0, .int .i64 0] by rw [hV, if_pos h0, decide_eq_false hn0]; rfl)
          have t1 : (n == 0) = false := by simpa using hn0
          subst h0
          clear hV
          go_enter Tryz.func75, Tryz.ntmps75
          go_wp2_with fail
          rw [← hW]
          try rw [← hh]
          clear hW hh
          refine (HCP.out _).mono ?_
          rintro e w' ⟨rfl, rfl⟩
          go_wp2_with fail
          refine (HFP.out _).mono ?_
          rintro e w1 ⟨rfl, hb⟩
          have HB1 := Lib.hid (HB0.out.trans (hb.mono HB0.out.size))
          have HT1 := Lib.hid (HT0.out.keep hb)
          clear hb
          go_wp2_with fail
          refine (HPD.out _).mono ?_
          rintro e w2 ⟨rfl, hb⟩
          have HB2 := Lib.hid (HB1.out.trans (hb.mono HB1.out.size))
          have HT2 := Lib.hid (HT1.out.keep hb)
          clear hb
          have t_0 := HT2.out.c 0 _ rfl
          have t_1 := HT2.out.c 1 _ rfl
          have t_2 := HT2.out.c 2 _ rfl
          have t_3 := HT2.out.c 3 _ rfl
          have t_z := HT2.out.fz
          go_wp2_with fail
          have hs := (HT2.out).setRow [.int .i64 2, .string ⟨#[]⟩, .int .i64 n, .int .i64 0] rfl
          have y0 : ((((w2.setCell ⟨h, 0, none⟩ (.int .i64 2)).setCell ⟨h, 1, none⟩ (.string ⟨#[]⟩)).setCell ⟨h, 2, none⟩ (.int .i64 n)).setCell ⟨h, 3, none⟩ (.int .i64 0)).cell? ⟨h, 0, none⟩ = some (.int .i64 2) := hs.c 0 _ rfl
          have y1 : ((((w2.setCell ⟨h, 0, none⟩ (.int .i64 2)).setCell ⟨h, 1, none⟩ (.string ⟨#[]⟩)).setCell ⟨h, 2, none⟩ (.int .i64 n)).setCell ⟨h, 3, none⟩ (.int .i64 0)).cell? ⟨h, 1, none⟩ = some (.string ⟨#[]⟩) := hs.c 1 _ rfl
          have y2 : ((((w2.setCell ⟨h, 0, none⟩ (.int .i64 2)).setCell ⟨h, 1, none⟩ (.string ⟨#[]⟩)).setCell ⟨h, 2, none⟩ (.int .i64 n)).setCell ⟨h, 3, none⟩ (.int .i64 0)).cell? ⟨h, 2, none⟩ = some (.int .i64 n) := hs.c 2 _ rfl
          have y3 : ((((w2.setCell ⟨h, 0, none⟩ (.int .i64 2)).setCell ⟨h, 1, none⟩ (.string ⟨#[]⟩)).setCell ⟨h, 2, none⟩ (.int .i64 n)).setCell ⟨h, 3, none⟩ (.int .i64 0)).cell? ⟨h, 3, none⟩ = some (.int .i64 0) := hs.c 3 _ rfl
          (try simp only [Exit.inBlock, Exit.then])
          refine bodyPost_ret (by simp [results, Tryz.results75, go_sem, y0, y1, y2, y3]; try rfl) rfl ?_
          exact ⟨by rw [HY.out]; rfl, set_below HB2.out (by assumption) [.int .i64 2, .string ⟨#[]⟩, .int .i64 n, .int .i64 0]⟩
    · have t0 : (e0 == 0) = false := by simpa using h0
      have t0' : (e0 != 0) = true := by simpa using h0
      have HY := Lib.hid (show numberV s = #[tok0, .int .i64 e0] by rw [hV, if_neg h0, decide_eq_false h0, Bool.and_false]; rfl)
      clear hV
      cases M
      · go_enter Tryz.func75, Tryz.ntmps75
        go_wp2_with fail
        rw [← hW]
        try rw [← hh]
        clear hW hh
        refine (HCP.out _).mono ?_
        rintro e w' ⟨rfl, rfl⟩
        go_wp2_with fail
        refine (HFP.out _).mono ?_
        rintro e w1 ⟨rfl, hb⟩
        have HB1 := Lib.hid (HB0.out.trans (hb.mono HB0.out.size))
        have HT1 := Lib.hid (HT0.out.keep hb)
        clear hb
        go_wp2_with fail
        refine (HPD.out _).mono ?_
        rintro e w2 ⟨rfl, hb⟩
        have HB2 := Lib.hid (HB1.out.trans (hb.mono HB1.out.size))
        have HT2 := Lib.hid (HT1.out.keep hb)
        clear hb
        have t_0 := HT2.out.c 0 _ rfl
        have t_1 := HT2.out.c 1 _ rfl
        have t_2 := HT2.out.c 2 _ rfl
        have t_3 := HT2.out.c 3 _ rfl
        have t_z := HT2.out.fz
        go_wp2_with fail
        have hs := (HT2.out).setRow [.int .i64 0, .string ⟨#[]⟩, .int .i64 0, .int .i64 0] rfl
        have y0 : ((((w2.setCell ⟨h, 0, none⟩ (.int .i64 0)).setCell ⟨h, 1, none⟩ (.string ⟨#[]⟩)).setCell ⟨h, 2, none⟩ (.int .i64 0)).setCell ⟨h, 3, none⟩ (.int .i64 0)).cell? ⟨h, 0, none⟩ = some (.int .i64 0) := hs.c 0 _ rfl
        have y1 : ((((w2.setCell ⟨h, 0, none⟩ (.int .i64 0)).setCell ⟨h, 1, none⟩ (.string ⟨#[]⟩)).setCell ⟨h, 2, none⟩ (.int .i64 0)).setCell ⟨h, 3, none⟩ (.int .i64 0)).cell? ⟨h, 1, none⟩ = some (.string ⟨#[]⟩) := hs.c 1 _ rfl
        have y2 : ((((w2.setCell ⟨h, 0, none⟩ (.int .i64 0)).setCell ⟨h, 1, none⟩ (.string ⟨#[]⟩)).setCell ⟨h, 2, none⟩ (.int .i64 0)).setCell ⟨h, 3, none⟩ (.int .i64 0)).cell? ⟨h, 2, none⟩ = some (.int .i64 0) := hs.c 2 _ rfl
        have y3 : ((((w2.setCell ⟨h, 0, none⟩ (.int .i64 0)).setCell ⟨h, 1, none⟩ (.string ⟨#[]⟩)).setCell ⟨h, 2, none⟩ (.int .i64 0)).setCell ⟨h, 3, none⟩ (.int .i64 0)).cell? ⟨h, 3, none⟩ = some (.int .i64 0) := hs.c 3 _ rfl
        (try simp only [Exit.inBlock, Exit.then])
        refine bodyPost_ret (by simp [results, Tryz.results75, go_sem, y0, y1, y2, y3]; try rfl) rfl ?_
        exact ⟨by rw [HY.out]; rfl, set_below HB2.out (by assumption) [.int .i64 0, .string ⟨#[]⟩, .int .i64 0, .int .i64 0]⟩
      · by_cases hn0 : n = 0
        · have t1 : (n == 0) = true := by simpa using hn0
          go_enter Tryz.func75, Tryz.ntmps75
          go_wp2_with fail
          rw [← hW]
          try rw [← hh]
          clear hW hh
          refine (HCP.out _).mono ?_
          rintro e w' ⟨rfl, rfl⟩
          go_wp2_with fail
          refine (HFP.out _).mono ?_
          rintro e w1 ⟨rfl, hb⟩
          have HB1 := Lib.hid (HB0.out.trans (hb.mono HB0.out.size))
          have HT1 := Lib.hid (HT0.out.keep hb)
          clear hb
          go_wp2_with fail
          refine (HPD.out _).mono ?_
          rintro e w2 ⟨rfl, hb⟩
          have HB2 := Lib.hid (HB1.out.trans (hb.mono HB1.out.size))
          have HT2 := Lib.hid (HT1.out.keep hb)
          clear hb
          have t_0 := HT2.out.c 0 _ rfl
          have t_1 := HT2.out.c 1 _ rfl
          have t_2 := HT2.out.c 2 _ rfl
          have t_3 := HT2.out.c 3 _ rfl
          have t_z := HT2.out.fz
          go_wp2_with fail
          have hs := (HT2.out).setRow [.int .i64 0, .string ⟨#[]⟩, .int .i64 0, .int .i64 0] rfl
          have y0 : ((((w2.setCell ⟨h, 0, none⟩ (.int .i64 0)).setCell ⟨h, 1, none⟩ (.string ⟨#[]⟩)).setCell ⟨h, 2, none⟩ (.int .i64 0)).setCell ⟨h, 3, none⟩ (.int .i64 0)).cell? ⟨h, 0, none⟩ = some (.int .i64 0) := hs.c 0 _ rfl
          have y1 : ((((w2.setCell ⟨h, 0, none⟩ (.int .i64 0)).setCell ⟨h, 1, none⟩ (.string ⟨#[]⟩)).setCell ⟨h, 2, none⟩ (.int .i64 0)).setCell ⟨h, 3, none⟩ (.int .i64 0)).cell? ⟨h, 1, none⟩ = some (.string ⟨#[]⟩) := hs.c 1 _ rfl
          have y2 : ((((w2.setCell ⟨h, 0, none⟩ (.int .i64 0)).setCell ⟨h, 1, none⟩ (.string ⟨#[]⟩)).setCell ⟨h, 2, none⟩ (.int .i64 0)).setCell ⟨h, 3, none⟩ (.int .i64 0)).cell? ⟨h, 2, none⟩ = some (.int .i64 0) := hs.c 2 _ rfl
          have y3 : ((((w2.setCell ⟨h, 0, none⟩ (.int .i64 0)).setCell ⟨h, 1, none⟩ (.string ⟨#[]⟩)).setCell ⟨h, 2, none⟩ (.int .i64 0)).setCell ⟨h, 3, none⟩ (.int .i64 0)).cell? ⟨h, 3, none⟩ = some (.int .i64 0) := hs.c 3 _ rfl
          (try simp only [Exit.inBlock, Exit.then])
          refine bodyPost_ret (by simp [results, Tryz.results75, go_sem, y0, y1, y2, y3]; try rfl) rfl ?_
          exact ⟨by rw [HY.out]; rfl, set_below HB2.out (by assumption) [.int .i64 0, .string ⟨#[]⟩, .int .i64 0, .int .i64 0]⟩
        · have t1 : (n == 0) = false := by simpa using hn0
          go_enter Tryz.func75, Tryz.ntmps75
          go_wp2_with fail
          rw [← hW]
          try rw [← hh]
          clear hW hh
          refine (HCP.out _).mono ?_
          rintro e w' ⟨rfl, rfl⟩
          go_wp2_with fail
          refine (HFP.out _).mono ?_
          rintro e w1 ⟨rfl, hb⟩
          have HB1 := Lib.hid (HB0.out.trans (hb.mono HB0.out.size))
          have HT1 := Lib.hid (HT0.out.keep hb)
          clear hb
          go_wp2_with fail
          refine (HPD.out _).mono ?_
          rintro e w2 ⟨rfl, hb⟩
          have HB2 := Lib.hid (HB1.out.trans (hb.mono HB1.out.size))
          have HT2 := Lib.hid (HT1.out.keep hb)
          clear hb
          have t_0 := HT2.out.c 0 _ rfl
          have t_1 := HT2.out.c 1 _ rfl
          have t_2 := HT2.out.c 2 _ rfl
          have t_3 := HT2.out.c 3 _ rfl
          have t_z := HT2.out.fz
          go_wp2_with fail
          have hs := (HT2.out).setRow [.int .i64 0, .string ⟨#[]⟩, .int .i64 0, .int .i64 0] rfl
          have y0 : ((((w2.setCell ⟨h, 0, none⟩ (.int .i64 0)).setCell ⟨h, 1, none⟩ (.string ⟨#[]⟩)).setCell ⟨h, 2, none⟩ (.int .i64 0)).setCell ⟨h, 3, none⟩ (.int .i64 0)).cell? ⟨h, 0, none⟩ = some (.int .i64 0) := hs.c 0 _ rfl
          have y1 : ((((w2.setCell ⟨h, 0, none⟩ (.int .i64 0)).setCell ⟨h, 1, none⟩ (.string ⟨#[]⟩)).setCell ⟨h, 2, none⟩ (.int .i64 0)).setCell ⟨h, 3, none⟩ (.int .i64 0)).cell? ⟨h, 1, none⟩ = some (.string ⟨#[]⟩) := hs.c 1 _ rfl
          have y2 : ((((w2.setCell ⟨h, 0, none⟩ (.int .i64 0)).setCell ⟨h, 1, none⟩ (.string ⟨#[]⟩)).setCell ⟨h, 2, none⟩ (.int .i64 0)).setCell ⟨h, 3, none⟩ (.int .i64 0)).cell? ⟨h, 2, none⟩ = some (.int .i64 0) := hs.c 2 _ rfl
          have y3 : ((((w2.setCell ⟨h, 0, none⟩ (.int .i64 0)).setCell ⟨h, 1, none⟩ (.string ⟨#[]⟩)).setCell ⟨h, 2, none⟩ (.int .i64 0)).setCell ⟨h, 3, none⟩ (.int .i64 0)).cell? ⟨h, 3, none⟩ = some (.int .i64 0) := hs.c 3 _ rfl
          (try simp only [Exit.inBlock, Exit.then])
          refine bodyPost_ret (by simp [results, Tryz.results75, go_sem, y0, y1, y2, y3]; try rfl) rfl ?_
          exact ⟨by rw [HY.out]; rfl, set_below HB2.out (by assumption) [.int .i64 0, .string ⟨#[]⟩, .int .i64 0, .int .i64 0]⟩
  · have HY := Lib.hid (show numberV s = #[tok0, .int .i64 2] by rw [hV]; rfl)
    clear hV
    go_enter Tryz.func75, Tryz.ntmps75
    go_wp2_with fail
    rw [← hW]
    try rw [← hh]
    clear hW hh
    refine (HCP.out _).mono ?_
    rintro e w' ⟨rfl, rfl⟩
    go_wp2_with fail
    refine (HFP.out _).mono ?_
    rintro e w1 ⟨rfl, hb⟩
    have HB1 := Lib.hid (HB0.out.trans (hb.mono HB0.out.size))
    have HT1 := Lib.hid (HT0.out.keep hb)
    clear hb
    go_wp2_with fail
    refine (HPD.out _).mono ?_
    rintro e w2 ⟨rfl, hb⟩
    have HB2 := Lib.hid (HB1.out.trans (hb.mono HB1.out.size))
    have HT2 := Lib.hid (HT1.out.keep hb)
    clear hb
    have t_0 := HT2.out.c 0 _ rfl
    have t_1 := HT2.out.c 1 _ rfl
    have t_2 := HT2.out.c 2 _ rfl
    have t_3 := HT2.out.c 3 _ rfl
    have t_z := HT2.out.fz
    go_wp2_with fail
    have hs := (HT2.out).setRow [.int .i64 0, .string ⟨#[]⟩, .int .i64 0, .int .i64 0] rfl
    have y0 : ((((w2.setCell ⟨h, 0, none⟩ (.int .i64 0)).setCell ⟨h, 1, none⟩ (.string ⟨#[]⟩)).setCell ⟨h, 2, none⟩ (.int .i64 0)).setCell ⟨h, 3, none⟩ (.int .i64 0)).cell? ⟨h, 0, none⟩ = some (.int .i64 0) := hs.c 0 _ rfl
    have y1 : ((((w2.setCell ⟨h, 0, none⟩ (.int .i64 0)).setCell ⟨h, 1, none⟩ (.string ⟨#[]⟩)).setCell ⟨h, 2, none⟩ (.int .i64 0)).setCell ⟨h, 3, none⟩ (.int .i64 0)).cell? ⟨h, 1, none⟩ = some (.string ⟨#[]⟩) := hs.c 1 _ rfl
    have y2 : ((((w2.setCell ⟨h, 0, none⟩ (.int .i64 0)).setCell ⟨h, 1, none⟩ (.string ⟨#[]⟩)).setCell ⟨h, 2, none⟩ (.int .i64 0)).setCell ⟨h, 3, none⟩ (.int .i64 0)).cell? ⟨h, 2, none⟩ = some (.int .i64 0) := hs.c 2 _ rfl
    have y3 : ((((w2.setCell ⟨h, 0, none⟩ (.int .i64 0)).setCell ⟨h, 1, none⟩ (.string ⟨#[]⟩)).setCell ⟨h, 2, none⟩ (.int .i64 0)).setCell ⟨h, 3, none⟩ (.int .i64 0)).cell? ⟨h, 3, none⟩ = some (.int .i64 0) := hs.c 3 _ rfl
    (try simp only [Exit.inBlock, Exit.then])
    refine bodyPost_ret (by simp [results, Tryz.results75, go_sem, y0, y1, y2, y3]; try rfl) rfl ?_
    exact ⟨by rw [HY.out]; rfl, set_below HB2.out (by assumption) [.int .i64 0, .string ⟨#[]⟩, .int .i64 0, .int .i64 0]⟩
end Go.Proofs.YtaaaddmdcldclaaGreatDoor
