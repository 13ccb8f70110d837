/- Contracts of lexer.readRun. -/
import Derived.Test.YtaaaddmdcldclaaGreatDoorNm
namespace Go.Proofs.YtaaaddmdcldclaaGreatDoor
open Go.RowKit Go.Shelf

/-- a token with its error: kind, text, number, code -/
abbrev TkE := Int × ByteArray × Int × Int
def timeT (s : ByteArray) : TkE := if clkE s = 0 then (4, ⟨#[]⟩, clkN s, 0) else (0, ⟨#[]⟩, 0, clkE s)
def numberT (s : ByteArray) : TkE := if badNumB s = true then (0, ⟨#[]⟩, 0, 2) else if fixE s = 0 then (2, ⟨#[]⟩, fixN s, 0) else (0, ⟨#[]⟩, 0, fixE s)
def dateT3 (s a b c : ByteArray) : TkE := if dateB a b c = true then (if dateC b c = true then (5, s, 0, 0) else (0, ⟨#[]⟩, 0, 6)) else (0, ⟨#[]⟩, 0, 2)
def dateT (s : ByteArray) : TkE := match Cv.partsB s 45 with
  | [a, b, c] => dateT3 s a b c
  | _ => (0, ⟨#[]⟩, 0, 2)
def tkV (t : TkE) : Array Value := #[tokV t.1 t.2.1 t.2.2.1 0, .int .i64 t.2.2.2]
theorem timeV_is (s : ByteArray) : timeV s = tkV (timeT s) := by
  unfold timeV timeT; split <;> rfl
theorem numberV_is (s : ByteArray) : numberV s = tkV (numberT s) := by
  unfold numberV numberT; split
  · rfl
  · split <;> rfl
theorem dateV_is (s : ByteArray) : dateV s = tkV (dateT s) := by
  unfold dateV dateT
  generalize Cv.partsB s 45 = l
  rcases l with _ | ⟨a, _ | ⟨b, _ | ⟨c, _ | ⟨d, r⟩⟩⟩⟩
  · rfl
  · rfl
  · rfl
  · show dateV3 s a b c = tkV (dateT3 s a b c)
    unfold dateV3 dateT3; split
    · split <;> rfl
    · rfl
  · rfl
def runT (s : ByteArray) : TkE := if (timeT s).2.2.2 = 2 then (if (dateT s).2.2.2 = 2 then numberT s else dateT s) else timeT s
def runS (s : ByteArray) : ByteArray := s.extract 0 (runN s)
def readRunV (s : ByteArray) : Array Value := #[tokV (runT (runS s)).1 (runT (runS s)).2.1 (runT (runS s)).2.2.1 0, .int .i64 (runN s), .int .i64 (runT (runS s)).2.2.2]

set_option maxHeartbeats 4000000 in
set_option maxRecDepth 100000 in
theorem readRun_any (s : ByteArray) (h0 : 0 < s.size) (hs : s.size ≤ 1000) (w : World) : Calls Tryz.prog 56 #[.string s] w fun e w' => e = .returned (.tuple (readRunV s)) ∧ Below w.heap.size w w' := by
  have hs' : s.size ≤ 1000000 := by omega
  obtain ⟨W, g, h, hW, hg, hh, R1, RT, B, sz⟩ := box2 w #[.string s] 9 #[.int .i64 0, .string ⟨#[]⟩, .int .i64 0, .int .i64 0] 40
  have HB0 := Lib.hid B
  have HG0 := Lib.hid R1
  have HT0 := Lib.hid RT
  have hwh : w.heap.size ≤ h := by omega
  have hle := runF_le (fun k => runB s k) (s.size - 1) 1
  have hre := fun (W' : World) (hb : Below W.heap.size W W') => runEnd_from 72 #[.pointer (some ⟨g, 0, none⟩)] (fun k => runB s k) s 1 W' (by omega) (by omega) eg_run (fun W2 k hk1 hk hb2 => runc_any s k g hk1 hk hs' W2 ((HG0.out.keep (hb.trans (hb2.mono hb.size))).c 0 _ rfl))
  replace hre : ∀ (W' : World) (hb : Below W.heap.size W W'), Calls Tryz.prog 45 #[.string s, .int .i64 (1 : Nat), .func (.func 72) #[] #[.pointer (some ⟨g, 0, none⟩)]] W' fun e w' => e = .returned (.int .i64 (runN s)) ∧ Below W'.heap.size W' w' := hre
  replace hle : runN s ≤ 1 + (s.size - 1) ∧ 1 ≤ runN s := hle
  obtain ⟨R, hR⟩ : ∃ x, x = runS s := ⟨_, rfl⟩
  have hRs : R.size ≤ 1000 := by rw [hR]; unfold runS; rw [ByteArray.size_extract]; omega
  have hR2 : s.extract 0 (runN s) = R := by rw [hR]; rfl
  have hti := fun w => time_lex R hRs w
  have hda := fun w => date_lex R hRs w
  have hnu := fun w => number_lex R hRs w
  simp only [timeV_is, tkV, tokV] at hti
  simp only [dateV_is, tkV, tokV] at hda
  simp only [numberV_is, tkV, tokV] at hnu
  have hV : readRunV s = #[tokV (runT R).1 (runT R).2.1 (runT R).2.2.1 0, .int .i64 (runN s), .int .i64 (runT R).2.2.2] := by rw [hR]; rfl
  have hT : runT R = if (timeT R).2.2.2 = 2 then (if (dateT R).2.2.2 = 2 then numberT R else dateT R) else timeT R := rfl
  obtain ⟨X, hX⟩ : ∃ x, x = runT R := ⟨_, rfl⟩
  rw [← hX] at hV hT
  obtain ⟨V, hVN⟩ : ∃ V, V = runN s := ⟨_, rfl⟩
  rw [← hVN] at hre hle hR2 hV
  obtain ⟨⟨a1, a2, a3, a4⟩, hA⟩ : ∃ x : TkE, x = timeT R := ⟨_, rfl⟩
  obtain ⟨⟨d1, d2, d3, d4⟩, hD⟩ : ∃ x : TkE, x = dateT R := ⟨_, rfl⟩
  obtain ⟨⟨n1, n2, n3, n4⟩, hN⟩ : ∃ x : TkE, x = numberT R := ⟨_, rfl⟩
  rw [← hA] at hti hT
  rw [← hD] at hda hT
  rw [← hN] at hnu hT
  have HTI := Lib.hid hti
  have HDA := Lib.hid hda
  have HNU := Lib.hid hnu
  have HRE := Lib.hid hre
  have v1 : (0 : Int) ≤ (V : Int) := by omega
  have v2 : (V : Int) ≤ (s.size : Int) := by omega
  clear R1 RT B sz hre hVN hti hda hnu hX hA hD hN hR hRs hle
  go_enter Tryz.func56, Tryz.ntmps56
  go_wp2_with fail
  rw [← hW]
  try rw [← hh]
  try rw [← hg]
  clear hW hg hh
  have g0 := HG0.out.c 0 _ rfl
  go_wp2_with fail
  refine (HRE.out _ (Below.refl _ _)).mono ?_
  rintro e w1 ⟨rfl, hb⟩
  have HB1 := Lib.hid (HB0.out.trans (hb.mono HB0.out.size))
  have HG1 := Lib.hid (HG0.out.keep hb)
  have HT1 := Lib.hid (HT0.out.keep hb)
  clear hb g0
  have g1 := HG1.out.c 0 _ rfl
  go_wp2_with fail
  refine (HTI.out _).mono ?_
  rintro e w2 ⟨rfl, hb⟩
  have HB2 := Lib.hid (HB1.out.trans (hb.mono HB1.out.size))
  have HT2 := Lib.hid (HT1.out.keep hb)
  clear hb g1
  by_cases ha : a4 = 2
  · subst ha
    rw [if_pos rfl] at hT
    obtain ⟨W3, u, hW3, hu, RU, BU, szu⟩ := box1 w2 #[.int .i64 a1, .string a2, .int .i64 a3, .int .i64 0] 40
    have HU := Lib.hid RU
    have HBU := Lib.hid BU
    have hwu : w.heap.size ≤ u := by have := HB2.out.size; omega
    have hu2 : w2.heap.size ≤ u := by omega
    have hlt := World.block_lt_of_cell? _ _ (HT2.out.c 0 _ rfl)
    have hne : h ≠ u := by have : h < w2.heap.size := hlt; omega
    have hne2 : u ≠ h := fun e => hne e.symm
    clear RU BU szu hlt
    go_wp2_with fail
    rw [← hW3]
    try rw [← hu]
    clear hW3 hu
    refine (HDA.out _).mono ?_
    rintro e w3 ⟨rfl, hb⟩
    have HU3 := Lib.hid (HU.out.keep hb)
    have HC3 := Lib.hid (HBU.out.trans (hb.mono HBU.out.size))
    have HB3 := Lib.hid (HB2.out.trans (HC3.out.mono HB2.out.size))
    have HT3 := Lib.hid (HT2.out.keep HC3.out)
    clear hb
    have HTd := Lib.hid (HT2.out.keep (set_below HC3.out hu2 [.int .i64 d1, .string d2, .int .i64 d3, .int .i64 0]))
    have HBd := Lib.hid (set_below HB3.out hwu [.int .i64 d1, .string d2, .int .i64 d3, .int .i64 0])
    have HUd := Lib.hid (HU3.out.setRow [.int .i64 d1, .string d2, .int .i64 d3, .int .i64 0] rfl)
    by_cases hd : d4 = 2
    · subst hd
      rw [if_pos rfl] at hT
      obtain ⟨W4, hW4⟩ : ∃ x, x = ((((w3.setCell ⟨u, 0, none⟩ (.int .i64 d1)).setCell ⟨u, 1, none⟩ (.string d2)).setCell ⟨u, 2, none⟩ (.int .i64 d3)).setCell ⟨u, 3, none⟩ (.int .i64 0)) := ⟨_, rfl⟩
      have HT4 := Lib.hid (show RowAt W4 h [.int .i64 0, .string ⟨#[]⟩, .int .i64 0, .int .i64 0] by rw [hW4]; exact HTd.out)
      have HB4 := Lib.hid (show Below w.heap.size w W4 by rw [hW4]; exact HBd.out)
      have HU4 := Lib.hid (show RowAt W4 u [.int .i64 d1, .string d2, .int .i64 d3, .int .i64 0] by rw [hW4]; exact HUd.out)
      have HC4 := Lib.hid (show Below w2.heap.size w2 W4 by rw [hW4]; exact set_below HC3.out hu2 [.int .i64 d1, .string d2, .int .i64 d3, .int .i64 0])
      have u_0 := HU3.out.c 0 _ rfl
      have u_1 := HU3.out.c 1 _ rfl
      have u_2 := HU3.out.c 2 _ rfl
      have u_3 := HU3.out.c 3 _ rfl
      have u_z := HU3.out.fz
      go_wp2_with fail
      rw [← hW4]
      clear hW4 u_0 u_1 u_2 u_3 u_z HTd HBd HUd
      refine (HNU.out _).mono ?_
      rintro e w4 ⟨rfl, hb⟩
      have HC5 := Lib.hid (HC4.out.trans (hb.mono HC4.out.size))
      have HT5 := Lib.hid (HT4.out.keep hb)
      have HU5 := Lib.hid (HU4.out.keep hb)
      have HB5 := Lib.hid (HB4.out.trans (hb.mono HB4.out.size))
      clear hb
      have HTe := Lib.hid (HT2.out.keep (set_below HC5.out hu2 [.int .i64 n1, .string n2, .int .i64 n3, .int .i64 0]))
      have HBe := Lib.hid (set_below HB5.out hwu [.int .i64 n1, .string n2, .int .i64 n3, .int .i64 0])
      have HY := Lib.hid (show readRunV s = #[tokV n1 n2 n3 0, .int .i64 V, .int .i64 n4] by rw [hV, hT])
      clear hV hT
      have u_0 := HU5.out.c 0 _ rfl
      have u_1 := HU5.out.c 1 _ rfl
      have u_2 := HU5.out.c 2 _ rfl
      have u_3 := HU5.out.c 3 _ rfl
      have u_z := HU5.out.fz
      have t_0 := HT5.out.c 0 _ rfl
      have t_1 := HT5.out.c 1 _ rfl
      have t_2 := HT5.out.c 2 _ rfl
      have t_3 := HT5.out.c 3 _ rfl
      have t_z := HT5.out.fz
      go_wp2_with fail
      have hs := (HTe.out).setRow [.int .i64 n1, .string n2, .int .i64 n3, .int .i64 0] rfl
      have y0 : ((((((((w4.setCell ⟨u, 0, none⟩ (.int .i64 n1)).setCell ⟨u, 1, none⟩ (.string n2)).setCell ⟨u, 2, none⟩ (.int .i64 n3)).setCell ⟨u, 3, none⟩ (.int .i64 0)).setCell ⟨h, 0, none⟩ (.int .i64 n1)).setCell ⟨h, 1, none⟩ (.string n2)).setCell ⟨h, 2, none⟩ (.int .i64 n3)).setCell ⟨h, 3, none⟩ (.int .i64 0)).cell? ⟨h, 0, none⟩ = some (.int .i64 n1) := hs.c 0 _ rfl
      have y1 : ((((((((w4.setCell ⟨u, 0, none⟩ (.int .i64 n1)).setCell ⟨u, 1, none⟩ (.string n2)).setCell ⟨u, 2, none⟩ (.int .i64 n3)).setCell ⟨u, 3, none⟩ (.int .i64 0)).setCell ⟨h, 0, none⟩ (.int .i64 n1)).setCell ⟨h, 1, none⟩ (.string n2)).setCell ⟨h, 2, none⟩ (.int .i64 n3)).setCell ⟨h, 3, none⟩ (.int .i64 0)).cell? ⟨h, 1, none⟩ = some (.string n2) := hs.c 1 _ rfl
      have y2 : ((((((((w4.setCell ⟨u, 0, none⟩ (.int .i64 n1)).setCell ⟨u, 1, none⟩ (.string n2)).setCell ⟨u, 2, none⟩ (.int .i64 n3)).setCell ⟨u, 3, none⟩ (.int .i64 0)).setCell ⟨h, 0, none⟩ (.int .i64 n1)).setCell ⟨h, 1, none⟩ (.string n2)).setCell ⟨h, 2, none⟩ (.int .i64 n3)).setCell ⟨h, 3, none⟩ (.int .i64 0)).cell? ⟨h, 2, none⟩ = some (.int .i64 n3) := hs.c 2 _ rfl
      have y3 : ((((((((w4.setCell ⟨u, 0, none⟩ (.int .i64 n1)).setCell ⟨u, 1, none⟩ (.string n2)).setCell ⟨u, 2, none⟩ (.int .i64 n3)).setCell ⟨u, 3, none⟩ (.int .i64 0)).setCell ⟨h, 0, none⟩ (.int .i64 n1)).setCell ⟨h, 1, none⟩ (.string n2)).setCell ⟨h, 2, none⟩ (.int .i64 n3)).setCell ⟨h, 3, none⟩ (.int .i64 0)).cell? ⟨h, 3, none⟩ = some (.int .i64 0) := hs.c 3 _ rfl
      (try simp only [Exit.inBlock, Exit.then])
      refine bodyPost_ret (by simp [results, Tryz.results56, go_sem, y0, y1, y2, y3]; try rfl) rfl ?_
      exact ⟨by rw [HY.out]; rfl, set_below HBe.out (by assumption) [.int .i64 n1, .string n2, .int .i64 n3, .int .i64 0]⟩
    have td : (d4 == 2) = false := by simpa using hd
    have HY := Lib.hid (show readRunV s = #[tokV d1 d2 d3 0, .int .i64 V, .int .i64 d4] by rw [hV, hT, if_neg hd])
    clear hV hT
    have u_0 := HU3.out.c 0 _ rfl
    have u_1 := HU3.out.c 1 _ rfl
    have u_2 := HU3.out.c 2 _ rfl
    have u_3 := HU3.out.c 3 _ rfl
    have u_z := HU3.out.fz
    have t_0 := HT3.out.c 0 _ rfl
    have t_1 := HT3.out.c 1 _ rfl
    have t_2 := HT3.out.c 2 _ rfl
    have t_3 := HT3.out.c 3 _ rfl
    have t_z := HT3.out.fz
    go_wp2_with fail
    have hs := (HTd.out).setRow [.int .i64 d1, .string d2, .int .i64 d3, .int .i64 0] rfl
    have y0 : ((((((((w3.setCell ⟨u, 0, none⟩ (.int .i64 d1)).setCell ⟨u, 1, none⟩ (.string d2)).setCell ⟨u, 2, none⟩ (.int .i64 d3)).setCell ⟨u, 3, none⟩ (.int .i64 0)).setCell ⟨h, 0, none⟩ (.int .i64 d1)).setCell ⟨h, 1, none⟩ (.string d2)).setCell ⟨h, 2, none⟩ (.int .i64 d3)).setCell ⟨h, 3, none⟩ (.int .i64 0)).cell? ⟨h, 0, none⟩ = some (.int .i64 d1) := hs.c 0 _ rfl
    have y1 : ((((((((w3.setCell ⟨u, 0, none⟩ (.int .i64 d1)).setCell ⟨u, 1, none⟩ (.string d2)).setCell ⟨u, 2, none⟩ (.int .i64 d3)).setCell ⟨u, 3, none⟩ (.int .i64 0)).setCell ⟨h, 0, none⟩ (.int .i64 d1)).setCell ⟨h, 1, none⟩ (.string d2)).setCell ⟨h, 2, none⟩ (.int .i64 d3)).setCell ⟨h, 3, none⟩ (.int .i64 0)).cell? ⟨h, 1, none⟩ = some (.string d2) := hs.c 1 _ rfl
    have y2 : ((((((((w3.setCell ⟨u, 0, none⟩ (.int .i64 d1)).setCell ⟨u, 1, none⟩ (.string d2)).setCell ⟨u, 2, none⟩ (.int .i64 d3)).setCell ⟨u, 3, none⟩ (.int .i64 0)).setCell ⟨h, 0, none⟩ (.int .i64 d1)).setCell ⟨h, 1, none⟩ (.string d2)).setCell ⟨h, 2, none⟩ (.int .i64 d3)).setCell ⟨h, 3, none⟩ (.int .i64 0)).cell? ⟨h, 2, none⟩ = some (.int .i64 d3) := hs.c 2 _ rfl
    have y3 : ((((((((w3.setCell ⟨u, 0, none⟩ (.int .i64 d1)).setCell ⟨u, 1, none⟩ (.string d2)).setCell ⟨u, 2, none⟩ (.int .i64 d3)).setCell ⟨u, 3, none⟩ (.int .i64 0)).setCell ⟨h, 0, none⟩ (.int .i64 d1)).setCell ⟨h, 1, none⟩ (.string d2)).setCell ⟨h, 2, none⟩ (.int .i64 d3)).setCell ⟨h, 3, none⟩ (.int .i64 0)).cell? ⟨h, 3, none⟩ = some (.int .i64 0) := hs.c 3 _ rfl
    (try simp only [Exit.inBlock, Exit.then])
    refine bodyPost_ret (by simp [results, Tryz.results56, go_sem, y0, y1, y2, y3]; try rfl) rfl ?_
    exact ⟨by rw [HY.out]; rfl, set_below HBd.out (by assumption) [.int .i64 d1, .string d2, .int .i64 d3, .int .i64 0]⟩
  have ta : (a4 == 2) = false := by simpa using ha
  have HY := Lib.hid (show readRunV s = #[tokV a1 a2 a3 0, .int .i64 V, .int .i64 a4] by rw [hV, hT, if_neg ha])
  clear hV hT
  have HA := Lib.hid (HT2.out.keep ((Below.refl _ _).alloc (Nat.le_refl _) (Obj.cells #[.int .i64 a1, .string a2, .int .i64 a3, .int .i64 0] 40)))
  have HBA := Lib.hid (HB2.out.alloc HB2.out.size (Obj.cells #[.int .i64 a1, .string a2, .int .i64 a3, .int .i64 0] 40))
  have t_0 := HA.out.c 0 _ rfl
  have t_1 := HA.out.c 1 _ rfl
  have t_2 := HA.out.c 2 _ rfl
  have t_3 := HA.out.c 3 _ rfl
  have t_z := HA.out.fz
  go_wp2_with fail
  have hs := (HA.out).setRow [.int .i64 a1, .string a2, .int .i64 a3, .int .i64 0] rfl
  have y0 : (((((w2.alloc (Obj.cells #[.int .i64 a1, .string a2, .int .i64 a3, .int .i64 0] 40)).setCell ⟨h, 0, none⟩ (.int .i64 a1)).setCell ⟨h, 1, none⟩ (.string a2)).setCell ⟨h, 2, none⟩ (.int .i64 a3)).setCell ⟨h, 3, none⟩ (.int .i64 0)).cell? ⟨h, 0, none⟩ = some (.int .i64 a1) := hs.c 0 _ rfl
  have y1 : (((((w2.alloc (Obj.cells #[.int .i64 a1, .string a2, .int .i64 a3, .int .i64 0] 40)).setCell ⟨h, 0, none⟩ (.int .i64 a1)).setCell ⟨h, 1, none⟩ (.string a2)).setCell ⟨h, 2, none⟩ (.int .i64 a3)).setCell ⟨h, 3, none⟩ (.int .i64 0)).cell? ⟨h, 1, none⟩ = some (.string a2) := hs.c 1 _ rfl
  have y2 : (((((w2.alloc (Obj.cells #[.int .i64 a1, .string a2, .int .i64 a3, .int .i64 0] 40)).setCell ⟨h, 0, none⟩ (.int .i64 a1)).setCell ⟨h, 1, none⟩ (.string a2)).setCell ⟨h, 2, none⟩ (.int .i64 a3)).setCell ⟨h, 3, none⟩ (.int .i64 0)).cell? ⟨h, 2, none⟩ = some (.int .i64 a3) := hs.c 2 _ rfl
  have y3 : (((((w2.alloc (Obj.cells #[.int .i64 a1, .string a2, .int .i64 a3, .int .i64 0] 40)).setCell ⟨h, 0, none⟩ (.int .i64 a1)).setCell ⟨h, 1, none⟩ (.string a2)).setCell ⟨h, 2, none⟩ (.int .i64 a3)).setCell ⟨h, 3, none⟩ (.int .i64 0)).cell? ⟨h, 3, none⟩ = some (.int .i64 0) := hs.c 3 _ rfl
  (try simp only [Exit.inBlock, Exit.then])
  refine bodyPost_ret (by simp [results, Tryz.results56, go_sem, y0, y1, y2, y3]; try rfl) rfl ?_
  exact ⟨by rw [HY.out]; rfl, set_below HBA.out (by assumption) [.int .i64 a1, .string a2, .int .i64 a3, .int .i64 0]⟩
end Go.Proofs.YtaaaddmdcldclaaGreatDoor
