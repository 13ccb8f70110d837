/- Contracts of lexer.isUpTo and dateOf. -/
import Derived.Test.YtaaaddmdcldclaaGreatDoorNl
namespace Go.Proofs.YtaaaddmdcldclaaGreatDoor
open Go.RowKit Go.Shelf

def leB (a b : List UInt8) : Bool := Op.bytesLess a b || a == b
def uptoB (s m : ByteArray) : Bool := starB s || (leB [48, 49] s.toList && leB s.toList m.toList)
theorem parts_size (s : ByteArray) (d : UInt8) : ∀ x ∈ Cv.partsB s d, x.size ≤ s.size := by
  have key : ∀ (k : Nat) (s : ByteArray), ∀ x ∈ Lib.splitB ⟨#[d]⟩ 0 k s, x.size ≤ s.size := by
    intro k
    induction k with
    | zero => intro s x hx; rw [Lib.splitB_zero] at hx; rw [List.mem_singleton.1 hx]; exact Nat.le_refl _
    | succ k ih =>
      intro s x hx
      unfold Lib.splitB at hx
      split at hx
      · rw [List.mem_singleton.1 hx]; exact Nat.le_refl _
      · rcases List.mem_cons.1 hx with h | h
        · rw [h, ByteArray.size_extract]; omega
        · have := ih _ x h
          rw [ByteArray.size_extract] at this
          omega
  exact key _ s
def dateB (a b c : ByteArray) : Bool := dpartB a 4 && dpartB b 2 && dpartB c 2
def dateC (b c : ByteArray) : Bool := uptoB b ⟨#[49, 50]⟩ && uptoB c ⟨#[51, 49]⟩
def dateV3 (s a b c : ByteArray) : Array Value := if dateB a b c = true then (if dateC b c = true then #[tokV 5 s 0 0, .int .i64 0] else #[tok0, .int .i64 6]) else #[tok0, .int .i64 2]
def dateV (s : ByteArray) : Array Value := match Cv.partsB s 45 with
  | [a, b, c] => dateV3 s a b c
  | _ => #[tok0, .int .i64 2]

set_option maxHeartbeats 4000000 in
set_option maxRecDepth 100000 in
theorem upto_any (s m : ByteArray) (w : World) : Calls Tryz.prog 87 #[.string s, .string m] w fun e w' => e = .returned (.bool (uptoB s m)) ∧ Below w.heap.size w w' := by
  obtain ⟨F, hF⟩ : ∃ F, F = (s.toList == ([42] : List UInt8)) := ⟨_, rfl⟩
  have hst : (s.toList == ([42] : List UInt8)) = F := hF.symm
  clear hF
  cases F
  · have HY := Lib.hid (show uptoB s m = ((Op.bytesLess [48, 49] s.toList || [48, 49] == s.toList) && (Op.bytesLess s.toList m.toList || s.toList == m.toList)) by unfold uptoB starB leB; rw [hst]; rfl)
    go_enter Tryz.func87, Tryz.ntmps87
    go_wp2_with fail
    · go_ret
      exact ⟨by rw [HY.out]; rfl, Below.refl _ _⟩
    · rename_i hn
      have hA : (Op.bytesLess [48, 49] s.toList || [48, 49] == s.toList) = false := by simpa using hn
      go_ret
      exact ⟨by rw [HY.out, hA]; rfl, Below.refl _ _⟩
  · have HY := Lib.hid (show uptoB s m = true by unfold uptoB starB; rw [hst]; rfl)
    go_enter Tryz.func87, Tryz.ntmps87
    go_wp2_with fail
    go_ret
    exact ⟨by rw [HY.out]; rfl, Below.refl _ _⟩

set_option maxHeartbeats 4000000 in
set_option maxRecDepth 100000 in
theorem date_not3 (s : ByteArray) (hs : s.size ≤ 1000) (h3 : (Cv.partsB s 45).length ≠ 3) (hV : dateV s = #[tok0, .int .i64 2]) (w : World) : Calls Tryz.prog 74 #[.string s] w fun e w' => e = .returned (.tuple (dateV s)) ∧ Below w.heap.size w w' := by
  obtain ⟨W, h, hW, hh, RT, B, sz⟩ := box1 w #[.int .i64 0, .string ⟨#[]⟩, .int .i64 0, .int .i64 0] 40
  have HB0 := Lib.hid B
  have HT0 := Lib.hid RT
  have hwh : w.heap.size ≤ h := by omega
  have hsp := Cv.split_one s 45 W hs
  have hlen : (Cv.partsB s 45).length = Lib.countB s ⟨#[45]⟩ + 1 := Lib.splitB_all ⟨#[45]⟩ (Nat.le_refl 1) 0 _ s rfl
  rw [← hlen] at hsp
  obtain ⟨X, hX⟩ : ∃ x, x = ((Cv.partsB s 45).map Value.string).toArray := ⟨_, rfl⟩
  have hsp : Calls Tryz.prog 35 #[.string s, .string ⟨#[45]⟩] W fun e w' => e = .returned (.slice (some ⟨W.heap.size, 0, none⟩) (Cv.partsB s 45).length (Cv.partsB s 45).length) ∧ w' = W.alloc (.cells X 9) := by rw [hX]; exact hsp
  obtain ⟨n, hn⟩ : ∃ x, x = (Cv.partsB s 45).length := ⟨_, rfl⟩
  rw [← hn] at hsp h3
  have HSP := Lib.hid hsp
  have t3 : ((n : Int) == 3) = false := by rw [beq_eq_false_iff_ne]; omega
  have t3' : ((n : Int) != 3) = true := by simp; omega
  have HBX := Lib.hid (show Below w.heap.size w (W.alloc (.cells X 9)) from B.alloc B.size _)
  have HTX := Lib.hid (RT.keep ((Below.refl _ _).alloc (Nat.le_refl _) (.cells X 9)))
  obtain ⟨W2, hW2⟩ : ∃ x, x = W.alloc (.cells X 9) := ⟨_, rfl⟩
  rw [← hW2] at HBX HTX HSP
  clear hsp hlen hX hn h3 RT B sz hW2
  go_enter Tryz.func74, Tryz.ntmps74
  go_wp2_with fail
  rw [← hW]
  try rw [← hh]
  clear hW hh
  refine HSP.out.mono ?_
  rintro e w1 ⟨rfl, rfl⟩
  have HY := Lib.hid hV
  clear hV
  have t_0 := HTX.out.c 0 _ rfl
  have t_1 := HTX.out.c 1 _ rfl
  have t_2 := HTX.out.c 2 _ rfl
  have t_3 := HTX.out.c 3 _ rfl
  have t_z := HTX.out.fz
  go_wp2_with fail
  have hs := (HTX.out).setRow [.int .i64 0, .string ⟨#[]⟩, .int .i64 0, .int .i64 0] rfl
  have y0 : ((((w1.setCell ⟨h, 0, none⟩ (.int .i64 0)).setCell ⟨h, 1, none⟩ (.string ⟨#[]⟩)).setCell ⟨h, 2, none⟩ (.int .i64 0)).setCell ⟨h, 3, none⟩ (.int .i64 0)).cell? ⟨h, 0, none⟩ = some (.int .i64 0) := hs.c 0 _ rfl
  have y1 : ((((w1.setCell ⟨h, 0, none⟩ (.int .i64 0)).setCell ⟨h, 1, none⟩ (.string ⟨#[]⟩)).setCell ⟨h, 2, none⟩ (.int .i64 0)).setCell ⟨h, 3, none⟩ (.int .i64 0)).cell? ⟨h, 1, none⟩ = some (.string ⟨#[]⟩) := hs.c 1 _ rfl
  have y2 : ((((w1.setCell ⟨h, 0, none⟩ (.int .i64 0)).setCell ⟨h, 1, none⟩ (.string ⟨#[]⟩)).setCell ⟨h, 2, none⟩ (.int .i64 0)).setCell ⟨h, 3, none⟩ (.int .i64 0)).cell? ⟨h, 2, none⟩ = some (.int .i64 0) := hs.c 2 _ rfl
  have y3 : ((((w1.setCell ⟨h, 0, none⟩ (.int .i64 0)).setCell ⟨h, 1, none⟩ (.string ⟨#[]⟩)).setCell ⟨h, 2, none⟩ (.int .i64 0)).setCell ⟨h, 3, none⟩ (.int .i64 0)).cell? ⟨h, 3, none⟩ = some (.int .i64 0) := hs.c 3 _ rfl
  (try simp only [Exit.inBlock, Exit.then])
  refine bodyPost_ret (by simp [results, Tryz.results74, go_sem, y0, y1, y2, y3]; try rfl) rfl ?_
  exact ⟨by rw [HY.out]; rfl, set_below HBX.out (by assumption) [.int .i64 0, .string ⟨#[]⟩, .int .i64 0, .int .i64 0]⟩

set_option maxHeartbeats 4000000 in
set_option maxRecDepth 100000 in
theorem date_three (s a b c : ByteArray) (hs : s.size ≤ 1000) (hp : Cv.partsB s 45 = [a, b, c]) (w : World) : Calls Tryz.prog 74 #[.string s] w fun e w' => e = .returned (.tuple (dateV s)) ∧ Below w.heap.size w w' := by
  obtain ⟨W, h, hW, hh, RT, B, sz⟩ := box1 w #[.int .i64 0, .string ⟨#[]⟩, .int .i64 0, .int .i64 0] 40
  have HB0 := Lib.hid B
  have HT0 := Lib.hid RT
  have hwh : w.heap.size ≤ h := by omega
  have hsp := Cv.split_one s 45 W hs
  have hlen : (Cv.partsB s 45).length = Lib.countB s ⟨#[45]⟩ + 1 := Lib.splitB_all ⟨#[45]⟩ (Nat.le_refl 1) 0 _ s rfl
  have hsp : Calls Tryz.prog 35 #[.string s, .string ⟨#[45]⟩] W fun e w' => e = .returned (.slice (some ⟨W.heap.size, 0, none⟩) (Lib.countB s ⟨#[45]⟩ + 1) (Lib.countB s ⟨#[45]⟩ + 1)) ∧ w' = W.alloc (.cells ((Cv.partsB s 45).map Value.string).toArray 9) := hsp
  have hza := parts_size s 45 a (by rw [hp]; simp)
  have hzb := parts_size s 45 b (by rw [hp]; simp)
  have hzc := parts_size s 45 c (by rw [hp]; simp)
  rw [← hlen, hp] at hsp
  obtain ⟨W2, q, hW2, hq, RX, BX, szx⟩ := box1 W #[.string a, .string b, .string c] 9
  have hsp : Calls Tryz.prog 35 #[.string s, .string ⟨#[45]⟩] W fun e w' => e = .returned (.slice (some ⟨q, 0, none⟩) 3 3) ∧ w' = W2 := by rw [hW2, hq]; exact hsp
  have HSP := Lib.hid hsp
  have HBX := Lib.hid (B.trans (BX.mono B.size))
  have HTX := Lib.hid (RT.keep BX)
  have HXX := Lib.hid RX
  have hd1 := fun w => dpart_any a 4 (by omega) w
  have hd2 := fun w => dpart_any b 2 (by omega) w
  have hd3 := fun w => dpart_any c 2 (by omega) w
  have hu1 := fun w => upto_any b ⟨#[49, 50]⟩ w
  have hu2 := fun w => upto_any c ⟨#[51, 49]⟩ w
  have hV : dateV s = dateV3 s a b c := by unfold dateV; rw [hp]
  have hV : dateV s = if (dpartB a 4 && dpartB b 2 && dpartB c 2) = true then (if (uptoB b ⟨#[49, 50]⟩ && uptoB c ⟨#[51, 49]⟩) = true then #[tokV 5 s 0 0, .int .i64 0] else #[tok0, .int .i64 6]) else #[tok0, .int .i64 2] := hV
  obtain ⟨A1, h1⟩ : ∃ x, x = dpartB a 4 := ⟨_, rfl⟩
  obtain ⟨A2, h2⟩ : ∃ x, x = dpartB b 2 := ⟨_, rfl⟩
  obtain ⟨A3, h3⟩ : ∃ x, x = dpartB c 2 := ⟨_, rfl⟩
  obtain ⟨U1, h4⟩ : ∃ x, x = uptoB b ⟨#[49, 50]⟩ := ⟨_, rfl⟩
  obtain ⟨U2, h5⟩ : ∃ x, x = uptoB c ⟨#[51, 49]⟩ := ⟨_, rfl⟩
  rw [← h1, ← h2, ← h3, ← h4, ← h5] at hV
  rw [← h1] at hd1
  rw [← h2] at hd2
  rw [← h3] at hd3
  rw [← h4] at hu1
  rw [← h5] at hu2
  have HD1 := Lib.hid hd1
  have HD2 := Lib.hid hd2
  have HD3 := Lib.hid hd3
  have HU1 := Lib.hid hu1
  have HU2 := Lib.hid hu2
  clear hsp hlen hp hza hzb hzc RX BX szx hW2 hq RT B sz hd1 hd2 hd3 hu1 hu2 h1 h2 h3 h4 h5
  go_enter Tryz.func74, Tryz.ntmps74
  go_wp2_with fail
  rw [← hW]
  try rw [← hh]
  clear hW hh
  refine HSP.out.mono ?_
  rintro e w0 ⟨rfl, rfl⟩
  have HB0 := HBX
  have HT0 := HTX
  have HX0 := HXX
  have p_0 := HX0.out.c 0 _ rfl
  have p_1 := HX0.out.c 1 _ rfl
  have p_2 := HX0.out.c 2 _ rfl
  go_wp2_with fail
  refine (HD1.out _).mono ?_
  rintro e w1 ⟨rfl, hb⟩
  have HB1 := Lib.hid (HB0.out.trans (hb.mono HB0.out.size))
  have HT1 := Lib.hid (HT0.out.keep hb)
  have HX1 := Lib.hid (HX0.out.keep hb)
  clear hb
  clear p_0 p_1 p_2
  have p_0 := HX1.out.c 0 _ rfl
  have p_1 := HX1.out.c 1 _ rfl
  have p_2 := HX1.out.c 2 _ rfl
  cases A1
  · have HY := Lib.hid (hV.trans (by rfl))
    clear hV
    have t_0 := HT1.out.c 0 _ rfl
    have t_1 := HT1.out.c 1 _ rfl
    have t_2 := HT1.out.c 2 _ rfl
    have t_3 := HT1.out.c 3 _ rfl
    have t_z := HT1.out.fz
    go_wp2_with fail
    have hs := (HT1.out).setRow [.int .i64 0, .string ⟨#[]⟩, .int .i64 0, .int .i64 0] rfl
    have y0 : ((((w1.setCell ⟨h, 0, none⟩ (.int .i64 0)).setCell ⟨h, 1, none⟩ (.string ⟨#[]⟩)).setCell ⟨h, 2, none⟩ (.int .i64 0)).setCell ⟨h, 3, none⟩ (.int .i64 0)).cell? ⟨h, 0, none⟩ = some (.int .i64 0) := hs.c 0 _ rfl
    have y1 : ((((w1.setCell ⟨h, 0, none⟩ (.int .i64 0)).setCell ⟨h, 1, none⟩ (.string ⟨#[]⟩)).setCell ⟨h, 2, none⟩ (.int .i64 0)).setCell ⟨h, 3, none⟩ (.int .i64 0)).cell? ⟨h, 1, none⟩ = some (.string ⟨#[]⟩) := hs.c 1 _ rfl
    have y2 : ((((w1.setCell ⟨h, 0, none⟩ (.int .i64 0)).setCell ⟨h, 1, none⟩ (.string ⟨#[]⟩)).setCell ⟨h, 2, none⟩ (.int .i64 0)).setCell ⟨h, 3, none⟩ (.int .i64 0)).cell? ⟨h, 2, none⟩ = some (.int .i64 0) := hs.c 2 _ rfl
    have y3 : ((((w1.setCell ⟨h, 0, none⟩ (.int .i64 0)).setCell ⟨h, 1, none⟩ (.string ⟨#[]⟩)).setCell ⟨h, 2, none⟩ (.int .i64 0)).setCell ⟨h, 3, none⟩ (.int .i64 0)).cell? ⟨h, 3, none⟩ = some (.int .i64 0) := hs.c 3 _ rfl
    (try simp only [Exit.inBlock, Exit.then])
    refine bodyPost_ret (by simp [results, Tryz.results74, go_sem, y0, y1, y2, y3]; try rfl) rfl ?_
    exact ⟨by rw [HY.out]; rfl, set_below HB1.out (by assumption) [.int .i64 0, .string ⟨#[]⟩, .int .i64 0, .int .i64 0]⟩
  go_wp2_with fail
  refine (HD2.out _).mono ?_
  rintro e w2 ⟨rfl, hb⟩
  have HB2 := Lib.hid (HB1.out.trans (hb.mono HB1.out.size))
  have HT2 := Lib.hid (HT1.out.keep hb)
  have HX2 := Lib.hid (HX1.out.keep hb)
  clear hb
  clear p_0 p_1 p_2
  have p_0 := HX2.out.c 0 _ rfl
  have p_1 := HX2.out.c 1 _ rfl
  have p_2 := HX2.out.c 2 _ rfl
  cases A2
  · have HY := Lib.hid (hV.trans (by rfl))
    clear hV
    have t_0 := HT2.out.c 0 _ rfl
    have t_1 := HT2.out.c 1 _ rfl
    have t_2 := HT2.out.c 2 _ rfl
    have t_3 := HT2.out.c 3 _ rfl
    have t_z := HT2.out.fz
    go_wp2_with fail
    have hs := (HT2.out).setRow [.int .i64 0, .string ⟨#[]⟩, .int .i64 0, .int .i64 0] rfl
    have y0 : ((((w2.setCell ⟨h, 0, none⟩ (.int .i64 0)).setCell ⟨h, 1, none⟩ (.string ⟨#[]⟩)).setCell ⟨h, 2, none⟩ (.int .i64 0)).setCell ⟨h, 3, none⟩ (.int .i64 0)).cell? ⟨h, 0, none⟩ = some (.int .i64 0) := hs.c 0 _ rfl
    have y1 : ((((w2.setCell ⟨h, 0, none⟩ (.int .i64 0)).setCell ⟨h, 1, none⟩ (.string ⟨#[]⟩)).setCell ⟨h, 2, none⟩ (.int .i64 0)).setCell ⟨h, 3, none⟩ (.int .i64 0)).cell? ⟨h, 1, none⟩ = some (.string ⟨#[]⟩) := hs.c 1 _ rfl
    have y2 : ((((w2.setCell ⟨h, 0, none⟩ (.int .i64 0)).setCell ⟨h, 1, none⟩ (.string ⟨#[]⟩)).setCell ⟨h, 2, none⟩ (.int .i64 0)).setCell ⟨h, 3, none⟩ (.int .i64 0)).cell? ⟨h, 2, none⟩ = some (.int .i64 0) := hs.c 2 _ rfl
    have y3 : ((((w2.setCell ⟨h, 0, none⟩ (.int .i64 0)).setCell ⟨h, 1, none⟩ (.string ⟨#[]⟩)).setCell ⟨h, 2, none⟩ (.int .i64 0)).setCell ⟨h, 3, none⟩ (.int .i64 0)).cell? ⟨h, 3, none⟩ = some (.int .i64 0) := hs.c 3 _ rfl
    (try simp only [Exit.inBlock, Exit.then])
    refine bodyPost_ret (by simp [results, Tryz.results74, go_sem, y0, y1, y2, y3]; try rfl) rfl ?_
    exact ⟨by rw [HY.out]; rfl, set_below HB2.out (by assumption) [.int .i64 0, .string ⟨#[]⟩, .int .i64 0, .int .i64 0]⟩
  go_wp2_with fail
  refine (HD3.out _).mono ?_
  rintro e w3 ⟨rfl, hb⟩
  have HB3 := Lib.hid (HB2.out.trans (hb.mono HB2.out.size))
  have HT3 := Lib.hid (HT2.out.keep hb)
  have HX3 := Lib.hid (HX2.out.keep hb)
  clear hb
  clear p_0 p_1 p_2
  have p_0 := HX3.out.c 0 _ rfl
  have p_1 := HX3.out.c 1 _ rfl
  have p_2 := HX3.out.c 2 _ rfl
  cases A3
  · have HY := Lib.hid (hV.trans (by rfl))
    clear hV
    have t_0 := HT3.out.c 0 _ rfl
    have t_1 := HT3.out.c 1 _ rfl
    have t_2 := HT3.out.c 2 _ rfl
    have t_3 := HT3.out.c 3 _ rfl
    have t_z := HT3.out.fz
    go_wp2_with fail
    have hs := (HT3.out).setRow [.int .i64 0, .string ⟨#[]⟩, .int .i64 0, .int .i64 0] rfl
    have y0 : ((((w3.setCell ⟨h, 0, none⟩ (.int .i64 0)).setCell ⟨h, 1, none⟩ (.string ⟨#[]⟩)).setCell ⟨h, 2, none⟩ (.int .i64 0)).setCell ⟨h, 3, none⟩ (.int .i64 0)).cell? ⟨h, 0, none⟩ = some (.int .i64 0) := hs.c 0 _ rfl
    have y1 : ((((w3.setCell ⟨h, 0, none⟩ (.int .i64 0)).setCell ⟨h, 1, none⟩ (.string ⟨#[]⟩)).setCell ⟨h, 2, none⟩ (.int .i64 0)).setCell ⟨h, 3, none⟩ (.int .i64 0)).cell? ⟨h, 1, none⟩ = some (.string ⟨#[]⟩) := hs.c 1 _ rfl
    have y2 : ((((w3.setCell ⟨h, 0, none⟩ (.int .i64 0)).setCell ⟨h, 1, none⟩ (.string ⟨#[]⟩)).setCell ⟨h, 2, none⟩ (.int .i64 0)).setCell ⟨h, 3, none⟩ (.int .i64 0)).cell? ⟨h, 2, none⟩ = some (.int .i64 0) := hs.c 2 _ rfl
    have y3 : ((((w3.setCell ⟨h, 0, none⟩ (.int .i64 0)).setCell ⟨h, 1, none⟩ (.string ⟨#[]⟩)).setCell ⟨h, 2, none⟩ (.int .i64 0)).setCell ⟨h, 3, none⟩ (.int .i64 0)).cell? ⟨h, 3, none⟩ = some (.int .i64 0) := hs.c 3 _ rfl
    (try simp only [Exit.inBlock, Exit.then])
    refine bodyPost_ret (by simp [results, Tryz.results74, go_sem, y0, y1, y2, y3]; try rfl) rfl ?_
    exact ⟨by rw [HY.out]; rfl, set_below HB3.out (by assumption) [.int .i64 0, .string ⟨#[]⟩, .int .i64 0, .int .i64 0]⟩
  go_wp2_with fail
  refine (HU1.out _).mono ?_
  rintro e w4 ⟨rfl, hb⟩
  have HB4 := Lib.hid (HB3.out.trans (hb.mono HB3.out.size))
  have HT4 := Lib.hid (HT3.out.keep hb)
  have HX4 := Lib.hid (HX3.out.keep hb)
  clear hb
  clear p_0 p_1 p_2
  have p_0 := HX4.out.c 0 _ rfl
  have p_1 := HX4.out.c 1 _ rfl
  have p_2 := HX4.out.c 2 _ rfl
  cases U1
  · have HY := Lib.hid (hV.trans (by rfl))
    clear hV
    have t_0 := HT4.out.c 0 _ rfl
    have t_1 := HT4.out.c 1 _ rfl
    have t_2 := HT4.out.c 2 _ rfl
    have t_3 := HT4.out.c 3 _ rfl
    have t_z := HT4.out.fz
    go_wp2_with fail
    have hs := (HT4.out).setRow [.int .i64 0, .string ⟨#[]⟩, .int .i64 0, .int .i64 0] rfl
    have y0 : ((((w4.setCell ⟨h, 0, none⟩ (.int .i64 0)).setCell ⟨h, 1, none⟩ (.string ⟨#[]⟩)).setCell ⟨h, 2, none⟩ (.int .i64 0)).setCell ⟨h, 3, none⟩ (.int .i64 0)).cell? ⟨h, 0, none⟩ = some (.int .i64 0) := hs.c 0 _ rfl
    have y1 : ((((w4.setCell ⟨h, 0, none⟩ (.int .i64 0)).setCell ⟨h, 1, none⟩ (.string ⟨#[]⟩)).setCell ⟨h, 2, none⟩ (.int .i64 0)).setCell ⟨h, 3, none⟩ (.int .i64 0)).cell? ⟨h, 1, none⟩ = some (.string ⟨#[]⟩) := hs.c 1 _ rfl
    have y2 : ((((w4.setCell ⟨h, 0, none⟩ (.int .i64 0)).setCell ⟨h, 1, none⟩ (.string ⟨#[]⟩)).setCell ⟨h, 2, none⟩ (.int .i64 0)).setCell ⟨h, 3, none⟩ (.int .i64 0)).cell? ⟨h, 2, none⟩ = some (.int .i64 0) := hs.c 2 _ rfl
    have y3 : ((((w4.setCell ⟨h, 0, none⟩ (.int .i64 0)).setCell ⟨h, 1, none⟩ (.string ⟨#[]⟩)).setCell ⟨h, 2, none⟩ (.int .i64 0)).setCell ⟨h, 3, none⟩ (.int .i64 0)).cell? ⟨h, 3, none⟩ = some (.int .i64 0) := hs.c 3 _ rfl
    (try simp only [Exit.inBlock, Exit.then])
    refine bodyPost_ret (by simp [results, Tryz.results74, go_sem, y0, y1, y2, y3]; try rfl) rfl ?_
    exact ⟨by rw [HY.out]; rfl, set_below HB4.out (by assumption) [.int .i64 0, .string ⟨#[]⟩, .int .i64 0, .int .i64 0]⟩
  go_wp2_with fail
  refine (HU2.out _).mono ?_
  rintro e w5 ⟨rfl, hb⟩
  have HB5 := Lib.hid (HB4.out.trans (hb.mono HB4.out.size))
  have HT5 := Lib.hid (HT4.out.keep hb)
  have HX5 := Lib.hid (HX4.out.keep hb)
  clear hb
  clear p_0 p_1 p_2
  cases U2
  · have HY := Lib.hid (hV.trans (by rfl))
    clear hV
    have t_0 := HT5.out.c 0 _ rfl
    have t_1 := HT5.out.c 1 _ rfl
    have t_2 := HT5.out.c 2 _ rfl
    have t_3 := HT5.out.c 3 _ rfl
    have t_z := HT5.out.fz
    go_wp2_with fail
    have hs := (HT5.out).setRow [.int .i64 0, .string ⟨#[]⟩, .int .i64 0, .int .i64 0] rfl
    have y0 : ((((w5.setCell ⟨h, 0, none⟩ (.int .i64 0)).setCell ⟨h, 1, none⟩ (.string ⟨#[]⟩)).setCell ⟨h, 2, none⟩ (.int .i64 0)).setCell ⟨h, 3, none⟩ (.int .i64 0)).cell? ⟨h, 0, none⟩ = some (.int .i64 0) := hs.c 0 _ rfl
    have y1 : ((((w5.setCell ⟨h, 0, none⟩ (.int .i64 0)).setCell ⟨h, 1, none⟩ (.string ⟨#[]⟩)).setCell ⟨h, 2, none⟩ (.int .i64 0)).setCell ⟨h, 3, none⟩ (.int .i64 0)).cell? ⟨h, 1, none⟩ = some (.string ⟨#[]⟩) := hs.c 1 _ rfl
    have y2 : ((((w5.setCell ⟨h, 0, none⟩ (.int .i64 0)).setCell ⟨h, 1, none⟩ (.string ⟨#[]⟩)).setCell ⟨h, 2, none⟩ (.int .i64 0)).setCell ⟨h, 3, none⟩ (.int .i64 0)).cell? ⟨h, 2, none⟩ = some (.int .i64 0) := hs.c 2 _ rfl
    have y3 : ((((w5.setCell ⟨h, 0, none⟩ (.int .i64 0)).setCell ⟨h, 1, none⟩ (.string ⟨#[]⟩)).setCell ⟨h, 2, none⟩ (.int .i64 0)).setCell ⟨h, 3, none⟩ (.int .i64 0)).cell? ⟨h, 3, none⟩ = some (.int .i64 0) := hs.c 3 _ rfl
    (try simp only [Exit.inBlock, Exit.then])
    refine bodyPost_ret (by simp [results, Tryz.results74, go_sem, y0, y1, y2, y3]; try rfl) rfl ?_
    exact ⟨by rw [HY.out]; rfl, set_below HB5.out (by assumption) [.int .i64 0, .string ⟨#[]⟩, .int .i64 0, .int .i64 0]⟩
  · have HY := Lib.hid (hV.trans (by rfl))
    clear hV
    have t_0 := HT5.out.c 0 _ rfl
    have t_1 := HT5.out.c 1 _ rfl
    have t_2 := HT5.out.c 2 _ rfl
    have t_3 := HT5.out.c 3 _ rfl
    have t_z := HT5.out.fz
    go_wp2_with fail
    have hs := (HT5.out).setRow [.int .i64 5, .string s, .int .i64 0, .int .i64 0] rfl
    have y0 : ((((w5.setCell ⟨h, 0, none⟩ (.int .i64 5)).setCell ⟨h, 1, none⟩ (.string s)).setCell ⟨h, 2, none⟩ (.int .i64 0)).setCell ⟨h, 3, none⟩ (.int .i64 0)).cell? ⟨h, 0, none⟩ = some (.int .i64 5) := hs.c 0 _ rfl
    have y1 : ((((w5.setCell ⟨h, 0, none⟩ (.int .i64 5)).setCell ⟨h, 1, none⟩ (.string s)).setCell ⟨h, 2, none⟩ (.int .i64 0)).setCell ⟨h, 3, none⟩ (.int .i64 0)).cell? ⟨h, 1, none⟩ = some (.string s) := hs.c 1 _ rfl
    have y2 : ((((w5.setCell ⟨h, 0, none⟩ (.int .i64 5)).setCell ⟨h, 1, none⟩ (.string s)).setCell ⟨h, 2, none⟩ (.int .i64 0)).setCell ⟨h, 3, none⟩ (.int .i64 0)).cell? ⟨h, 2, none⟩ = some (.int .i64 0) := hs.c 2 _ rfl
    have y3 : ((((w5.setCell ⟨h, 0, none⟩ (.int .i64 5)).setCell ⟨h, 1, none⟩ (.string s)).setCell ⟨h, 2, none⟩ (.int .i64 0)).setCell ⟨h, 3, none⟩ (.int .i64 0)).cell? ⟨h, 3, none⟩ = some (.int .i64 0) := hs.c 3 _ rfl
    (try simp only [Exit.inBlock, Exit.then])
    refine bodyPost_ret (by simp [results, Tryz.results74, go_sem, y0, y1, y2, y3]; try rfl) rfl ?_
    exact ⟨by rw [HY.out]; rfl, set_below HB5.out (by assumption) [.int .i64 5, .string s, .int .i64 0, .int .i64 0]⟩
theorem date_lex (s : ByteArray) (hs : s.size ≤ 1000) (w : World) : Calls Tryz.prog 74 #[.string s] w fun e w' => e = .returned (.tuple (dateV s)) ∧ Below w.heap.size w w' := by
  match hp : Cv.partsB s 45 with
  | [a, b, c] => exact date_three s a b c hs hp w
  | [] => exact date_not3 s hs (by rw [hp]; simp) (by unfold dateV; rw [hp]) w
  | [a] => exact date_not3 s hs (by rw [hp]; simp) (by unfold dateV; rw [hp]) w
  | [a, b] => exact date_not3 s hs (by rw [hp]; simp) (by unfold dateV; rw [hp]) w
  | a :: b :: c :: d :: r => exact date_not3 s hs (by rw [hp]; simp) (by unfold dateV; rw [hp]) w
end Go.Proofs.YtaaaddmdcldclaaGreatDoor
