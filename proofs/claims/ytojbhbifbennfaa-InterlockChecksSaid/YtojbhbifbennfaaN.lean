/- Contracts of Start and small; the law InterlockSteps, as far as awake answers true. -/
import Derived.Test.YtojbhbifbennfaaM
namespace Go.Proofs.Ytojbhbifbennfaa
open Go.RowKit Go.Shelf

theorem start_any (now : Int) (w : World) : Calls Try.prog 23 #[.int .i64 now] w fun e w' => e = .returned (.agg #[.int .i64 (-1), .int .i64 now]) ∧ Below w.heap.size w w' := by
  obtain ⟨W, r, hW, hr, R1, B, sz⟩ := box1 w #[.int .i64 0, .int .i64 0] 37
  have HR0 := Lib.hid R1
  have HB0 := Lib.hid B
  have HWR := Lib.hid (show w.heap.size ≤ r by omega)
  clear R1 B sz
  go_enter Try.func23, Try.ntmps23
  go_upto_region 1 with fail
  rw [← hW]
  try rw [← hr]
  clear hW hr
  have r_0 := HR0.out.c 0 _ rfl
  have r_1 := HR0.out.c 1 _ rfl
  have r_z := HR0.out.fz
  go_wp2_with fail
  have hs := (HR0.out).setRow [.int .i64 (-1), .int .i64 now] rfl
  have y0 : ((W.setCell ⟨r, 0, none⟩ (.int .i64 (-1))).setCell ⟨r, 1, none⟩ (.int .i64 now)).cell? ⟨r, 0, none⟩ = some (.int .i64 (-1)) := hs.c 0 _ rfl
  have y1 : ((W.setCell ⟨r, 0, none⟩ (.int .i64 (-1))).setCell ⟨r, 1, none⟩ (.int .i64 now)).cell? ⟨r, 1, none⟩ = some (.int .i64 now) := hs.c 1 _ rfl
  (try simp only [Exit.inBlock, Exit.then])
  refine bodyPost_ret (by simp [results, Try.results23, go_sem, y0, y1]; try rfl) rfl ?_
  exact ⟨rfl, set_below HB0.out HWR.out [.int .i64 (-1), .int .i64 now]⟩
theorem small_any (nm : Value) (pa : Option Addr) (P pc : Nat) (dd : Int) (a : Option Addr) (n cap : Nat) (w : World) : Calls Try.prog 16 #[.agg #[nm, .slice pa P pc, .int .i64 dd], .slice a n cap] w fun e w' => e = .returned (.bool (decide ((P : Int) ≤ 20) && decide ((n : Int) ≤ 20))) ∧ Below w.heap.size w w' := by
  by_cases h1 : (P : Int) ≤ 20
  · have HY := Lib.hid (show (decide ((P : Int) ≤ 20) && decide ((n : Int) ≤ 20)) = decide ((n : Int) ≤ 20) by rw [decide_eq_true h1, Bool.true_and])
    go_enter Try.func16, Try.ntmps16
    go_wp2_with fail
    go_ret
    exact ⟨by rw [HY.out]; (first | done | rfl), (Below.refl _ _).alloc (Nat.le_refl _) _⟩
  · have HY := Lib.hid (show (decide ((P : Int) ≤ 20) && decide ((n : Int) ≤ 20)) = false by rw [decide_eq_false h1, Bool.false_and])
    go_enter Try.func16, Try.ntmps16
    go_wp2_with fail
    go_ret
    exact ⟨by rw [HY.out]; (first | done | rfl), (Below.refl _ _).alloc (Nat.le_refl _) _⟩
theorem winV_is (P : Nat) (dd on left : Int) (qs : List RqD) : ∃ x y : Int, winV P dd on left qs = .tuple #[.int .i64 x, .int .i64 y] := by
  unfold winV; split
  · exact ⟨_, _, rfl⟩
  · exact ⟨_, _, rfl⟩
theorem stepV_is (P : Nat) (dd on left : Int) (qs : List RqD) (now : Int) : ∃ x y z : Int, stepV P dd on left qs now = .tuple #[.agg #[.int .i64 x, .int .i64 y], .int .i64 z] := by
  unfold stepV; split
  · exact ⟨_, _, _, rfl⟩
  · exact ⟨_, _, _, rfl⟩
theorem waitV_is (P : Nat) (dd on left : Int) (qs : List RqD) (now : Int) : ∃ x y z : Int, waitV P dd on left qs now = .tuple #[.int .i64 x, .int .i64 y, .int .i64 z] := by
  unfold waitV; split
  · split
    · exact ⟨_, _, _, rfl⟩
    · split
      · exact ⟨_, _, _, rfl⟩
      · exact ⟨_, _, _, rfl⟩
  · exact ⟨_, _, _, rfl⟩

set_option maxHeartbeats 8000000 in
set_option maxRecDepth 100000 in
theorem steps_of (haw : ∀ w, Calls Try.prog 10 #[] w fun e w' => e = .returned (.bool true) ∧ Below w.heap.size w w') (nm : Value) (pa : Option Addr) (P pc : Nat) (dd : Int) (on left : Int) (a : Option Addr) (cap : Nat) (qs : List RqD) (now : Int) (w : World) (hin : InS w a qs.length 3 (flat rqL qs)) : Calls Try.prog 4 #[.agg #[nm, .slice pa P pc, .int .i64 dd], .int .i64 on, .int .i64 left, .slice a qs.length cap, .int .i64 now] w fun e w' => e = .returned (.bool true) ∧ Below w.heap.size w w' := by
  have HAW := Lib.hid haw
  obtain ⟨x1, x2, h1⟩ := winV_is P dd on left qs
  obtain ⟨y1, y2, y3, h2⟩ := stepV_is P dd on left qs now
  obtain ⟨z1, z2, z3, h3⟩ := waitV_is P dd on left qs now
  have c1 := fun (W' : World) (hb : Below w.heap.size w W') => winnerX_any nm pa P pc dd on left a cap qs W' (hin.keep hb)
  have c2 := fun (W' : World) (hb : Below w.heap.size w W') => rwinnerX_any nm pa P pc dd on left a cap qs W' (hin.keep hb)
  have c3 := fun (W' : World) (hb : Below w.heap.size w W') => stepX_any nm pa P pc dd on left a cap qs now W' (hin.keep hb)
  have c4 := fun (W' : World) (hb : Below w.heap.size w W') => rstepX_any nm pa P pc dd on left a cap qs now W' (hin.keep hb)
  have c5 := fun (W' : World) (hb : Below w.heap.size w W') => waitX_any nm pa P pc dd on left a cap qs now W' (hin.keep hb)
  have c6 := fun (W' : World) (hb : Below w.heap.size w W') => rwaitX_any nm pa P pc dd on left a cap qs now W' (hin.keep hb)
  rw [h1] at c1 c2
  rw [h2] at c3 c4
  rw [h3] at c5 c6
  obtain ⟨N, hN⟩ : ∃ N, N = qs.length := ⟨_, rfl⟩
  rw [← hN] at c1 c2 c3 c4 c5 c6
  rw [← hN]
  have HC1 := Lib.hid c1
  have HC2 := Lib.hid c2
  have HC3 := Lib.hid c3
  have HC4 := Lib.hid c4
  have HC5 := Lib.hid c5
  have HC6 := Lib.hid c6
  obtain ⟨Z, hZ⟩ : ∃ Z, Z = (decide ((P : Int) ≤ 20) && decide ((N : Int) ≤ 20)) := ⟨_, rfl⟩
  have hsm := fun w => small_any nm pa P pc dd a N cap w
  rw [← hZ] at hsm
  have HSM := Lib.hid hsm
  obtain ⟨W, g, hW, hg, R1, B, sz⟩ := box1 w #[nm, .slice pa P pc, .int .i64 dd] 33
  have HG := Lib.hid R1
  have HB := Lib.hid B
  clear haw h1 h2 h3 c1 c2 c3 c4 c5 c6 hN hZ hsm hin R1 B sz
  go_enter Try.func4, Try.ntmps4
  go_wp2_with fail
  rw [← hW]
  try rw [← hg]
  clear hW hg
  refine (HAW.out _).mono ?_
  rintro e w1 ⟨rfl, hb⟩
  have HG1 := Lib.hid (HG.out.keep hb)
  have HB1 := Lib.hid (HB.out.trans (hb.mono HB.out.size))
  clear hb HG HB HAW
  have go0 := HG1.out.c 0 _ rfl
  have go1 := HG1.out.c 1 _ rfl
  have go2 := HG1.out.c 2 _ rfl
  go_wp2_with fail
  refine (HSM.out _).mono ?_
  rintro e w2 ⟨rfl, hb⟩
  clear go0 go1 go2
  have HG2 := Lib.hid (HG1.out.keep hb)
  have HB2 := Lib.hid (HB1.out.trans (hb.mono HB1.out.size))
  clear hb HG1 HB1
  cases Z
  · go_wp2_with fail
    go_ret
    exact ⟨rfl, HB2.out⟩
  · have go0 := HG2.out.c 0 _ rfl
    have go1 := HG2.out.c 1 _ rfl
    have go2 := HG2.out.c 2 _ rfl
    go_upto_region 6 with fail
    obtain ⟨W, p, q, hW, hp, hq, R1, R2, B, sz⟩ := box2 w2 #[.int .i64 on, .int .i64 left] 37 #[.int .i64 on, .int .i64 left] 38
    rw [← hW]
    try rw [← hq]
    try rw [← hp]
    have HG3 := Lib.hid (HG2.out.keep B)
    have HS3 := Lib.hid R1
    have HT3 := Lib.hid R2
    have HB3 := Lib.hid (HB2.out.trans (B.mono HB2.out.size))
    clear hW hp hq R1 R2 B sz HG2 HB2 go0 go1 go2
    have go0 := HG3.out.c 0 _ rfl
    have go1 := HG3.out.c 1 _ rfl
    have go2 := HG3.out.c 2 _ rfl
    have so0 := HS3.out.c 0 _ rfl
    have so1 := HS3.out.c 1 _ rfl
    go_wp2_with fail
    refine (HC1.out _ HB3.out).mono ?_
    rintro e w4 ⟨rfl, hb⟩
    clear go0 go1 go2
    clear so0 so1
    have HG4 := Lib.hid (HG3.out.keep hb)
    have HS4 := Lib.hid (HS3.out.keep hb)
    have HT4 := Lib.hid (HT3.out.keep hb)
    have HB4 := Lib.hid (HB3.out.trans (hb.mono HB3.out.size))
    clear hb HG3 HS3 HT3 HB3
    have go0 := HG4.out.c 0 _ rfl
    have go1 := HG4.out.c 1 _ rfl
    have go2 := HG4.out.c 2 _ rfl
    have to0 := HT4.out.c 0 _ rfl
    have to1 := HT4.out.c 1 _ rfl
    go_wp2_with fail
    refine (HC2.out _ HB4.out).mono ?_
    rintro e w5 ⟨rfl, hb⟩
    clear go0 go1 go2
    clear to0 to1
    have HG5 := Lib.hid (HG4.out.keep hb)
    have HS5 := Lib.hid (HS4.out.keep hb)
    have HT5 := Lib.hid (HT4.out.keep hb)
    have HB5 := Lib.hid (HB4.out.trans (hb.mono HB4.out.size))
    clear hb HG4 HS4 HT4 HB4
    have go0 := HG5.out.c 0 _ rfl
    have go1 := HG5.out.c 1 _ rfl
    have go2 := HG5.out.c 2 _ rfl
    have so0 := HS5.out.c 0 _ rfl
    have so1 := HS5.out.c 1 _ rfl
    go_wp2_with fail
    refine (HC3.out _ HB5.out).mono ?_
    rintro e w6 ⟨rfl, hb⟩
    clear go0 go1 go2
    clear so0 so1
    have hk := hb.alloc hb.size (Obj.cells #[.int .i64 y1, .int .i64 y2] 37)
    have HG6 := Lib.hid (HG5.out.keep hk)
    have HS6 := Lib.hid (HS5.out.keep hk)
    have HT6 := Lib.hid (HT5.out.keep hk)
    have HX6 := Lib.hid (row_fresh w6 #[.int .i64 y1, .int .i64 y2] 37)
    have HB6 := Lib.hid (HB5.out.trans (hk.mono HB5.out.size))
    clear hb hk HG5 HS5 HT5 HB5
    have go0 := HG6.out.c 0 _ rfl
    have go1 := HG6.out.c 1 _ rfl
    have go2 := HG6.out.c 2 _ rfl
    have to0 := HT6.out.c 0 _ rfl
    have to1 := HT6.out.c 1 _ rfl
    go_wp2_with fail
    refine (HC4.out _ HB6.out).mono ?_
    rintro e w7 ⟨rfl, hb⟩
    clear go0 go1 go2
    clear to0 to1
    have hk := hb.alloc hb.size (Obj.cells #[.int .i64 y1, .int .i64 y2] 38)
    have HG7 := Lib.hid (HG6.out.keep hk)
    have HS7 := Lib.hid (HS6.out.keep hk)
    have HT7 := Lib.hid (HT6.out.keep hk)
    have HX7 := Lib.hid (HX6.out.keep hk)
    have HY7 := Lib.hid (row_fresh w7 #[.int .i64 y1, .int .i64 y2] 38)
    have HB7 := Lib.hid (HB6.out.trans (hk.mono HB6.out.size))
    clear hb hk HG6 HS6 HT6 HX6 HB6
    have go0 := HG7.out.c 0 _ rfl
    have go1 := HG7.out.c 1 _ rfl
    have go2 := HG7.out.c 2 _ rfl
    have so0 := HS7.out.c 0 _ rfl
    have so1 := HS7.out.c 1 _ rfl
    go_wp2_with fail
    refine (HC5.out _ HB7.out).mono ?_
    rintro e w8 ⟨rfl, hb⟩
    clear go0 go1 go2
    clear so0 so1
    have HG8 := Lib.hid (HG7.out.keep hb)
    have HS8 := Lib.hid (HS7.out.keep hb)
    have HT8 := Lib.hid (HT7.out.keep hb)
    have HX8 := Lib.hid (HX7.out.keep hb)
    have HY8 := Lib.hid (HY7.out.keep hb)
    have HB8 := Lib.hid (HB7.out.trans (hb.mono HB7.out.size))
    clear hb HG7 HS7 HT7 HX7 HY7 HB7
    have go0 := HG8.out.c 0 _ rfl
    have go1 := HG8.out.c 1 _ rfl
    have go2 := HG8.out.c 2 _ rfl
    have to0 := HT8.out.c 0 _ rfl
    have to1 := HT8.out.c 1 _ rfl
    go_wp2_with fail
    refine (HC6.out _ HB8.out).mono ?_
    rintro e w9 ⟨rfl, hb⟩
    clear go0 go1 go2
    clear to0 to1
    have HX9 := Lib.hid (HX8.out.keep hb)
    have HY9 := Lib.hid (HY8.out.keep hb)
    have HB9 := Lib.hid (HB8.out.trans (hb.mono HB8.out.size))
    clear hb HG8 HS8 HT8 HX8 HY8 HB8
    have xo0 := HX9.out.c 0 _ rfl
    have xo1 := HX9.out.c 1 _ rfl
    have yo0 := HY9.out.c 0 _ rfl
    have yo1 := HY9.out.c 1 _ rfl
    go_wp2_with fail
    refine (start_any _ _).mono ?_
    rintro e w10 ⟨rfl, hb⟩
    clear xo0 xo1
    clear yo0 yo1
    have HB10 := Lib.hid (HB9.out.trans (hb.mono HB9.out.size))
    clear hb HX9 HY9 HB9
    go_wp2_with fail
    go_ret
    exact ⟨rfl, HB10.out⟩
end Go.Proofs.Ytojbhbifbennfaa
