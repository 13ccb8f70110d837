/- fans, and the contracts at awake's examples. -/
import Derived.Test.YtojbhbifbennfaaT
import Derived.Test.YtojbhbifbennfaaO
import Derived.Test.YtojbhbifbennfaaH
namespace Go.Proofs.Ytojbhbifbennfaa
open Go.RowKit Go.Shelf

theorem ins_set {w : World} {T n sz : Nat} {A : Array Value} {L : List Value} {r : Nat} (h : InS (w.alloc (Obj.cells A T)) (some ⟨w.heap.size, 0, none⟩) n sz L) (hr : r ≠ w.heap.size) (M : List Value) : InS ((w.alloc (Obj.cells A T)).setCells r 0 M) (some ⟨w.heap.size, 0, none⟩) n sz L := by
  obtain ⟨hl, hn, h0 | ⟨b, off, ha, hlt, hc⟩⟩ := h
  · exact ⟨hl, hn, .inl h0⟩
  · refine ⟨hl, hn, .inr ⟨b, off, ha, by rw [sz_setCells]; exact hlt, fun j v hj => ?_⟩⟩
    have hb : w.heap.size = b := by injection ha with h1; injection h1
    rw [cell_setCells_other (by omega)]
    exact hc j v hj
def fansW : ByteArray := ⟨#[102, 97, 110, 115]⟩
set_option maxRecDepth 100000 in
theorem fans_any (w : World) : Calls Try.prog 34 #[] w fun e w' => ∃ b, e = .returned (.agg #[.string fansW, .slice b 3 3, .int .i64 10]) ∧ InS w' b 3 1 (flat stL fansL) ∧ Below w.heap.size w w' := by
  obtain ⟨W, r, hW, hr, R1, B, sz⟩ := box1 w #[.string ⟨#[]⟩, .slice none 0 0, .int .i64 0] 33
  have HR0 := Lib.hid R1
  have HB0 := Lib.hid B
  have HWR := Lib.hid (show w.heap.size ≤ r by omega)
  have HL := Lib.hid (ins_new3 W ⟨#[97]⟩ ⟨#[98]⟩ ⟨#[99]⟩ 9)
  have HR1 := Lib.hid (HR0.out.keep (bel_new (Obj.cells #[.string ⟨#[97]⟩, .string ⟨#[98]⟩, .string ⟨#[99]⟩] 9)))
  have HB1 := Lib.hid (HB0.out.alloc HB0.out.size (Obj.cells #[.string ⟨#[97]⟩, .string ⟨#[98]⟩, .string ⟨#[99]⟩] 9))
  clear R1 B sz
  go_enter Try.func34, Try.ntmps34
  go_upto_region 1 with fail
  rw [← hW]
  try rw [← hr]
  clear hW hr
  have r_0 := HR1.out.c 0 _ rfl
  have r_1 := HR1.out.c 1 _ rfl
  have r_2 := HR1.out.c 2 _ rfl
  have r_z := HR1.out.fz
  go_wp2_with fail
  have hs := (HR1.out).setRow [.string ⟨#[102, 97, 110, 115]⟩, .slice (some ⟨W.heap.size, 0, none⟩) 3 3, .int .i64 10] rfl
  have y0 : ((((W.alloc (Obj.cells #[.string ⟨#[97]⟩, .string ⟨#[98]⟩, .string ⟨#[99]⟩] 9)).setCell ⟨r, 0, none⟩ (.string ⟨#[102, 97, 110, 115]⟩)).setCell ⟨r, 1, none⟩ (.slice (some ⟨W.heap.size, 0, none⟩) 3 3)).setCell ⟨r, 2, none⟩ (.int .i64 10)).cell? ⟨r, 0, none⟩ = some (.string ⟨#[102, 97, 110, 115]⟩) := hs.c 0 _ rfl
  have y1 : ((((W.alloc (Obj.cells #[.string ⟨#[97]⟩, .string ⟨#[98]⟩, .string ⟨#[99]⟩] 9)).setCell ⟨r, 0, none⟩ (.string ⟨#[102, 97, 110, 115]⟩)).setCell ⟨r, 1, none⟩ (.slice (some ⟨W.heap.size, 0, none⟩) 3 3)).setCell ⟨r, 2, none⟩ (.int .i64 10)).cell? ⟨r, 1, none⟩ = some (.slice (some ⟨W.heap.size, 0, none⟩) 3 3) := hs.c 1 _ rfl
  have y2 : ((((W.alloc (Obj.cells #[.string ⟨#[97]⟩, .string ⟨#[98]⟩, .string ⟨#[99]⟩] 9)).setCell ⟨r, 0, none⟩ (.string ⟨#[102, 97, 110, 115]⟩)).setCell ⟨r, 1, none⟩ (.slice (some ⟨W.heap.size, 0, none⟩) 3 3)).setCell ⟨r, 2, none⟩ (.int .i64 10)).cell? ⟨r, 2, none⟩ = some (.int .i64 10) := hs.c 2 _ rfl
  (try simp only [Exit.inBlock, Exit.then])
  refine bodyPost_ret (by simp [results, Try.results34, go_sem, y0, y1, y2]; try rfl) rfl ?_
  refine ⟨_, rfl, ?_, set_below HB1.out HWR.out [.string ⟨#[102, 97, 110, 115]⟩, .slice (some ⟨W.heap.size, 0, none⟩) 3 3, .int .i64 10]⟩
  exact ins_set HL.out (by have := HR0.out.lt; show r ≠ W.heap.size; omega) [.string ⟨#[102, 97, 110, 115]⟩, .slice (some ⟨W.heap.size, 0, none⟩) 3 3, .int .i64 10]
theorem ins_new3i (w : World) (x y z : Int) (T : Nat) : InS (w.alloc (Obj.cells #[.int .i64 x, .int .i64 y, .int .i64 z] T)) (some ⟨w.heap.size, 0, none⟩) 3 1 (flat iL [x, y, z]) :=
  ⟨rfl, by omega, .inr ⟨_, _, rfl, by rw [World.size_alloc]; omega, fun j v hv => by rw [Nat.zero_add, World.cell?_alloc_new]; simpa [flat, iL] using hv⟩⟩
def q1 : List RqD := [⟨17, 2, 0⟩, ⟨16, 2, 1⟩, ⟨17, 2, 0⟩]
def q2 : List RqD := [⟨2, 2, 1⟩, ⟨16, 2, 1⟩, ⟨17, 2, 0⟩]
def q3 : List RqD := [⟨17, 2, 0⟩, ⟨18, 2, 1⟩, ⟨17, 2, 1⟩]
theorem ask_three (x y z : Int) (q : List RqD) (hq : [askR x, askR y, askR z] = q) (w : World) (a : Option Addr) (hin : InS w a 3 1 (flat iL [x, y, z])) (cap : Nat) : Calls Try.prog 33 #[.slice a 3 cap] w fun e w' => ∃ b c, e = .returned (.slice b 3 c) ∧ InS w' b 3 3 (flat rqL q) ∧ Below w.heap.size w w' := by
  subst hq
  refine (ask_any a cap [x, y, z] w (show 3 ≤ 100000 by omega) hin).mono ?_
  rintro e w1 ⟨v, rfl, ho, hb⟩
  obtain ⟨b, c, rfl, hi⟩ := ins_own ho
  exact ⟨b, c, rfl, hi, hb⟩
theorem aq1 : [askR 0, askR 16, askR 0] = q1 := by kernel_rfl
theorem aq2 : [askR 2, askR 16, askR 0] = q2 := by kernel_rfl
theorem aq3 : [askR 0, askR 18, askR 17] = q3 := by kernel_rfl
theorem aw1 : winV 3 10 (-1) 95 q1 = .tuple #[.int .i64 1, .int .i64 0] := by kernel_rfl
theorem aw2 : waitV 3 10 (-1) 95 q1 100 = .tuple #[.int .i64 1, .int .i64 105, .int .i64 0] := by kernel_rfl
theorem aw3 : stepV 3 10 (-1) 95 q1 105 = .tuple #[.agg #[.int .i64 1, .int .i64 95], .int .i64 0] := by kernel_rfl
theorem aw4 : stepV 3 10 1 95 q2 106 = .tuple #[.agg #[.int .i64 (-1), .int .i64 106], .int .i64 0] := by kernel_rfl
theorem aw5 : winV 3 10 1 95 q3 = .tuple #[.int .i64 2, .int .i64 0] := by kernel_rfl
theorem aw_win (pa : Option Addr) (pc : Nat) (a : Option Addr) (cap : Nat) (w : World) (hin : InS w a 3 3 (flat rqL q1)) : Calls Try.prog 17 #[.agg #[.string fansW, .slice pa 3 pc, .int .i64 10], .agg #[.int .i64 (-1), .int .i64 95], .slice a 3 cap] w fun e w' => e = .returned (.tuple #[.int .i64 1, .int .i64 0]) ∧ Below w.heap.size w w' := by
  have h := winnerX_any (.string fansW) pa 3 pc 10 (-1) 95 a cap q1 w hin
  rw [aw1] at h
  exact h
theorem aw_wait (pa : Option Addr) (pc : Nat) (a : Option Addr) (cap : Nat) (w : World) (hin : InS w a 3 3 (flat rqL q1)) : Calls Try.prog 21 #[.agg #[.string fansW, .slice pa 3 pc, .int .i64 10], .agg #[.int .i64 (-1), .int .i64 95], .slice a 3 cap, .int .i64 100] w fun e w' => e = .returned (.tuple #[.int .i64 1, .int .i64 105, .int .i64 0]) ∧ Below w.heap.size w w' := by
  have h := waitX_any (.string fansW) pa 3 pc 10 (-1) 95 a cap q1 100 w hin
  rw [aw2] at h
  exact h
theorem aw_step (pa : Option Addr) (pc : Nat) (a : Option Addr) (cap : Nat) (w : World) (hin : InS w a 3 3 (flat rqL q1)) : Calls Try.prog 19 #[.agg #[.string fansW, .slice pa 3 pc, .int .i64 10], .agg #[.int .i64 (-1), .int .i64 95], .slice a 3 cap, .int .i64 105] w fun e w' => e = .returned (.tuple #[.agg #[.int .i64 1, .int .i64 95], .int .i64 0]) ∧ Below w.heap.size w w' := by
  have h := stepX_any (.string fansW) pa 3 pc 10 (-1) 95 a cap q1 105 w hin
  rw [aw3] at h
  exact h
theorem aw_step2 (pa : Option Addr) (pc : Nat) (a : Option Addr) (cap : Nat) (w : World) (hin : InS w a 3 3 (flat rqL q2)) : Calls Try.prog 19 #[.agg #[.string fansW, .slice pa 3 pc, .int .i64 10], .agg #[.int .i64 1, .int .i64 95], .slice a 3 cap, .int .i64 106] w fun e w' => e = .returned (.tuple #[.agg #[.int .i64 (-1), .int .i64 106], .int .i64 0]) ∧ Below w.heap.size w w' := by
  have h := stepX_any (.string fansW) pa 3 pc 10 1 95 a cap q2 106 w hin
  rw [aw4] at h
  exact h
theorem aw_win2 (pa : Option Addr) (pc : Nat) (a : Option Addr) (cap : Nat) (w : World) (hin : InS w a 3 3 (flat rqL q3)) : Calls Try.prog 17 #[.agg #[.string fansW, .slice pa 3 pc, .int .i64 10], .agg #[.int .i64 1, .int .i64 95], .slice a 3 cap] w fun e w' => e = .returned (.tuple #[.int .i64 2, .int .i64 0]) ∧ Below w.heap.size w w' := by
  have h := winnerX_any (.string fansW) pa 3 pc 10 1 95 a cap q3 w hin
  rw [aw5] at h
  exact h
theorem aw_line (pa : Option Addr) (pc : Nat) (w : World) (hin : InS w pa 3 1 (flat stL fansL)) : Calls Try.prog 27 #[.agg #[.string fansW, .slice pa 3 pc, .int .i64 10]] w fun e w' => ∃ b c, e = .returned (.tuple #[.agg #[.slice b 8 c, .bool false, .slice none 0 0, .int .i64 0], .int .i64 0]) ∧ Below w.heap.size w w' := by
  refine (line_yes fansW pa pc fansL 10 w (by decide) (by decide) fans_dead fans_names fans_dist (by decide) hin).mono ?_
  rintro e w1 ⟨b, c, rfl, _, hb⟩
  exact ⟨b, c, rfl, hb⟩
end Go.Proofs.Ytojbhbifbennfaa
