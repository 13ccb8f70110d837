/- Contracts of the leaves of package sequencer. -/
import Derived.Test.YthaigchklogjlaaDoorBy
import Derived.Deep.QuietTactic
import Derived.BigQuiet
namespace Go.Proofs.YthaigchklogjlaaDoor
open Go.RowKit Go.Shelf

theorem grown_refl (w : World) (o : Option Nat) : w.grownBy w o := ⟨rfl, rfl, rfl, Nat.le_refl _, fun _ _ _ => rfl⟩
theorem grown_trans {w w1 w2 : World} {o : Option Nat} (h : w.grownBy w1 o) (k : w1.grownBy w2 o) : w.grownBy w2 o :=
  ⟨k.os.trans h.os, k.tape.trans h.tape, k.output.trans h.output, Nat.le_trans h.size k.size, fun q hq hne => (k.block q (Nat.lt_of_lt_of_le hq h.size) hne).trans (h.block q hq hne)⟩
theorem grown_of_below {w w' : World} (hb : Below w.heap.size w w') (o : Option Nat) : w.grownBy w' o :=
  ⟨hb.os, hb.tape, hb.output, hb.size, fun q hq _ => hb.block q hq⟩
theorem cell_grown {w w' : World} {o : Option Nat} {a : Addr} {v : Value} (hc : w.cell? a = some v) (hg : w.grownBy w' o) (hne : some a.block ≠ o) : w'.cell? a = some v :=
  (World.cell?_of_block (hg.block a.block (World.block_lt_of_cell? _ _ hc) hne)).trans hc
theorem cell_below {w w' : World} {a : Addr} {v : Value} (hc : w.cell? a = some v) (hb : Below w.heap.size w w') : w'.cell? a = some v :=
  (World.cell?_of_block (hb.block a.block (World.block_lt_of_cell? _ _ hc))).trans hc
theorem below_drewN (B : Nat) (w : World) (n : Nat) : Below B w (w.drewN n) := ⟨rfl, rfl, rfl, Nat.le_refl _, fun _ _ => rfl⟩
/-- a sequence in memory -/
abbrev SqAt (w : World) (q pb po np pc : Nat) (s : ByteArray) (v1 v2 v3 v4 v5 : Value) (P T : Int) : Prop := RowAt w q [.string s, v1, v2, v3, v4, v5, .slice (some ⟨pb, po, none⟩) np pc, .int .i64 P, .int .i64 T]
def inR (lo n hi : Int) : Bool := decide (lo ≤ n) && decide (n ≤ hi)
theorem from_any (n lo hi : Int) (w : World) : Calls Tryd.prog 39 #[.int .i64 n, .int .i64 lo, .int .i64 hi] w fun e w' => e = .returned (.bool (inR lo n hi)) ∧ w = w' := by
  by_cases h : lo ≤ n
  · have HE := Lib.hid (show inR lo n hi = decide (n ≤ hi) by simp [inR, h])
    go_enter Tryd.func39, Tryd.ntmps39
    go_wp2_with fail
    go_ret
    exact ⟨by rw [HE.out]; first | rfl | simp [h], rfl⟩
  · have HE := Lib.hid (show inR lo n hi = false by simp [inR, h])
    go_enter Tryd.func39, Tryd.ntmps39
    go_wp2_with fail
    go_ret
    exact ⟨by rw [HE.out]; first | rfl | simp [h], rfl⟩
theorem number_yes (n : Int) (w : World) : Calls Tryd.prog 34 #[.int .i64 n] w fun e w' => e = .returned (.bool (inR (-1000000000000) n 1000000000000)) ∧ w = w' := by
  go_enter Tryd.func34, Tryd.ntmps34
  go_wp2_with fail
  refine (from_any _ _ _ _).mono ?_
  rintro e w1 ⟨rfl, rfl⟩
  go_wp2_with fail
  go_ret
  exact ⟨rfl, rfl⟩
theorem time_any (d : Int) (w : World) : Calls Tryd.prog 24 #[.int .i64 d] w fun e w' => e = .returned (.bool (inR 1 d 86400)) ∧ w = w' := by
  by_cases h : 1 ≤ d
  · have HE := Lib.hid (show inR 1 d 86400 = decide (d ≤ 86400) by simp [inR, h])
    go_enter Tryd.func24, Tryd.ntmps24
    go_wp2_with fail
    go_ret
    exact ⟨by rw [HE.out]; first | rfl | simp [h], rfl⟩
  · have HE := Lib.hid (show inR 1 d 86400 = false by simp [inR, h])
    go_enter Tryd.func24, Tryd.ntmps24
    go_wp2_with fail
    go_ret
    exact ⟨by rw [HE.out]; first | rfl | simp [h], rfl⟩
theorem last_any (q pb po np pc : Nat) (s : ByteArray) (v1 v2 v3 v4 v5 : Value) (P T : Int) (x : Int) (w : World) (hr : SqAt w q pb po np pc s v1 v2 v3 v4 v5 P T) (hn : 0 < np) (p0 : w.cell? ⟨pb, po, none⟩ = some (.int .i64 x)) : Calls Tryd.prog 36 #[.pointer (some ⟨q, 0, none⟩)] w fun e w' => e = .returned (.int .i64 x) ∧ w = w' := by
  have r6 := hr.c 6 _ rfl
  have h0 : (0 : Int) < (np : Int) := by omega
  clear hr hn
  go_enter Tryd.func36, Tryd.ntmps36
  go_wp2_with fail
  go_ret
  exact ⟨rfl, rfl⟩
theorem least_stage (q : Nat) (r : List Value) (w : World) (hr : RowAt w q (.string ⟨#[115, 116, 97, 103, 101]⟩ :: r)) : Calls Tryd.prog 41 #[.pointer (some ⟨q, 0, none⟩)] w fun e w' => e = .returned (.int .i64 (-6311433599)) ∧ w = w' := by
  have r0 := hr.c 0 _ rfl
  clear hr
  go_enter Tryd.func41, Tryd.ntmps41
  go_wp2_with fail
  go_ret
  exact ⟨rfl, rfl⟩
theorem least_steps (q : Nat) (r : List Value) (w : World) (hr : RowAt w q (.string ⟨#[115, 116, 101, 112, 115]⟩ :: r)) : Calls Tryd.prog 41 #[.pointer (some ⟨q, 0, none⟩)] w fun e w' => e = .returned (.int .i64 0) ∧ w = w' := by
  have r0 := hr.c 0 _ rfl
  clear hr
  go_enter Tryd.func41, Tryd.ntmps41
  go_wp2_with fail
  go_ret
  exact ⟨rfl, rfl⟩
set_option maxHeartbeats 1000000 in
theorem move_any (q pb po np pc : Nat) (s : ByteArray) (v1 v2 v3 v4 v5 : Value) (P T : Int) (x : Int) (w : World) (hr : SqAt w q pb po np pc s v1 v2 v3 v4 v5 P T) : Calls Tryd.prog 48 #[.pointer (some ⟨q, 0, none⟩), .int .i64 x] w fun e w' => e = .returned (.tuple #[]) ∧ SqAt w' q pb po np pc s v1 v2 v3 v4 v5 x 0 ∧ w.grownBy w' (some q) := by
  have r7 := hr.c 7 _ rfl
  have r8 := hr.c 8 _ rfl
  have rz := hr.fz
  have h1 := row_set hr 7 (by simp) (.int .i64 x)
  have h2 := row_set h1 8 (by simp) (.int .i64 0)
  have HS := Lib.hid h2
  have HG := Lib.hid (grown_trans (grown_cell w q 7 (.int .i64 x)) (grown_cell _ q 8 (.int .i64 0)))
  have s8 : (w.setCell ⟨q, 7, none⟩ (.int .i64 x)).cell? ⟨q, 8, none⟩ = some (.int .i64 T) := h1.c 8 _ rfl
  clear hr h1 h2
  go_enter Tryd.func48, Tryd.ntmps48
  go_wp2_with fail
  first | go_ret | go_end0
  exact ⟨rfl, HS.out, HG.out⟩
set_option maxHeartbeats 4000000 in
theorem compare_any (q pb po np pc : Nat) (s : ByteArray) (v1 v2 v3 v4 v5 : Value) (P T : Int) (d up dn : Int) (w : World) (hr : SqAt w q pb po np pc s v1 v2 v3 v4 v5 P T) (hn : 2 < np) (p1 : w.cell? ⟨pb, po + 1, none⟩ = some (.int .i64 up)) (p2 : w.cell? ⟨pb, po + 2, none⟩ = some (.int .i64 dn)) : Calls Tryd.prog 35 #[.pointer (some ⟨q, 0, none⟩), .int .i64 d] w fun e w' => e = .returned (.tuple #[.bool (decide (up < d)), .bool (decide (d < dn))]) ∧ Below w.heap.size w w' := by
  have r6 := hr.c 6 _ rfl
  have h1 : (1 : Int) < (np : Int) := by omega
  have h2 : (2 : Int) < (np : Int) := by omega
  clear hr hn
  go_enter Tryd.func35, Tryd.ntmps35
  go_upto_region 1 with fail
  go_quiet (fail)
  go_wp2_with fail
  go_ret2
  first
    | exact ⟨rfl, (Below.refl _ _).drew⟩
    | exact ⟨rfl, below_drewN _ _ _⟩
    | exact ⟨rfl, Below.refl _ _⟩
end Go.Proofs.YthaigchklogjlaaDoor
