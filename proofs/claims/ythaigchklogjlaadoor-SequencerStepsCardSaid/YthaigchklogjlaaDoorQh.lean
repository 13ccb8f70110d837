/- Contracts of Check, lead, Duration and Same. -/
import Derived.Test.YthaigchklogjlaaDoorQg
import Derived.Deep.QuietTactic
import Derived.BigQuiet
namespace Go.Proofs.YthaigchklogjlaaDoor
open Go.RowKit Go.Shelf

set_option linter.unusedVariables false
set_option linter.unusedSimpArgs false
set_option maxHeartbeats 1000000 in
theorem check_stage (pa : Option Addr) (pc : Nat) (ps : List Int) (F : Bool) (w : World) (hm : MaxAt w) (hq : InS w pa ps.length 1 (flat iL ps)) (hF : F = true ↔ ∀ (k : Nat) (x : BndD) (y : Int), ([⟨⟨#[115, 116, 97, 103, 101, 115]⟩, 1, 15, 1⟩, ⟨⟨#[117, 112]⟩, (-1000000000000), 1000000000000, 0⟩, ⟨⟨#[100, 111, 119, 110]⟩, (-1000000000000), 1000000000000, 0⟩, ⟨⟨#[117, 112, 100, 101, 108, 97, 121]⟩, 0, 86400, 0⟩, ⟨⟨#[100, 111, 119, 110, 100, 101, 108, 97, 121]⟩, 0, 86400, 0⟩] : List BndD)[k]? = some x → ps[k]? = some y → inR x.lo y x.hi = true) :
    Calls Tryd.prog 14 #[.string ⟨#[115, 116, 97, 103, 101]⟩, .slice pa ps.length pc] w fun e w' => e = .returned (.int .i64 (begE [⟨⟨#[115, 116, 97, 103, 101, 115]⟩, 1, 15, 1⟩, ⟨⟨#[117, 112]⟩, (-1000000000000), 1000000000000, 0⟩, ⟨⟨#[100, 111, 119, 110]⟩, (-1000000000000), 1000000000000, 0⟩, ⟨⟨#[117, 112, 100, 101, 108, 97, 121]⟩, 0, 86400, 0⟩, ⟨⟨#[100, 111, 119, 110, 100, 101, 108, 97, 121]⟩, 0, 86400, 0⟩] ps F)) ∧ Below w.heap.size w w' := by
  have KB := Lib.hid (begin_stage pa pc ps F w hm hq hF)
  obtain ⟨M, hM⟩ : ∃ M, M = ps.length := ⟨_, rfl⟩
  rw [← hM] at KB ⊢
  obtain ⟨E, hE⟩ : ∃ x, x = begE [⟨⟨#[115, 116, 97, 103, 101, 115]⟩, 1, 15, 1⟩, ⟨⟨#[117, 112]⟩, (-1000000000000), 1000000000000, 0⟩, ⟨⟨#[100, 111, 119, 110]⟩, (-1000000000000), 1000000000000, 0⟩, ⟨⟨#[117, 112, 100, 101, 108, 97, 121]⟩, 0, 86400, 0⟩, ⟨⟨#[100, 111, 119, 110, 100, 101, 108, 97, 121]⟩, 0, 86400, 0⟩] ps F := ⟨_, rfl⟩
  rw [← hE] at KB ⊢
  clear hm hq hF hM hE
  go_enter Tryd.func14, Tryd.ntmps14
  go_wp2_with fail
  refine KB.out.mono ?_
  rintro e w2 ⟨R, rfl, hso, hb⟩
  clear hso
  go_wp2_with fail
  go_ret
  exact ⟨rfl, hb⟩
set_option maxHeartbeats 1000000 in
theorem check_steps (pa : Option Addr) (pc : Nat) (ps : List Int) (F : Bool) (w : World) (hm : MaxAt w) (hq : InS w pa ps.length 1 (flat iL ps)) (hF : F = true ↔ ∀ (k : Nat) (x : BndD) (y : Int), ([⟨⟨#[99, 111, 117, 110, 116]⟩, 1, 15, 1⟩, ⟨⟨#[108, 101, 97, 115, 116]⟩, 0, 86400, 0⟩] : List BndD)[k]? = some x → ps[k]? = some y → inR x.lo y x.hi = true) :
    Calls Tryd.prog 14 #[.string ⟨#[115, 116, 101, 112, 115]⟩, .slice pa ps.length pc] w fun e w' => e = .returned (.int .i64 (begE [⟨⟨#[99, 111, 117, 110, 116]⟩, 1, 15, 1⟩, ⟨⟨#[108, 101, 97, 115, 116]⟩, 0, 86400, 0⟩] ps F)) ∧ Below w.heap.size w w' := by
  have KB := Lib.hid (begin_steps pa pc ps F w hm hq hF)
  obtain ⟨M, hM⟩ : ∃ M, M = ps.length := ⟨_, rfl⟩
  rw [← hM] at KB ⊢
  obtain ⟨E, hE⟩ : ∃ x, x = begE [⟨⟨#[99, 111, 117, 110, 116]⟩, 1, 15, 1⟩, ⟨⟨#[108, 101, 97, 115, 116]⟩, 0, 86400, 0⟩] ps F := ⟨_, rfl⟩
  rw [← hE] at KB ⊢
  clear hm hq hF hM hE
  go_enter Tryd.func14, Tryd.ntmps14
  go_wp2_with fail
  refine KB.out.mono ?_
  rintro e w2 ⟨R, rfl, hso, hb⟩
  clear hso
  go_wp2_with fail
  go_ret
  exact ⟨rfl, hb⟩
set_option maxHeartbeats 4000000 in
theorem lead_stage (q pb po pc ib io ic : Nat) (v1 v2 v3 v4 v5 : Value) (p : Int) (L : Int) (up : Int) (dn : Int) (ud : Int) (dd : Int) (d dt : Int) (St : Nat → Int × Int) (N : Nat) (w : World) (hr : SqAt w q pb po 5 pc ⟨#[115, 116, 97, 103, 101]⟩ v1 v2 v3 v4 v5 (St 0).1 (St 0).2) (hs : ∀ k, k < N → St (k + 1) = stageS L up dn ud dd d dt (St k).1 (St k).2) (hTb : ∀ k, k < N → -10000000000 ≤ (St k).2 ∧ (St k).2 ≤ 10000000000) (hPb : ∀ k, k < N → -1000 ≤ (St k).1 ∧ (St k).1 ≤ 1000) (hd : 0 ≤ dt ∧ dt ≤ 1000000) (hpq : pb ≠ q) (hiq : ib ≠ q) (p0 : w.cell? ⟨pb, po, none⟩ = some (.int .i64 L)) (p1 : w.cell? ⟨pb, po + 1, none⟩ = some (.int .i64 up)) (p2 : w.cell? ⟨pb, po + 2, none⟩ = some (.int .i64 dn)) (p3 : w.cell? ⟨pb, po + 3, none⟩ = some (.int .i64 ud)) (p4 : w.cell? ⟨pb, po + 4, none⟩ = some (.int .i64 dd)) (i0 : w.cell? ⟨ib, io, none⟩ = some (.int .i64 d)) (hne : ∀ k, k < N → (St k).1 ≠ p) (hN : (St N).1 = p) (hN62 : N ≤ 1000000000000) :
    Calls Tryd.prog 37 #[.pointer (some ⟨q, 0, none⟩), .int .i64 p, .slice (some ⟨ib, io, none⟩) 1 ic, .int .i64 dt] w fun e w' => e = .returned (.int .i64 N) ∧ w.grownBy w' (some q) := by
  obtain ⟨W, b1, b2, hW, hb1, hb2, R1, R2, BB, sz⟩ := box2 w #[.pointer (some ⟨q, 0, none⟩)] 51 #[.int .i64 p] 2
  have KE := Lib.hid (eval_stage_lead q pb po pc ib io 1 ic v1 v2 v3 v4 v5 b1 b2 p L up dn ud dd d dt St N W (hr.keep BB) hs hTb hPb hd hpq hiq rfl (cell_below p0 BB) (cell_below p1 BB) (cell_below p2 BB) (cell_below p3 BB) (cell_below p4 BB) (cell_below i0 BB) ⟨by have := hr.lt; omega, by have := hr.lt; omega⟩ (R1.c 0 _ rfl) (R2.c 0 _ rfl) hne hN hN62)
  have HBB := Lib.hid BB
  have y0 := R1.c 0 _ rfl
  have y1 := R2.c 0 _ rfl
  have hmf : ∀ (fn : Fn) (first cap : Array Value) (w : World), (Instr.makeFunc fn first cap).run Tryd.prog w = .ok (.func fn first cap) w := fun _ _ _ _ => rfl
  clear hr hs hTb hPb hd hpq hiq p0 p1 p2 p3 p4 i0 hne hN hN62 R1 R2 BB sz
  go_enter Tryd.func37, Tryd.ntmps37
  go_upto_region 1 with fail
  rw [← hW]
  try rw [← hb2]
  try rw [← hb1]
  clear hW hb1 hb2
  go_wp2_with fail
  refine KE.out.mono ?_
  rintro e w2 ⟨rfl, hrow, hg⟩
  have HG := Lib.hid (grown_trans (grown_of_below HBB.out (some q)) hg)
  clear hrow hg
  go_wp2_with fail
  go_ret
  exact ⟨rfl, HG.out⟩
set_option maxHeartbeats 4000000 in
theorem lead_steps (q pb po pc ib io ic : Nat) (v1 v2 v3 v4 v5 : Value) (p : Int) (L : Int) (least : Int) (d d2 dt : Int) (St : Nat → Int × Int) (N : Nat) (w : World) (hr : SqAt w q pb po 2 pc ⟨#[115, 116, 101, 112, 115]⟩ v1 v2 v3 v4 v5 (St 0).1 (St 0).2) (hs : ∀ k, k < N → St (k + 1) = stepsS L least (d == 1) (d2 == 1) dt (St k).1 (St k).2) (hTb : ∀ k, k < N → -10000000000 ≤ (St k).2 ∧ (St k).2 ≤ 10000000000) (hPb : ∀ k, k < N → -1000 ≤ (St k).1 ∧ (St k).1 ≤ 1000) (hd : 0 ≤ dt ∧ dt ≤ 1000000) (hpq : pb ≠ q) (hiq : ib ≠ q) (p0 : w.cell? ⟨pb, po, none⟩ = some (.int .i64 L)) (p1 : w.cell? ⟨pb, po + 1, none⟩ = some (.int .i64 least)) (i0 : w.cell? ⟨ib, io, none⟩ = some (.int .i64 d)) (i1 : w.cell? ⟨ib, io + 1, none⟩ = some (.int .i64 d2)) (hne : ∀ k, k < N → (St k).1 ≠ p) (hN : (St N).1 = p) (hN62 : N ≤ 1000000000000) :
    Calls Tryd.prog 37 #[.pointer (some ⟨q, 0, none⟩), .int .i64 p, .slice (some ⟨ib, io, none⟩) 2 ic, .int .i64 dt] w fun e w' => e = .returned (.int .i64 N) ∧ w.grownBy w' (some q) := by
  obtain ⟨W, b1, b2, hW, hb1, hb2, R1, R2, BB, sz⟩ := box2 w #[.pointer (some ⟨q, 0, none⟩)] 51 #[.int .i64 p] 2
  have KE := Lib.hid (eval_steps_lead q pb po pc ib io 2 ic v1 v2 v3 v4 v5 b1 b2 p L least d d2 dt St N W (hr.keep BB) hs hTb hPb hd hpq hiq rfl (cell_below p0 BB) (cell_below p1 BB) (cell_below i0 BB) (cell_below i1 BB) ⟨by have := hr.lt; omega, by have := hr.lt; omega⟩ (R1.c 0 _ rfl) (R2.c 0 _ rfl) hne hN hN62)
  have HBB := Lib.hid BB
  have y0 := R1.c 0 _ rfl
  have y1 := R2.c 0 _ rfl
  have hmf : ∀ (fn : Fn) (first cap : Array Value) (w : World), (Instr.makeFunc fn first cap).run Tryd.prog w = .ok (.func fn first cap) w := fun _ _ _ _ => rfl
  clear hr hs hTb hPb hd hpq hiq p0 p1 i0 i1 hne hN hN62 R1 R2 BB sz
  go_enter Tryd.func37, Tryd.ntmps37
  go_upto_region 1 with fail
  rw [← hW]
  try rw [← hb2]
  try rw [← hb1]
  clear hW hb1 hb2
  go_wp2_with fail
  refine KE.out.mono ?_
  rintro e w2 ⟨rfl, hrow, hg⟩
  have HG := Lib.hid (grown_trans (grown_of_below HBB.out (some q)) hg)
  clear hrow hg
  go_wp2_with fail
  go_ret
  exact ⟨rfl, HG.out⟩
set_option maxHeartbeats 4000000 in
set_option maxRecDepth 100000 in
theorem same_yes (a1 a2 : Option Addr) (c1 c2 : Nat) (xs : List Int) (w : World) (h1 : InS w a1 xs.length 1 (flat iL xs)) (h2 : InS w a2 xs.length 1 (flat iL xs)) : Calls Tryd.prog 13 #[.slice a1 xs.length c1, .slice a2 xs.length c2] w fun e w' => e = .returned (.bool true) ∧ Below w.heap.size w w' := by
  have H1 := Lib.hid h1
  have H2 := Lib.hid h2
  obtain ⟨M, hM⟩ : ∃ M, M = xs.length := ⟨_, rfl⟩
  have HM := Lib.hid hM
  have m63 : M ≤ 9223372036854775807 := by rw [hM]; exact h1.2.1
  rw [← hM]
  clear h1 h2 hM
  go_enter Tryd.func13, Tryd.ntmps13
  go_wp2_with fail
  go_loopw [5] (fun i wr => ∃ j : Nat, j ≤ M ∧ i = .int .i64 j ∧ Hid (Below w.heap.size w wr)) (fun i _ => M - (intOf i).toNat)
  case atStart => exact ⟨0, Nat.zero_le _, rfl, Lib.hid (Below.refl _ _)⟩
  case round =>
    obtain ⟨j, hj, rfl, HBR⟩ := hrel
    by_cases hlt : j < M
    · obtain ⟨ab, ao, rfl, hal, hac⟩ := (show InS wr a1 xs.length 1 (flat iL xs) from H1.out.keep HBR.out).at iL_len (by have := HM.out; omega)
      obtain ⟨bb, bo, rfl, hbl, hbc⟩ := (show InS wr a2 xs.length 1 (flat iL xs) from H2.out.keep HBR.out).at iL_len (by have := HM.out; omega)
      obtain ⟨x, hx⟩ : ∃ x, xs[j]? = some x := ⟨_, List.getElem?_eq_getElem (by have := HM.out; omega)⟩
      have l0 := hac j _ hx 0 _ rfl
      have m0 := hbc j _ hx 0 _ rfl
      simp only [Nat.mul_one, Nat.add_zero] at l0 m0
      have k1 : (0 : Int) ≤ (j : Int) := by omega
      have k2 : (j : Int) < (M : Int) := by omega
      have e1 : IntKind.i64.wrap ((j : Int) + 1) = (j : Int) + 1 := IntWalk.i64_in _ (by omega)
      clear hx hac hbc
      go_wp2_with fail
      go_quiet (fail)
      have HB2 := Lib.hid (HBR.out.trans ((below_drewN wr.heap.size wr nq).mono HBR.out.size))
      go_wp2_with fail
      go_roundw
      case rel => exact ⟨j + 1, by omega, by go_num, HB2⟩
      case measure => (simp [intOf]) <;> omega
    · obtain rfl : j = M := by omega
      go_wp2_with fail
      go_ret
      exact ⟨rfl, HBR.out⟩
end Go.Proofs.YthaigchklogjlaaDoor
