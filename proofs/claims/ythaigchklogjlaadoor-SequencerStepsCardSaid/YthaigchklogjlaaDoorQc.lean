/- Contracts of evaluate: once, and until a place is come to. -/
import Derived.Test.YthaigchklogjlaaDoorQb
import Derived.WalkMore
namespace Go.Proofs.YthaigchklogjlaaDoor
open Go.RowKit Go.Shelf

set_option linter.unusedVariables false
set_option linter.unusedSimpArgs false
theorem once_any (i : Int) (w : World) : Calls Tryd.prog 28 #[.int .i64 i] w fun e w' => e = .returned (.bool (i == 1)) ∧ Below w.heap.size w w' := by
  go_enter Tryd.func28, Tryd.ntmps28
  go_wp2_with fail
  go_ret
  exact ⟨rfl, Below.refl _ _⟩
theorem lead1_any (q b1 b2 : Nat) (r : List Value) (v0 v1 v2 v3 v4 v5 v6 : Value) (i P p : Int) (w : World) (hr : RowAt w q ([v0, v1, v2, v3, v4, v5, v6, .int .i64 P] ++ r)) (h1 : w.cell? ⟨b1, 0, none⟩ = some (.pointer (some ⟨q, 0, none⟩))) (h2 : w.cell? ⟨b2, 0, none⟩ = some (.int .i64 p)) : Calls Tryd.prog 45 #[.int .i64 i, .pointer (some ⟨b1, 0, none⟩), .pointer (some ⟨b2, 0, none⟩)] w fun e w' => e = .returned (.bool (P == p)) ∧ Below w.heap.size w w' := by
  have r7 := hr.c 7 _ rfl
  clear hr
  go_enter Tryd.func45, Tryd.ntmps45
  go_upto_region 1 with fail
  go_quiet (fail)
  go_wp2_with fail
  go_ret
  exact ⟨rfl, below_drewN _ _ _⟩
set_option maxHeartbeats 8000000 in
set_option maxRecDepth 100000 in
theorem eval_stage_once (q pb po pc ib io il ic : Nat) (v1 v2 v3 v4 v5 : Value) (L : Int) (up : Int) (dn : Int) (ud : Int) (dd : Int) (d dt : Int) (St : Nat → Int × Int) (N : Nat) (w : World) (hr : SqAt w q pb po 5 pc ⟨#[115, 116, 97, 103, 101]⟩ v1 v2 v3 v4 v5 (St 0).1 (St 0).2) (hs : ∀ k, k < N → St (k + 1) = stageS L up dn ud dd d dt (St k).1 (St k).2) (hTb : ∀ k, k < N → -10000000000 ≤ (St k).2 ∧ (St k).2 ≤ 10000000000) (hPb : ∀ k, k < N → -1000 ≤ (St k).1 ∧ (St k).1 ≤ 1000) (hd : 0 ≤ dt ∧ dt ≤ 1000000) (hpq : pb ≠ q) (hiq : ib ≠ q) (hil : il = 1) (p0 : w.cell? ⟨pb, po, none⟩ = some (.int .i64 L)) (p1 : w.cell? ⟨pb, po + 1, none⟩ = some (.int .i64 up)) (p2 : w.cell? ⟨pb, po + 2, none⟩ = some (.int .i64 dn)) (p3 : w.cell? ⟨pb, po + 3, none⟩ = some (.int .i64 ud)) (p4 : w.cell? ⟨pb, po + 4, none⟩ = some (.int .i64 dd)) (i0 : w.cell? ⟨ib, io, none⟩ = some (.int .i64 d)) (hN : N = 1) :
    Calls Tryd.prog 27 #[.pointer (some ⟨q, 0, none⟩), .slice (some ⟨ib, io, none⟩) 1 ic, .int .i64 dt, .func (.func 28) #[] #[]] w fun e w' => e = .returned (.int .i64 N) ∧ SqAt w' q pb po 5 pc ⟨#[115, 116, 97, 103, 101]⟩ v1 v2 v3 v4 v5 (St N).1 (St N).2 ∧ w.grownBy w' (some q) := by
  obtain rfl := hN
  have KS := Lib.hid (fun (W : World) (hg : w.grownBy W (some q)) (k : Nat) (hk : k < 1) (h : SqAt W q pb po 5 pc ⟨#[115, 116, 97, 103, 101]⟩ v1 v2 v3 v4 v5 (St k).1 (St k).2) => stage_any q pb po pc ⟨#[115, 116, 97, 103, 101]⟩ v1 v2 v3 v4 v5 (St k).1 (St k).2 L up dn ud dd d dt W h (hTb k hk) hd (hPb k hk) (cell_grown p0 hg (fun e => hpq (by injection e))) (cell_grown p1 hg (fun e => hpq (by injection e))) (cell_grown p2 hg (fun e => hpq (by injection e))) (cell_grown p3 hg (fun e => hpq (by injection e))) (cell_grown p4 hg (fun e => hpq (by injection e))))
  have HI := Lib.hid (fun (W : World) (hg : w.grownBy W (some q)) => cell_grown i0 hg (fun e => hiq (by injection e)))
  have HEN := Lib.hid (fun (k : Nat) (hk : k ≤ 1) => show ((k : Int) == 1) = decide (k = 1) by rcases (show k = 0 ∨ k = 1 by omega) with rfl | rfl <;> rfl)
  have HR := Lib.hid hr
  have HS := Lib.hid hs
  have HG0 := Lib.hid (grown_refl w (some q))
  clear hr hs hTb hPb hpq hiq p0 p1 p2 p3 p4 i0
  go_enter Tryd.func27, Tryd.ntmps27
  go_wp2_with fail
  go_step3
  go_wp2_with fail
  go_step3
  go_wp2_with fail
  go_loopw [9] (fun i wr => ∃ k : Nat, k ≤ 1 ∧ i = .int .i64 k ∧ Hid (SqAt wr q pb po 5 pc ⟨#[115, 116, 97, 103, 101]⟩ v1 v2 v3 v4 v5 (St k).1 (St k).2 ∧ w.grownBy wr (some q))) (fun i _ => 1 + 1 - (intOf i).toNat)
  case atStart => exact ⟨0, Nat.zero_le _, rfl, Lib.hid ⟨HR.out, HG0.out⟩⟩
  case round =>
    obtain ⟨k, hk, rfl, hH⟩ := hrel
    have HRR := Lib.hid hH.out.1
    have HGR := Lib.hid hH.out.2
    clear hH
    have kc := once_any (k : Int) wr
    rw [HEN.out k hk] at kc
    have KC := Lib.hid kc
    clear kc
    go_wp2_with fail
    refine KC.out.mono ?_
    rintro e w1 ⟨rfl, hb⟩
    have HR1 := Lib.hid (HRR.out.keep hb)
    have HG1 := Lib.hid (grown_trans HGR.out (grown_of_below hb (some q)))
    clear hb KC
    by_cases hkN : k = 1
    · rw [decide_eq_true hkN]
      obtain rfl := hkN
      go_wp2_with fail
      (try rw [Exit.noGoto_ret])
      go_ret
      exact ⟨rfl, HR1.out, HG1.out⟩
    · rw [decide_eq_false hkN]
      have hlt : k < 1 := by omega
      have e1 : IntKind.i64.wrap ((k : Int) + 1) = (k : Int) + 1 := IntWalk.i64_in _ (by omega)
      have r0 := HR1.out.c 0 _ rfl
      have i0 := HI.out w1 HG1.out
      go_wp2_with fail
      refine (KS.out w1 HG1.out k hlt HR1.out).mono ?_
      rintro e w2 ⟨rfl, hrow, hg⟩
      rw [← HS.out k hlt] at hrow
      have HROW := Lib.hid hrow
      have HG2 := Lib.hid (grown_trans HG1.out hg)
      clear hrow hg r0 i0
      go_wp2_with fail
      go_roundw
      case rel => exact ⟨k + 1, by omega, by go_num, Lib.hid ⟨HROW.out, HG2.out⟩⟩
      case measure => (simp [intOf]) <;> omega
set_option maxHeartbeats 8000000 in
set_option maxRecDepth 100000 in
theorem eval_stage_lead (q pb po pc ib io il ic : Nat) (v1 v2 v3 v4 v5 : Value) (b1 b2 : Nat) (p : Int) (L : Int) (up : Int) (dn : Int) (ud : Int) (dd : Int) (d dt : Int) (St : Nat → Int × Int) (N : Nat) (w : World) (hr : SqAt w q pb po 5 pc ⟨#[115, 116, 97, 103, 101]⟩ v1 v2 v3 v4 v5 (St 0).1 (St 0).2) (hs : ∀ k, k < N → St (k + 1) = stageS L up dn ud dd d dt (St k).1 (St k).2) (hTb : ∀ k, k < N → -10000000000 ≤ (St k).2 ∧ (St k).2 ≤ 10000000000) (hPb : ∀ k, k < N → -1000 ≤ (St k).1 ∧ (St k).1 ≤ 1000) (hd : 0 ≤ dt ∧ dt ≤ 1000000) (hpq : pb ≠ q) (hiq : ib ≠ q) (hil : il = 1) (p0 : w.cell? ⟨pb, po, none⟩ = some (.int .i64 L)) (p1 : w.cell? ⟨pb, po + 1, none⟩ = some (.int .i64 up)) (p2 : w.cell? ⟨pb, po + 2, none⟩ = some (.int .i64 dn)) (p3 : w.cell? ⟨pb, po + 3, none⟩ = some (.int .i64 ud)) (p4 : w.cell? ⟨pb, po + 4, none⟩ = some (.int .i64 dd)) (i0 : w.cell? ⟨ib, io, none⟩ = some (.int .i64 d)) (hbq : b1 ≠ q ∧ b2 ≠ q) (hb1 : w.cell? ⟨b1, 0, none⟩ = some (.pointer (some ⟨q, 0, none⟩))) (hb2 : w.cell? ⟨b2, 0, none⟩ = some (.int .i64 p)) (hne : ∀ k, k < N → (St k).1 ≠ p) (hN : (St N).1 = p) (hN62 : N ≤ 1000000000000) :
    Calls Tryd.prog 27 #[.pointer (some ⟨q, 0, none⟩), .slice (some ⟨ib, io, none⟩) 1 ic, .int .i64 dt, .func (.func 45) #[] #[.pointer (some ⟨b1, 0, none⟩), .pointer (some ⟨b2, 0, none⟩)]] w fun e w' => e = .returned (.int .i64 N) ∧ SqAt w' q pb po 5 pc ⟨#[115, 116, 97, 103, 101]⟩ v1 v2 v3 v4 v5 (St N).1 (St N).2 ∧ w.grownBy w' (some q) := by
  have KS := Lib.hid (fun (W : World) (hg : w.grownBy W (some q)) (k : Nat) (hk : k < N) (h : SqAt W q pb po 5 pc ⟨#[115, 116, 97, 103, 101]⟩ v1 v2 v3 v4 v5 (St k).1 (St k).2) => stage_any q pb po pc ⟨#[115, 116, 97, 103, 101]⟩ v1 v2 v3 v4 v5 (St k).1 (St k).2 L up dn ud dd d dt W h (hTb k hk) hd (hPb k hk) (cell_grown p0 hg (fun e => hpq (by injection e))) (cell_grown p1 hg (fun e => hpq (by injection e))) (cell_grown p2 hg (fun e => hpq (by injection e))) (cell_grown p3 hg (fun e => hpq (by injection e))) (cell_grown p4 hg (fun e => hpq (by injection e))))
  have HI := Lib.hid (fun (W : World) (hg : w.grownBy W (some q)) => cell_grown i0 hg (fun e => hiq (by injection e)))
  have HEN := Lib.hid (fun (k : Nat) (hk : k ≤ N) => show ((St k).1 == p) = decide (k = N) by
    by_cases h : k = N
    · subst h; rw [decide_eq_true rfl, beq_iff_eq]; exact hN
    · rw [decide_eq_false h, beq_eq_false_iff_ne]; exact hne k (by omega))
  have HB12 := Lib.hid (fun (W : World) (hg : w.grownBy W (some q)) => And.intro (cell_grown hb1 hg (fun e => hbq.1 (by injection e))) (cell_grown hb2 hg (fun e => hbq.2 (by injection e))))
  have HR := Lib.hid hr
  have HS := Lib.hid hs
  have HG0 := Lib.hid (grown_refl w (some q))
  have n62 := hN62
  clear hr hs hTb hPb hpq hiq p0 p1 p2 p3 p4 i0 hbq hb1 hb2 hne hN hN62
  go_enter Tryd.func27, Tryd.ntmps27
  go_wp2_with fail
  go_step3
  go_wp2_with fail
  go_step3
  go_wp2_with fail
  go_loopw [9] (fun i wr => ∃ k : Nat, k ≤ N ∧ i = .int .i64 k ∧ Hid (SqAt wr q pb po 5 pc ⟨#[115, 116, 97, 103, 101]⟩ v1 v2 v3 v4 v5 (St k).1 (St k).2 ∧ w.grownBy wr (some q))) (fun i _ => N + 1 - (intOf i).toNat)
  case atStart => exact ⟨0, Nat.zero_le _, rfl, Lib.hid ⟨HR.out, HG0.out⟩⟩
  case round =>
    obtain ⟨k, hk, rfl, hH⟩ := hrel
    have HRR := Lib.hid hH.out.1
    have HGR := Lib.hid hH.out.2
    clear hH
    have kc := lead1_any q b1 b2 [.int .i64 (St k).2] _ _ _ _ _ _ _ (k : Int) (St k).1 p wr HRR.out (HB12.out wr HGR.out).1 (HB12.out wr HGR.out).2
    rw [HEN.out k hk] at kc
    have KC := Lib.hid kc
    clear kc
    go_wp2_with fail
    refine KC.out.mono ?_
    rintro e w1 ⟨rfl, hb⟩
    have HR1 := Lib.hid (HRR.out.keep hb)
    have HG1 := Lib.hid (grown_trans HGR.out (grown_of_below hb (some q)))
    clear hb KC
    by_cases hkN : k = N
    · rw [decide_eq_true hkN]
      subst hkN
      go_wp2_with fail
      (try rw [Exit.noGoto_ret])
      go_ret
      exact ⟨rfl, HR1.out, HG1.out⟩
    · rw [decide_eq_false hkN]
      have hlt : k < N := by omega
      have e1 : IntKind.i64.wrap ((k : Int) + 1) = (k : Int) + 1 := IntWalk.i64_in _ (by omega)
      have r0 := HR1.out.c 0 _ rfl
      have i0 := HI.out w1 HG1.out
      go_wp2_with fail
      refine (KS.out w1 HG1.out k hlt HR1.out).mono ?_
      rintro e w2 ⟨rfl, hrow, hg⟩
      rw [← HS.out k hlt] at hrow
      have HROW := Lib.hid hrow
      have HG2 := Lib.hid (grown_trans HG1.out hg)
      clear hrow hg r0 i0
      go_wp2_with fail
      go_roundw
      case rel => exact ⟨k + 1, by omega, by go_num, Lib.hid ⟨HROW.out, HG2.out⟩⟩
      case measure => (simp [intOf]) <;> omega
set_option maxHeartbeats 8000000 in
set_option maxRecDepth 100000 in
theorem eval_steps_once (q pb po pc ib io il ic : Nat) (v1 v2 v3 v4 v5 : Value) (L : Int) (least : Int) (d d2 dt : Int) (St : Nat → Int × Int) (N : Nat) (w : World) (hr : SqAt w q pb po 2 pc ⟨#[115, 116, 101, 112, 115]⟩ v1 v2 v3 v4 v5 (St 0).1 (St 0).2) (hs : ∀ k, k < N → St (k + 1) = stepsS L least (d == 1) (d2 == 1) dt (St k).1 (St k).2) (hTb : ∀ k, k < N → -10000000000 ≤ (St k).2 ∧ (St k).2 ≤ 10000000000) (hPb : ∀ k, k < N → -1000 ≤ (St k).1 ∧ (St k).1 ≤ 1000) (hd : 0 ≤ dt ∧ dt ≤ 1000000) (hpq : pb ≠ q) (hiq : ib ≠ q) (hil : il = 2) (p0 : w.cell? ⟨pb, po, none⟩ = some (.int .i64 L)) (p1 : w.cell? ⟨pb, po + 1, none⟩ = some (.int .i64 least)) (i0 : w.cell? ⟨ib, io, none⟩ = some (.int .i64 d)) (i1 : w.cell? ⟨ib, io + 1, none⟩ = some (.int .i64 d2)) (hN : N = 1) :
    Calls Tryd.prog 27 #[.pointer (some ⟨q, 0, none⟩), .slice (some ⟨ib, io, none⟩) 2 ic, .int .i64 dt, .func (.func 28) #[] #[]] w fun e w' => e = .returned (.int .i64 N) ∧ SqAt w' q pb po 2 pc ⟨#[115, 116, 101, 112, 115]⟩ v1 v2 v3 v4 v5 (St N).1 (St N).2 ∧ w.grownBy w' (some q) := by
  obtain rfl := hN
  have KS := Lib.hid (fun (W : World) (hg : w.grownBy W (some q)) (k : Nat) (hk : k < 1) (h : SqAt W q pb po 2 pc ⟨#[115, 116, 101, 112, 115]⟩ v1 v2 v3 v4 v5 (St k).1 (St k).2) => steps_any q pb po pc ⟨#[115, 116, 101, 112, 115]⟩ v1 v2 v3 v4 v5 (St k).1 (St k).2 L least (d == 1) (d2 == 1) dt W h (hTb k hk) hd (hPb k hk) hpq (cell_grown p0 hg (fun e => hpq (by injection e))) (cell_grown p1 hg (fun e => hpq (by injection e))))
  have HI := Lib.hid (fun (W : World) (hg : w.grownBy W (some q)) => And.intro (cell_grown i0 hg (fun e => hiq (by injection e))) (cell_grown i1 hg (fun e => hiq (by injection e))))
  have HEN := Lib.hid (fun (k : Nat) (hk : k ≤ 1) => show ((k : Int) == 1) = decide (k = 1) by rcases (show k = 0 ∨ k = 1 by omega) with rfl | rfl <;> rfl)
  have HR := Lib.hid hr
  have HS := Lib.hid hs
  have HG0 := Lib.hid (grown_refl w (some q))
  clear hr hs hTb hPb hpq hiq p0 p1 i0 i1
  go_enter Tryd.func27, Tryd.ntmps27
  go_wp2_with fail
  go_step3
  go_wp2_with fail
  go_step3
  go_wp2_with fail
  go_loopw [9] (fun i wr => ∃ k : Nat, k ≤ 1 ∧ i = .int .i64 k ∧ Hid (SqAt wr q pb po 2 pc ⟨#[115, 116, 101, 112, 115]⟩ v1 v2 v3 v4 v5 (St k).1 (St k).2 ∧ w.grownBy wr (some q))) (fun i _ => 1 + 1 - (intOf i).toNat)
  case atStart => exact ⟨0, Nat.zero_le _, rfl, Lib.hid ⟨HR.out, HG0.out⟩⟩
  case round =>
    obtain ⟨k, hk, rfl, hH⟩ := hrel
    have HRR := Lib.hid hH.out.1
    have HGR := Lib.hid hH.out.2
    clear hH
    have kc := once_any (k : Int) wr
    rw [HEN.out k hk] at kc
    have KC := Lib.hid kc
    clear kc
    go_wp2_with fail
    refine KC.out.mono ?_
    rintro e w1 ⟨rfl, hb⟩
    have HR1 := Lib.hid (HRR.out.keep hb)
    have HG1 := Lib.hid (grown_trans HGR.out (grown_of_below hb (some q)))
    clear hb KC
    by_cases hkN : k = 1
    · rw [decide_eq_true hkN]
      obtain rfl := hkN
      go_wp2_with fail
      (try rw [Exit.noGoto_ret])
      go_ret
      exact ⟨rfl, HR1.out, HG1.out⟩
    · rw [decide_eq_false hkN]
      have hlt : k < 1 := by omega
      have e1 : IntKind.i64.wrap ((k : Int) + 1) = (k : Int) + 1 := IntWalk.i64_in _ (by omega)
      have r0 := HR1.out.c 0 _ rfl
      have HC := Lib.hid (HI.out w1 HG1.out)
      have HGD := Lib.hid (grown_trans HG1.out (grown_of_below (Below.refl w1.heap.size w1).drew (some q)))
      have KSD := Lib.hid (KS.out w1.drew HGD.out k hlt (HR1.out.keep (Below.refl _ _).drew))
      go_wp2_with fail
      refine wp_region_held_drew (S := fun w' => w'.cell? ⟨ib, io, none⟩ = some (.int .i64 d) ∧ w'.cell? ⟨ib, io + 1, none⟩ = some (.int .i64 d2)) (by kernel_rfl) HC.out (fun hHeld => ?_)
      refine' wpAnyH_take (i := 0) (v := _) rfl (by kernel_rfl) (by kernel_rfl) (by kernel_rfl) (fun _ _ _ h => h) (Or.inl ⟨by rfl, ?_⟩) hHeld ?_
      rotate_left
      · intro w hSw
        (try dsimp only at hSw)
        go_simp
        try with_reducible rfl
      (try simp only [Act.put, List.getElem_toArray, List.getElem_cons_zero, List.getElem_cons_succ, List.setIfInBounds_toArray, List.set_cons_zero, List.set_cons_succ])
      refine' wpAnyH_take (i := 1) (v := _) rfl (by kernel_rfl) (by kernel_rfl) (by kernel_rfl) (fun _ _ _ h => h) (Or.inl ⟨by rfl, ?_⟩) hHeld ?_
      rotate_left
      · intro w hSw
        (try dsimp only at hSw)
        go_simp
        try with_reducible rfl
      (try simp only [Act.put, List.getElem_toArray, List.getElem_cons_zero, List.getElem_cons_succ, List.setIfInBounds_toArray, List.set_cons_zero, List.set_cons_succ])
      refine' wpAnyH_take (i := 2) (v := _) rfl (by kernel_rfl) (by kernel_rfl) (by kernel_rfl) (fun _ _ _ h => h) (Or.inl ⟨by rfl, ?_⟩) hHeld ?_
      rotate_left
      · intro w hSw
        (try dsimp only at hSw)
        go_simp
        try with_reducible rfl
      (try simp only [Act.put, List.getElem_toArray, List.getElem_cons_zero, List.getElem_cons_succ, List.setIfInBounds_toArray, List.set_cons_zero, List.set_cons_succ])
      refine' wpAnyH_take (i := 3) (v := _) rfl (by kernel_rfl) (by kernel_rfl) (by kernel_rfl) (fun _ _ _ h => h) (Or.inl ⟨by rfl, ?_⟩) hHeld ?_
      rotate_left
      · intro w hSw
        (try dsimp only at hSw)
        go_simp
        try with_reducible rfl
      (try simp only [Act.put, List.getElem_toArray, List.getElem_cons_zero, List.getElem_cons_succ, List.setIfInBounds_toArray, List.set_cons_zero, List.set_cons_succ])
      refine' wpAnyH_take (i := 4) (v := _) rfl (by kernel_rfl) (by kernel_rfl) (by kernel_rfl) (fun _ _ _ h => h) (Or.inl ⟨by rfl, ?_⟩) hHeld ?_
      rotate_left
      · intro w hSw
        (try dsimp only at hSw)
        go_simp
        try with_reducible rfl
      (try simp only [Act.put, List.getElem_toArray, List.getElem_cons_zero, List.getElem_cons_succ, List.setIfInBounds_toArray, List.set_cons_zero, List.set_cons_succ])
      refine' wpAnyH_take (i := 5) (v := _) rfl (by kernel_rfl) (by kernel_rfl) (by kernel_rfl) (fun _ _ _ h => h) (Or.inl ⟨by rfl, ?_⟩) hHeld ?_
      rotate_left
      · intro w hSw
        (try dsimp only at hSw)
        go_simp
        try with_reducible rfl
      (try simp only [Act.put, List.getElem_toArray, List.getElem_cons_zero, List.getElem_cons_succ, List.setIfInBounds_toArray, List.set_cons_zero, List.set_cons_succ])
      refine' wpAnyH_take (i := 6) (v := _) rfl (by kernel_rfl) (by kernel_rfl) (by kernel_rfl) (fun _ _ _ h => h) (Or.inl ⟨by rfl, ?_⟩) hHeld ?_
      rotate_left
      · intro w hSw
        (try dsimp only at hSw)
        go_simp
        try with_reducible rfl
      (try simp only [Act.put, List.getElem_toArray, List.getElem_cons_zero, List.getElem_cons_succ, List.setIfInBounds_toArray, List.set_cons_zero, List.set_cons_succ])
      refine' wpAnyH_take (i := 7) (v := _) rfl (by kernel_rfl) (by kernel_rfl) (by kernel_rfl) (fun _ _ _ h => h) (Or.inl ⟨by rfl, ?_⟩) hHeld ?_
      rotate_left
      · intro w hSw
        (try dsimp only at hSw)
        go_simp
        try with_reducible rfl
      (try simp only [Act.put, List.getElem_toArray, List.getElem_cons_zero, List.getElem_cons_succ, List.setIfInBounds_toArray, List.set_cons_zero, List.set_cons_succ])
      refine' wpAnyH_take (i := 8) (v := _) rfl (by kernel_rfl) (by kernel_rfl) (by kernel_rfl) (fun _ _ _ h => h) (Or.inl ⟨by rfl, ?_⟩) hHeld ?_
      rotate_left
      · intro w hSw
        (try dsimp only at hSw)
        go_simp
        try with_reducible rfl
      (try simp only [Act.put, List.getElem_toArray, List.getElem_cons_zero, List.getElem_cons_succ, List.setIfInBounds_toArray, List.set_cons_zero, List.set_cons_succ])
      refine' wpAnyH_take (i := 9) (v := _) rfl (by kernel_rfl) (by kernel_rfl) (by kernel_rfl) (fun _ _ _ h => h) (Or.inl ⟨by rfl, ?_⟩) hHeld ?_
      rotate_left
      · intro w hSw
        (try dsimp only at hSw)
        go_simp
        try with_reducible rfl
      (try simp only [Act.put, List.getElem_toArray, List.getElem_cons_zero, List.getElem_cons_succ, List.setIfInBounds_toArray, List.set_cons_zero, List.set_cons_succ])
      refine wpAnyH_ready (rs := [10]) (by kernel_rfl) (by simp) ?_
      refine AllReadyH.cons rfl (fun K hK => ?_) AllReadyH.nil
      go_simp
      refine KSD.out.mono ?_
      rintro e w2 ⟨rfl, hrow, hg⟩
      have HSX : w2.cell? ⟨ib, io, none⟩ = some (.int .i64 d) ∧ w2.cell? ⟨ib, io + 1, none⟩ = some (.int .i64 d2) := HI.out w2 (grown_trans HGD.out hg)
      rw [← HS.out k hlt] at hrow
      have HROW := Lib.hid hrow
      have HG2 := Lib.hid (grown_trans HGD.out hg)
      clear hrow hg
      (try go_simp)
      clear hHeld
      refine hK.out _ _ HSX (fun hHeld => ?_)
      clear hK K HSX
      (try simp only [Act.put, List.getElem_toArray, List.getElem_cons_zero, List.getElem_cons_succ, List.setIfInBounds_toArray, List.set_cons_zero, List.set_cons_succ])
      refine wpAnyH_done (by kernel_rfl) ?_ _
      (try simp only [Act.put, List.getElem_toArray, List.getElem_cons_zero, List.getElem_cons_succ, List.setIfInBounds_toArray, List.set_cons_zero, List.set_cons_succ])
      clear hHeld HC
      clear r0
      go_wp2_with fail
      go_roundw
      case rel => exact ⟨k + 1, by omega, by go_num, Lib.hid ⟨HROW.out, HG2.out⟩⟩
      case measure => (simp [intOf]) <;> omega
set_option maxHeartbeats 8000000 in
set_option maxRecDepth 100000 in
theorem eval_steps_lead (q pb po pc ib io il ic : Nat) (v1 v2 v3 v4 v5 : Value) (b1 b2 : Nat) (p : Int) (L : Int) (least : Int) (d d2 dt : Int) (St : Nat → Int × Int) (N : Nat) (w : World) (hr : SqAt w q pb po 2 pc ⟨#[115, 116, 101, 112, 115]⟩ v1 v2 v3 v4 v5 (St 0).1 (St 0).2) (hs : ∀ k, k < N → St (k + 1) = stepsS L least (d == 1) (d2 == 1) dt (St k).1 (St k).2) (hTb : ∀ k, k < N → -10000000000 ≤ (St k).2 ∧ (St k).2 ≤ 10000000000) (hPb : ∀ k, k < N → -1000 ≤ (St k).1 ∧ (St k).1 ≤ 1000) (hd : 0 ≤ dt ∧ dt ≤ 1000000) (hpq : pb ≠ q) (hiq : ib ≠ q) (hil : il = 2) (p0 : w.cell? ⟨pb, po, none⟩ = some (.int .i64 L)) (p1 : w.cell? ⟨pb, po + 1, none⟩ = some (.int .i64 least)) (i0 : w.cell? ⟨ib, io, none⟩ = some (.int .i64 d)) (i1 : w.cell? ⟨ib, io + 1, none⟩ = some (.int .i64 d2)) (hbq : b1 ≠ q ∧ b2 ≠ q) (hb1 : w.cell? ⟨b1, 0, none⟩ = some (.pointer (some ⟨q, 0, none⟩))) (hb2 : w.cell? ⟨b2, 0, none⟩ = some (.int .i64 p)) (hne : ∀ k, k < N → (St k).1 ≠ p) (hN : (St N).1 = p) (hN62 : N ≤ 1000000000000) :
    Calls Tryd.prog 27 #[.pointer (some ⟨q, 0, none⟩), .slice (some ⟨ib, io, none⟩) 2 ic, .int .i64 dt, .func (.func 45) #[] #[.pointer (some ⟨b1, 0, none⟩), .pointer (some ⟨b2, 0, none⟩)]] w fun e w' => e = .returned (.int .i64 N) ∧ SqAt w' q pb po 2 pc ⟨#[115, 116, 101, 112, 115]⟩ v1 v2 v3 v4 v5 (St N).1 (St N).2 ∧ w.grownBy w' (some q) := by
  have KS := Lib.hid (fun (W : World) (hg : w.grownBy W (some q)) (k : Nat) (hk : k < N) (h : SqAt W q pb po 2 pc ⟨#[115, 116, 101, 112, 115]⟩ v1 v2 v3 v4 v5 (St k).1 (St k).2) => steps_any q pb po pc ⟨#[115, 116, 101, 112, 115]⟩ v1 v2 v3 v4 v5 (St k).1 (St k).2 L least (d == 1) (d2 == 1) dt W h (hTb k hk) hd (hPb k hk) hpq (cell_grown p0 hg (fun e => hpq (by injection e))) (cell_grown p1 hg (fun e => hpq (by injection e))))
  have HI := Lib.hid (fun (W : World) (hg : w.grownBy W (some q)) => And.intro (cell_grown i0 hg (fun e => hiq (by injection e))) (cell_grown i1 hg (fun e => hiq (by injection e))))
  have HEN := Lib.hid (fun (k : Nat) (hk : k ≤ N) => show ((St k).1 == p) = decide (k = N) by
    by_cases h : k = N
    · subst h; rw [decide_eq_true rfl, beq_iff_eq]; exact hN
    · rw [decide_eq_false h, beq_eq_false_iff_ne]; exact hne k (by omega))
  have HB12 := Lib.hid (fun (W : World) (hg : w.grownBy W (some q)) => And.intro (cell_grown hb1 hg (fun e => hbq.1 (by injection e))) (cell_grown hb2 hg (fun e => hbq.2 (by injection e))))
  have HR := Lib.hid hr
  have HS := Lib.hid hs
  have HG0 := Lib.hid (grown_refl w (some q))
  have n62 := hN62
  clear hr hs hTb hPb hpq hiq p0 p1 i0 i1 hbq hb1 hb2 hne hN hN62
  go_enter Tryd.func27, Tryd.ntmps27
  go_wp2_with fail
  go_step3
  go_wp2_with fail
  go_step3
  go_wp2_with fail
  go_loopw [9] (fun i wr => ∃ k : Nat, k ≤ N ∧ i = .int .i64 k ∧ Hid (SqAt wr q pb po 2 pc ⟨#[115, 116, 101, 112, 115]⟩ v1 v2 v3 v4 v5 (St k).1 (St k).2 ∧ w.grownBy wr (some q))) (fun i _ => N + 1 - (intOf i).toNat)
  case atStart => exact ⟨0, Nat.zero_le _, rfl, Lib.hid ⟨HR.out, HG0.out⟩⟩
  case round =>
    obtain ⟨k, hk, rfl, hH⟩ := hrel
    have HRR := Lib.hid hH.out.1
    have HGR := Lib.hid hH.out.2
    clear hH
    have kc := lead1_any q b1 b2 [.int .i64 (St k).2] _ _ _ _ _ _ _ (k : Int) (St k).1 p wr HRR.out (HB12.out wr HGR.out).1 (HB12.out wr HGR.out).2
    rw [HEN.out k hk] at kc
    have KC := Lib.hid kc
    clear kc
    go_wp2_with fail
    refine KC.out.mono ?_
    rintro e w1 ⟨rfl, hb⟩
    have HR1 := Lib.hid (HRR.out.keep hb)
    have HG1 := Lib.hid (grown_trans HGR.out (grown_of_below hb (some q)))
    clear hb KC
    by_cases hkN : k = N
    · rw [decide_eq_true hkN]
      subst hkN
      go_wp2_with fail
      (try rw [Exit.noGoto_ret])
      go_ret
      exact ⟨rfl, HR1.out, HG1.out⟩
    · rw [decide_eq_false hkN]
      have hlt : k < N := by omega
      have e1 : IntKind.i64.wrap ((k : Int) + 1) = (k : Int) + 1 := IntWalk.i64_in _ (by omega)
      have r0 := HR1.out.c 0 _ rfl
      have HC := Lib.hid (HI.out w1 HG1.out)
      have HGD := Lib.hid (grown_trans HG1.out (grown_of_below (Below.refl w1.heap.size w1).drew (some q)))
      have KSD := Lib.hid (KS.out w1.drew HGD.out k hlt (HR1.out.keep (Below.refl _ _).drew))
      go_wp2_with fail
      refine wp_region_held_drew (S := fun w' => w'.cell? ⟨ib, io, none⟩ = some (.int .i64 d) ∧ w'.cell? ⟨ib, io + 1, none⟩ = some (.int .i64 d2)) (by kernel_rfl) HC.out (fun hHeld => ?_)
      refine' wpAnyH_take (i := 0) (v := _) rfl (by kernel_rfl) (by kernel_rfl) (by kernel_rfl) (fun _ _ _ h => h) (Or.inl ⟨by rfl, ?_⟩) hHeld ?_
      rotate_left
      · intro w hSw
        (try dsimp only at hSw)
        go_simp
        try with_reducible rfl
      (try simp only [Act.put, List.getElem_toArray, List.getElem_cons_zero, List.getElem_cons_succ, List.setIfInBounds_toArray, List.set_cons_zero, List.set_cons_succ])
      refine' wpAnyH_take (i := 1) (v := _) rfl (by kernel_rfl) (by kernel_rfl) (by kernel_rfl) (fun _ _ _ h => h) (Or.inl ⟨by rfl, ?_⟩) hHeld ?_
      rotate_left
      · intro w hSw
        (try dsimp only at hSw)
        go_simp
        try with_reducible rfl
      (try simp only [Act.put, List.getElem_toArray, List.getElem_cons_zero, List.getElem_cons_succ, List.setIfInBounds_toArray, List.set_cons_zero, List.set_cons_succ])
      refine' wpAnyH_take (i := 2) (v := _) rfl (by kernel_rfl) (by kernel_rfl) (by kernel_rfl) (fun _ _ _ h => h) (Or.inl ⟨by rfl, ?_⟩) hHeld ?_
      rotate_left
      · intro w hSw
        (try dsimp only at hSw)
        go_simp
        try with_reducible rfl
      (try simp only [Act.put, List.getElem_toArray, List.getElem_cons_zero, List.getElem_cons_succ, List.setIfInBounds_toArray, List.set_cons_zero, List.set_cons_succ])
      refine' wpAnyH_take (i := 3) (v := _) rfl (by kernel_rfl) (by kernel_rfl) (by kernel_rfl) (fun _ _ _ h => h) (Or.inl ⟨by rfl, ?_⟩) hHeld ?_
      rotate_left
      · intro w hSw
        (try dsimp only at hSw)
        go_simp
        try with_reducible rfl
      (try simp only [Act.put, List.getElem_toArray, List.getElem_cons_zero, List.getElem_cons_succ, List.setIfInBounds_toArray, List.set_cons_zero, List.set_cons_succ])
      refine' wpAnyH_take (i := 4) (v := _) rfl (by kernel_rfl) (by kernel_rfl) (by kernel_rfl) (fun _ _ _ h => h) (Or.inl ⟨by rfl, ?_⟩) hHeld ?_
      rotate_left
      · intro w hSw
        (try dsimp only at hSw)
        go_simp
        try with_reducible rfl
      (try simp only [Act.put, List.getElem_toArray, List.getElem_cons_zero, List.getElem_cons_succ, List.setIfInBounds_toArray, List.set_cons_zero, List.set_cons_succ])
      refine' wpAnyH_take (i := 5) (v := _) rfl (by kernel_rfl) (by kernel_rfl) (by kernel_rfl) (fun _ _ _ h => h) (Or.inl ⟨by rfl, ?_⟩) hHeld ?_
      rotate_left
      · intro w hSw
        (try dsimp only at hSw)
        go_simp
        try with_reducible rfl
      (try simp only [Act.put, List.getElem_toArray, List.getElem_cons_zero, List.getElem_cons_succ, List.setIfInBounds_toArray, List.set_cons_zero, List.set_cons_succ])
      refine' wpAnyH_take (i := 6) (v := _) rfl (by kernel_rfl) (by kernel_rfl) (by kernel_rfl) (fun _ _ _ h => h) (Or.inl ⟨by rfl, ?_⟩) hHeld ?_
      rotate_left
      · intro w hSw
        (try dsimp only at hSw)
        go_simp
        try with_reducible rfl
      (try simp only [Act.put, List.getElem_toArray, List.getElem_cons_zero, List.getElem_cons_succ, List.setIfInBounds_toArray, List.set_cons_zero, List.set_cons_succ])
      refine' wpAnyH_take (i := 7) (v := _) rfl (by kernel_rfl) (by kernel_rfl) (by kernel_rfl) (fun _ _ _ h => h) (Or.inl ⟨by rfl, ?_⟩) hHeld ?_
      rotate_left
      · intro w hSw
        (try dsimp only at hSw)
        go_simp
        try with_reducible rfl
      (try simp only [Act.put, List.getElem_toArray, List.getElem_cons_zero, List.getElem_cons_succ, List.setIfInBounds_toArray, List.set_cons_zero, List.set_cons_succ])
      refine' wpAnyH_take (i := 8) (v := _) rfl (by kernel_rfl) (by kernel_rfl) (by kernel_rfl) (fun _ _ _ h => h) (Or.inl ⟨by rfl, ?_⟩) hHeld ?_
      rotate_left
      · intro w hSw
        (try dsimp only at hSw)
        go_simp
        try with_reducible rfl
      (try simp only [Act.put, List.getElem_toArray, List.getElem_cons_zero, List.getElem_cons_succ, List.setIfInBounds_toArray, List.set_cons_zero, List.set_cons_succ])
      refine' wpAnyH_take (i := 9) (v := _) rfl (by kernel_rfl) (by kernel_rfl) (by kernel_rfl) (fun _ _ _ h => h) (Or.inl ⟨by rfl, ?_⟩) hHeld ?_
      rotate_left
      · intro w hSw
        (try dsimp only at hSw)
        go_simp
        try with_reducible rfl
      (try simp only [Act.put, List.getElem_toArray, List.getElem_cons_zero, List.getElem_cons_succ, List.setIfInBounds_toArray, List.set_cons_zero, List.set_cons_succ])
      refine wpAnyH_ready (rs := [10]) (by kernel_rfl) (by simp) ?_
      refine AllReadyH.cons rfl (fun K hK => ?_) AllReadyH.nil
      go_simp
      refine KSD.out.mono ?_
      rintro e w2 ⟨rfl, hrow, hg⟩
      have HSX : w2.cell? ⟨ib, io, none⟩ = some (.int .i64 d) ∧ w2.cell? ⟨ib, io + 1, none⟩ = some (.int .i64 d2) := HI.out w2 (grown_trans HGD.out hg)
      rw [← HS.out k hlt] at hrow
      have HROW := Lib.hid hrow
      have HG2 := Lib.hid (grown_trans HGD.out hg)
      clear hrow hg
      (try go_simp)
      clear hHeld
      refine hK.out _ _ HSX (fun hHeld => ?_)
      clear hK K HSX
      (try simp only [Act.put, List.getElem_toArray, List.getElem_cons_zero, List.getElem_cons_succ, List.setIfInBounds_toArray, List.set_cons_zero, List.set_cons_succ])
      refine wpAnyH_done (by kernel_rfl) ?_ _
      (try simp only [Act.put, List.getElem_toArray, List.getElem_cons_zero, List.getElem_cons_succ, List.setIfInBounds_toArray, List.set_cons_zero, List.set_cons_succ])
      clear hHeld HC
      clear r0
      go_wp2_with fail
      go_roundw
      case rel => exact ⟨k + 1, by omega, by go_num, Lib.hid ⟨HROW.out, HG2.out⟩⟩
      case measure => (simp [intOf]) <;> omega
end Go.Proofs.YthaigchklogjlaaDoor
