/- Contracts of the methods stage and steps. -/
import Derived.Test.YthaigchklogjlaaDoorQa
import Derived.Deep.RegionHeld3
namespace Go.Proofs.YthaigchklogjlaaDoor
open Go.RowKit Go.Shelf

set_option linter.unusedVariables false
set_option linter.unusedSimpArgs false
/-- an evaluation of the block stage: its place and its time -/
def stageS (L up dn ud dd d dt P T : Int) : Int × Int :=
  if up < d ∧ P < L then (if ud ≤ max T 0 + dt then (P + 1, 0) else (P, max T 0 + dt))
  else if d < dn ∧ 0 < P then (if dd ≤ -(min T 0 - dt) then (P - 1, 0) else (P, min T 0 - dt))
  else (P, 0)
set_option maxHeartbeats 8000000 in
set_option maxRecDepth 100000 in
theorem stage_any (q pb po pc : Nat) (s : ByteArray) (v1 v2 v3 v4 v5 : Value) (P T : Int) (L up dn ud dd d dt : Int) (w : World) (hr : SqAt w q pb po 5 pc s v1 v2 v3 v4 v5 P T) (hT : -10000000000 ≤ T ∧ T ≤ 10000000000) (hd : 0 ≤ dt ∧ dt ≤ 1000000) (hP : -1000 ≤ P ∧ P ≤ 1000)
    (p0 : w.cell? ⟨pb, po, none⟩ = some (.int .i64 L)) (p1 : w.cell? ⟨pb, po + 1, none⟩ = some (.int .i64 up)) (p2 : w.cell? ⟨pb, po + 2, none⟩ = some (.int .i64 dn)) (p3 : w.cell? ⟨pb, po + 3, none⟩ = some (.int .i64 ud)) (p4 : w.cell? ⟨pb, po + 4, none⟩ = some (.int .i64 dd)) :
    Calls Tryd.prog 42 #[.pointer (some ⟨q, 0, none⟩), .int .i64 d, .int .i64 dt] w fun e w' => e = .returned (.tuple #[]) ∧ SqAt w' q pb po 5 pc s v1 v2 v3 v4 v5 (stageS L up dn ud dd d dt P T).1 (stageS L up dn ud dd d dt P T).2 ∧ w.grownBy w' (some q) := by
  have KC := Lib.hid (fun (W : World) (hb : Below w.heap.size w W) => compare_any q pb po 5 pc s v1 v2 v3 v4 v5 P T d up dn W (hr.keep hb) (by decide) (cell_below p1 hb) (cell_below p2 hb))
  have KLL := Lib.hid (fun (W : World) (hb : Below w.heap.size w W) => last_any q pb po 5 pc s v1 v2 v3 v4 v5 P T L W (hr.keep hb) (by decide) (cell_below p0 hb))
  have KM := Lib.hid (fun (W : World) (y x : Int) (h : SqAt W q pb po 5 pc s v1 v2 v3 v4 v5 P y) => move_any q pb po 5 pc s v1 v2 v3 v4 v5 P y x W h)
  have HR := Lib.hid hr
  have r6 := hr.c 6 _ rfl
  clear hr p0 p1 p2
  go_enter Tryd.func42, Tryd.ntmps42
  go_upto_region 0 with fail
  go_quiet (fail)
  go_wp2_with fail
  refine (KC.out _ (below_drewN _ _ _)).mono ?_
  rintro e w1 ⟨rfl, hb⟩
  have HB1 := Lib.hid ((below_drewN w.heap.size w nq).trans (hb.mono (Nat.le_refl _)))
  have HR1 := Lib.hid (HR.out.keep HB1.out)
  have KL := Lib.hid (KLL.out w1.drew (HB1.out.trans ((Below.refl w1.heap.size w1).drew.mono HB1.out.size)))
  obtain ⟨B1, hB1⟩ : ∃ x, x = decide (up < d) := ⟨_, rfl⟩
  obtain ⟨B2, hB2⟩ : ∃ x, x = decide (d < dn) := ⟨_, rfl⟩
  rw [← hB1, ← hB2]
  clear hb r6 p3 p4 KC
  cases B1
  · have h1 : ¬ up < d := of_decide_eq_false hB1.symm
    clear hB1
    have c7 := HR1.out.c 7 _ rfl
    have HC := Lib.hid c7
    go_wp2_with fail
    refine wp_region_held_drew (S := fun w' => w'.cell? ⟨q, 7, none⟩ = some (.int .i64 P)) (by kernel_rfl) HC.out (fun hHeld => ?_)
    refine' wpAnyH_take (i := 0) (v := _) rfl (by kernel_rfl) (by kernel_rfl) (by kernel_rfl) (fun _ _ _ h => h) (Or.inl ⟨by rfl, ?_⟩) hHeld ?_
    rotate_left
    · intro w hSw
      (try dsimp only at hSw)
      go_simp
      try with_reducible rfl
    (try simp only [Act.put, List.getElem_toArray, List.getElem_cons_zero, List.getElem_cons_succ, List.setIfInBounds_toArray, List.set_cons_zero, List.set_cons_succ])
    refine' wpAnyH_take (i := 1) (v := _) rfl (by kernel_rfl) (by kernel_rfl) (by kernel_rfl) (fun _ _ _ h => h) (Or.inl ⟨by rfl, ?_⟩) hHeld ?_
    rotate_left
    · intro w hSw
      (try dsimp only at hSw)
      go_simp
      try with_reducible rfl
    (try simp only [Act.put, List.getElem_toArray, List.getElem_cons_zero, List.getElem_cons_succ, List.setIfInBounds_toArray, List.set_cons_zero, List.set_cons_succ])
    refine wpAnyH_take (i := 2) (v := undef) rfl (by kernel_rfl) (by kernel_rfl) (by kernel_rfl) (fun _ _ _ h => h) (Or.inr ⟨by kernel_rfl, rfl⟩) hHeld ?_
    (try simp only [Act.put, List.getElem_toArray, List.getElem_cons_zero, List.getElem_cons_succ, List.setIfInBounds_toArray, List.set_cons_zero, List.set_cons_succ])
    refine wpAnyH_take (i := 3) (v := undef) rfl (by kernel_rfl) (by kernel_rfl) (by kernel_rfl) (fun _ _ _ h => h) (Or.inr ⟨by kernel_rfl, rfl⟩) hHeld ?_
    (try simp only [Act.put, List.getElem_toArray, List.getElem_cons_zero, List.getElem_cons_succ, List.setIfInBounds_toArray, List.set_cons_zero, List.set_cons_succ])
    refine wpAnyH_take (i := 4) (v := undef) rfl (by kernel_rfl) (by kernel_rfl) (by kernel_rfl) (fun _ _ _ h => h) (Or.inr ⟨by kernel_rfl, rfl⟩) hHeld ?_
    (try simp only [Act.put, List.getElem_toArray, List.getElem_cons_zero, List.getElem_cons_succ, List.setIfInBounds_toArray, List.set_cons_zero, List.set_cons_succ])
    refine wpAnyH_take (i := 5) (v := undef) rfl (by kernel_rfl) (by kernel_rfl) (by kernel_rfl) (fun _ _ _ h => h) (Or.inr ⟨by kernel_rfl, rfl⟩) hHeld ?_
    (try simp only [Act.put, List.getElem_toArray, List.getElem_cons_zero, List.getElem_cons_succ, List.setIfInBounds_toArray, List.set_cons_zero, List.set_cons_succ])
    refine wpAnyH_take (i := 6) (v := undef) rfl (by kernel_rfl) (by kernel_rfl) (by kernel_rfl) (fun _ _ _ h => h) (Or.inr ⟨by kernel_rfl, rfl⟩) hHeld ?_
    (try simp only [Act.put, List.getElem_toArray, List.getElem_cons_zero, List.getElem_cons_succ, List.setIfInBounds_toArray, List.set_cons_zero, List.set_cons_succ])
    refine wpAnyH_take (i := 7) (v := undef) rfl (by kernel_rfl) (by kernel_rfl) (by kernel_rfl) (fun _ _ _ h => h) (Or.inr ⟨by kernel_rfl, rfl⟩) hHeld ?_
    (try simp only [Act.put, List.getElem_toArray, List.getElem_cons_zero, List.getElem_cons_succ, List.setIfInBounds_toArray, List.set_cons_zero, List.set_cons_succ])
    refine wpAnyH_take (i := 8) (v := undef) rfl (by kernel_rfl) (by kernel_rfl) (by kernel_rfl) (fun _ _ _ h => h) (Or.inr ⟨by kernel_rfl, rfl⟩) hHeld ?_
    (try simp only [Act.put, List.getElem_toArray, List.getElem_cons_zero, List.getElem_cons_succ, List.setIfInBounds_toArray, List.set_cons_zero, List.set_cons_succ])
    refine' wpAnyH_take (i := 9) (v := _) rfl (by kernel_rfl) (by kernel_rfl) (by kernel_rfl) (fun _ _ _ h => h) (Or.inl ⟨by rfl, ?_⟩) hHeld ?_
    rotate_left
    · intro w hSw
      (try dsimp only at hSw)
      go_simp
      try with_reducible rfl
    (try simp only [Act.put, List.getElem_toArray, List.getElem_cons_zero, List.getElem_cons_succ, List.setIfInBounds_toArray, List.set_cons_zero, List.set_cons_succ])
    refine' wpAnyH_take (i := 10) (v := _) rfl (by kernel_rfl) (by kernel_rfl) (by kernel_rfl) (fun _ _ _ h => h) (Or.inl ⟨by rfl, ?_⟩) hHeld ?_
    rotate_left
    · intro w hSw
      (try dsimp only at hSw)
      go_simp
      try with_reducible rfl
    (try simp only [Act.put, List.getElem_toArray, List.getElem_cons_zero, List.getElem_cons_succ, List.setIfInBounds_toArray, List.set_cons_zero, List.set_cons_succ])
    refine wpAnyH_done (by kernel_rfl) ?_ _
    (try simp only [Act.put, List.getElem_toArray, List.getElem_cons_zero, List.getElem_cons_succ, List.setIfInBounds_toArray, List.set_cons_zero, List.set_cons_succ])
    clear hHeld HC
    clear c7
    have hb2 : Below w1.heap.size w1 w1.drew := (Below.refl _ _).drew
    have HR2 := Lib.hid (HR1.out.keep hb2)
    have HG2 := Lib.hid (grown_of_below (HB1.out.trans (hb2.mono HB1.out.size)) (some q))
    obtain ⟨W2, hW2⟩ : ∃ x, x = w1.drew := ⟨_, rfl⟩
    rw [← hW2] at HR2 HG2 ⊢
    clear hW2 hb2
    have hN : ¬ (up < d ∧ P < L) := fun h => by omega
    have r7 := HR2.out.c 7 _ rfl
    have r8 := HR2.out.c 8 _ rfl
    have rz := HR2.out.fz
    cases B2
    · have h2 : ¬ d < dn := of_decide_eq_false hB2.symm
      have hN2 : ¬ (d < dn ∧ 0 < P) := fun h => by omega
      clear hB2
      have HS1 := Lib.hid (row_set HR2.out 8 (by simp) (.int .i64 0))
      have HG3 := Lib.hid (grown_trans HG2.out (grown_cell W2 q 8 (.int .i64 0)))
      have HE := Lib.hid (show stageS L up dn ud dd d dt P T = (P, 0) by unfold stageS; rw [if_neg hN, if_neg hN2])
      clear hN hN2
      go_wp2_with fail
      first | go_ret | go_end0
      exact ⟨rfl, by rw [HE.out]; exact HS1.out, HG3.out⟩
    · have h2 := of_decide_eq_true hB2.symm
      clear hB2
      by_cases hp : 0 < P
      · obtain ⟨M, hM⟩ : ∃ m, min T 0 = m := ⟨_, rfl⟩
        have e1 : IntKind.i64.wrap (M - dt) = M - dt := IntWalk.i64_in _ (by omega)
        have e2 : IntKind.i64.wrap (-(M - dt)) = -(M - dt) := IntWalk.i64_in _ (by omega)
        have e3 : IntKind.i64.wrap (P - 1) = P - 1 := IntWalk.i64_in _ (by omega)
        have hs1 := row_set HR2.out 8 (by simp) (.int .i64 (M - dt))
        have y6 := hs1.c 6 _ rfl
        have y7 := hs1.c 7 _ rfl
        have y8 := hs1.c 8 _ rfl
        have yz := hs1.fz
        have HS1 := Lib.hid hs1
        have HG3 := Lib.hid (grown_trans HG2.out (grown_cell W2 q 8 (.int .i64 (M - dt))))
        clear hs1
        by_cases hge : dd ≤ -(M - dt)
        · have HE := Lib.hid (show stageS L up dn ud dd d dt P T = (P - 1, 0) by unfold stageS; rw [if_neg hN, if_pos ⟨h2, hp⟩, hM, if_pos hge])
          go_wp2_with fail
          refine (KM.out _ _ (P - 1) HS1.out).mono ?_
          rintro e w3 ⟨rfl, hrow, hg⟩
          have HROW := Lib.hid hrow
          have HG4 := Lib.hid (grown_trans HG3.out hg)
          clear hrow hg
          go_wp2_with fail
          first | go_ret | go_end0
          exact ⟨rfl, by rw [HE.out]; exact HROW.out, HG4.out⟩
        · have HE := Lib.hid (show stageS L up dn ud dd d dt P T = (P, M - dt) by unfold stageS; rw [if_neg hN, if_pos ⟨h2, hp⟩, hM, if_neg hge])
          go_wp2_with fail
          first | go_ret | go_end0
          exact ⟨rfl, by rw [HE.out]; exact HS1.out, HG3.out⟩
      · have hN2 : ¬ (d < dn ∧ 0 < P) := fun h => by omega
        have HS1 := Lib.hid (row_set HR2.out 8 (by simp) (.int .i64 0))
        have HG3 := Lib.hid (grown_trans HG2.out (grown_cell W2 q 8 (.int .i64 0)))
        have HE := Lib.hid (show stageS L up dn ud dd d dt P T = (P, 0) by unfold stageS; rw [if_neg hN, if_neg hN2])
        clear hN hN2
        go_wp2_with fail
        first | go_ret | go_end0
        exact ⟨rfl, by rw [HE.out]; exact HS1.out, HG3.out⟩
  · have h1 := of_decide_eq_true hB1.symm
    clear hB1
    by_cases hPL : P < L
    · have c7 := HR1.out.c 7 _ rfl
      have HC := Lib.hid c7
      go_wp2_with fail
      refine wp_region_held_drew (S := fun w' => w'.cell? ⟨q, 7, none⟩ = some (.int .i64 P)) (by kernel_rfl) HC.out (fun hHeld => ?_)
      refine' wpAnyH_take (i := 0) (v := _) rfl (by kernel_rfl) (by kernel_rfl) (by kernel_rfl) (fun _ _ _ h => h) (Or.inl ⟨by rfl, ?_⟩) hHeld ?_
      rotate_left
      · intro w hSw
        (try dsimp only at hSw)
        go_simp
        try with_reducible rfl
      (try simp only [Act.put, List.getElem_toArray, List.getElem_cons_zero, List.getElem_cons_succ, List.setIfInBounds_toArray, List.set_cons_zero, List.set_cons_succ])
      refine' wpAnyH_take (i := 1) (v := _) rfl (by kernel_rfl) (by kernel_rfl) (by kernel_rfl) (fun _ _ _ h => h) (Or.inl ⟨by rfl, ?_⟩) hHeld ?_
      rotate_left
      · intro w hSw
        (try dsimp only at hSw)
        go_simp
        try with_reducible rfl
      (try simp only [Act.put, List.getElem_toArray, List.getElem_cons_zero, List.getElem_cons_succ, List.setIfInBounds_toArray, List.set_cons_zero, List.set_cons_succ])
      refine' wpAnyH_take (i := 2) (v := _) rfl (by kernel_rfl) (by kernel_rfl) (by kernel_rfl) (fun _ _ _ h => h) (Or.inl ⟨by rfl, ?_⟩) hHeld ?_
      rotate_left
      · intro w hSw
        (try dsimp only at hSw)
        go_simp
        try with_reducible rfl
      (try simp only [Act.put, List.getElem_toArray, List.getElem_cons_zero, List.getElem_cons_succ, List.setIfInBounds_toArray, List.set_cons_zero, List.set_cons_succ])
      refine' wpAnyH_take (i := 3) (v := _) rfl (by kernel_rfl) (by kernel_rfl) (by kernel_rfl) (fun _ _ _ h => h) (Or.inl ⟨by rfl, ?_⟩) hHeld ?_
      rotate_left
      · intro w hSw
        (try dsimp only at hSw)
        go_simp
        try with_reducible rfl
      (try simp only [Act.put, List.getElem_toArray, List.getElem_cons_zero, List.getElem_cons_succ, List.setIfInBounds_toArray, List.set_cons_zero, List.set_cons_succ])
      refine' wpAnyH_take (i := 4) (v := _) rfl (by kernel_rfl) (by kernel_rfl) (by kernel_rfl) (fun _ _ _ h => h) (Or.inl ⟨by rfl, ?_⟩) hHeld ?_
      rotate_left
      · intro w hSw
        (try dsimp only at hSw)
        go_simp
        try with_reducible rfl
      (try simp only [Act.put, List.getElem_toArray, List.getElem_cons_zero, List.getElem_cons_succ, List.setIfInBounds_toArray, List.set_cons_zero, List.set_cons_succ])
      refine' wpAnyH_take (i := 5) (v := _) rfl (by kernel_rfl) (by kernel_rfl) (by kernel_rfl) (fun _ _ _ h => h) (Or.inl ⟨by rfl, ?_⟩) hHeld ?_
      rotate_left
      · intro w hSw
        (try dsimp only at hSw)
        go_simp
        try with_reducible rfl
      (try simp only [Act.put, List.getElem_toArray, List.getElem_cons_zero, List.getElem_cons_succ, List.setIfInBounds_toArray, List.set_cons_zero, List.set_cons_succ])
      refine' wpAnyH_take (i := 6) (v := _) rfl (by kernel_rfl) (by kernel_rfl) (by kernel_rfl) (fun _ _ _ h => h) (Or.inl ⟨by rfl, ?_⟩) hHeld ?_
      rotate_left
      · intro w hSw
        (try dsimp only at hSw)
        go_simp
        try with_reducible rfl
      (try simp only [Act.put, List.getElem_toArray, List.getElem_cons_zero, List.getElem_cons_succ, List.setIfInBounds_toArray, List.set_cons_zero, List.set_cons_succ])
      refine wpAnyH_ready (rs := [7]) (by kernel_rfl) (by simp) ?_
      refine AllReadyH.cons rfl (fun K hK => ?_) AllReadyH.nil
      go_simp
      refine KL.out.mono ?_
      rintro e x1 ⟨rfl, rfl⟩
      (try go_simp)
      refine hK.out _ _ hHeld (fun hHeld => ?_)
      clear hK K
      (try simp only [Act.put, List.getElem_toArray, List.getElem_cons_zero, List.getElem_cons_succ, List.setIfInBounds_toArray, List.set_cons_zero, List.set_cons_succ])
      refine' wpAnyH_take (i := 8) (v := _) rfl (by kernel_rfl) (by kernel_rfl) (by kernel_rfl) (fun _ _ _ h => h) (Or.inl ⟨by rfl, ?_⟩) hHeld ?_
      rotate_left
      · intro w hSw
        (try dsimp only at hSw)
        go_simp
        try with_reducible rfl
      (try simp only [Act.put, List.getElem_toArray, List.getElem_cons_zero, List.getElem_cons_succ, List.setIfInBounds_toArray, List.set_cons_zero, List.set_cons_succ])
      refine' wpAnyH_take (i := 9) (v := _) rfl (by kernel_rfl) (by kernel_rfl) (by kernel_rfl) (fun _ _ _ h => h) (Or.inl ⟨by rfl, ?_⟩) hHeld ?_
      rotate_left
      · intro w hSw
        (try dsimp only at hSw)
        go_simp
        try with_reducible rfl
      (try simp only [Act.put, List.getElem_toArray, List.getElem_cons_zero, List.getElem_cons_succ, List.setIfInBounds_toArray, List.set_cons_zero, List.set_cons_succ])
      refine' wpAnyH_take (i := 10) (v := _) rfl (by kernel_rfl) (by kernel_rfl) (by kernel_rfl) (fun _ _ _ h => h) (Or.inl ⟨by rfl, ?_⟩) hHeld ?_
      rotate_left
      · intro w hSw
        (try dsimp only at hSw)
        go_simp
        try with_reducible rfl
      (try simp only [Act.put, List.getElem_toArray, List.getElem_cons_zero, List.getElem_cons_succ, List.setIfInBounds_toArray, List.set_cons_zero, List.set_cons_succ])
      refine wpAnyH_done (by kernel_rfl) ?_ _
      (try simp only [Act.put, List.getElem_toArray, List.getElem_cons_zero, List.getElem_cons_succ, List.setIfInBounds_toArray, List.set_cons_zero, List.set_cons_succ])
      clear hHeld HC
      clear c7
      have hb2 : Below w1.heap.size w1 w1.drew := (Below.refl _ _).drew
      have HR2 := Lib.hid (HR1.out.keep hb2)
      have HG2 := Lib.hid (grown_of_below (HB1.out.trans (hb2.mono HB1.out.size)) (some q))
      obtain ⟨W2, hW2⟩ : ∃ x, x = w1.drew := ⟨_, rfl⟩
      rw [← hW2] at HR2 HG2 ⊢
      clear hW2 hb2
      have r7 := HR2.out.c 7 _ rfl
      have r8 := HR2.out.c 8 _ rfl
      have rz := HR2.out.fz
      obtain ⟨M, hM⟩ : ∃ m, max T 0 = m := ⟨_, rfl⟩
      have e1 : IntKind.i64.wrap (M + dt) = M + dt := IntWalk.i64_in _ (by omega)
      have e3 : IntKind.i64.wrap (P + 1) = P + 1 := IntWalk.i64_in _ (by omega)
      have hs1 := row_set HR2.out 8 (by simp) (.int .i64 (M + dt))
      have y6 := hs1.c 6 _ rfl
      have y7 := hs1.c 7 _ rfl
      have y8 := hs1.c 8 _ rfl
      have yz := hs1.fz
      have HS1 := Lib.hid hs1
      have HG3 := Lib.hid (grown_trans HG2.out (grown_cell W2 q 8 (.int .i64 (M + dt))))
      clear hs1
      by_cases hge : ud ≤ M + dt
      · have HE := Lib.hid (show stageS L up dn ud dd d dt P T = (P + 1, 0) by unfold stageS; rw [if_pos ⟨h1, hPL⟩, hM, if_pos hge])
        go_wp2_with fail
        refine (KM.out _ _ (P + 1) HS1.out).mono ?_
        rintro e w3 ⟨rfl, hrow, hg⟩
        have HROW := Lib.hid hrow
        have HG4 := Lib.hid (grown_trans HG3.out hg)
        clear hrow hg
        go_wp2_with fail
        first | go_ret | go_end0
        exact ⟨rfl, by rw [HE.out]; exact HROW.out, HG4.out⟩
      · have HE := Lib.hid (show stageS L up dn ud dd d dt P T = (P, M + dt) by unfold stageS; rw [if_pos ⟨h1, hPL⟩, hM, if_neg hge])
        go_wp2_with fail
        first | go_ret | go_end0
        exact ⟨rfl, by rw [HE.out]; exact HS1.out, HG3.out⟩
    · have c7 := HR1.out.c 7 _ rfl
      have HC := Lib.hid c7
      go_wp2_with fail
      refine wp_region_held_drew (S := fun w' => w'.cell? ⟨q, 7, none⟩ = some (.int .i64 P)) (by kernel_rfl) HC.out (fun hHeld => ?_)
      refine' wpAnyH_take (i := 0) (v := _) rfl (by kernel_rfl) (by kernel_rfl) (by kernel_rfl) (fun _ _ _ h => h) (Or.inl ⟨by rfl, ?_⟩) hHeld ?_
      rotate_left
      · intro w hSw
        (try dsimp only at hSw)
        go_simp
        try with_reducible rfl
      (try simp only [Act.put, List.getElem_toArray, List.getElem_cons_zero, List.getElem_cons_succ, List.setIfInBounds_toArray, List.set_cons_zero, List.set_cons_succ])
      refine' wpAnyH_take (i := 1) (v := _) rfl (by kernel_rfl) (by kernel_rfl) (by kernel_rfl) (fun _ _ _ h => h) (Or.inl ⟨by rfl, ?_⟩) hHeld ?_
      rotate_left
      · intro w hSw
        (try dsimp only at hSw)
        go_simp
        try with_reducible rfl
      (try simp only [Act.put, List.getElem_toArray, List.getElem_cons_zero, List.getElem_cons_succ, List.setIfInBounds_toArray, List.set_cons_zero, List.set_cons_succ])
      refine' wpAnyH_take (i := 2) (v := _) rfl (by kernel_rfl) (by kernel_rfl) (by kernel_rfl) (fun _ _ _ h => h) (Or.inl ⟨by rfl, ?_⟩) hHeld ?_
      rotate_left
      · intro w hSw
        (try dsimp only at hSw)
        go_simp
        try with_reducible rfl
      (try simp only [Act.put, List.getElem_toArray, List.getElem_cons_zero, List.getElem_cons_succ, List.setIfInBounds_toArray, List.set_cons_zero, List.set_cons_succ])
      refine' wpAnyH_take (i := 3) (v := _) rfl (by kernel_rfl) (by kernel_rfl) (by kernel_rfl) (fun _ _ _ h => h) (Or.inl ⟨by rfl, ?_⟩) hHeld ?_
      rotate_left
      · intro w hSw
        (try dsimp only at hSw)
        go_simp
        try with_reducible rfl
      (try simp only [Act.put, List.getElem_toArray, List.getElem_cons_zero, List.getElem_cons_succ, List.setIfInBounds_toArray, List.set_cons_zero, List.set_cons_succ])
      refine' wpAnyH_take (i := 4) (v := _) rfl (by kernel_rfl) (by kernel_rfl) (by kernel_rfl) (fun _ _ _ h => h) (Or.inl ⟨by rfl, ?_⟩) hHeld ?_
      rotate_left
      · intro w hSw
        (try dsimp only at hSw)
        go_simp
        try with_reducible rfl
      (try simp only [Act.put, List.getElem_toArray, List.getElem_cons_zero, List.getElem_cons_succ, List.setIfInBounds_toArray, List.set_cons_zero, List.set_cons_succ])
      refine' wpAnyH_take (i := 5) (v := _) rfl (by kernel_rfl) (by kernel_rfl) (by kernel_rfl) (fun _ _ _ h => h) (Or.inl ⟨by rfl, ?_⟩) hHeld ?_
      rotate_left
      · intro w hSw
        (try dsimp only at hSw)
        go_simp
        try with_reducible rfl
      (try simp only [Act.put, List.getElem_toArray, List.getElem_cons_zero, List.getElem_cons_succ, List.setIfInBounds_toArray, List.set_cons_zero, List.set_cons_succ])
      refine' wpAnyH_take (i := 6) (v := _) rfl (by kernel_rfl) (by kernel_rfl) (by kernel_rfl) (fun _ _ _ h => h) (Or.inl ⟨by rfl, ?_⟩) hHeld ?_
      rotate_left
      · intro w hSw
        (try dsimp only at hSw)
        go_simp
        try with_reducible rfl
      (try simp only [Act.put, List.getElem_toArray, List.getElem_cons_zero, List.getElem_cons_succ, List.setIfInBounds_toArray, List.set_cons_zero, List.set_cons_succ])
      refine wpAnyH_ready (rs := [7]) (by kernel_rfl) (by simp) ?_
      refine AllReadyH.cons rfl (fun K hK => ?_) AllReadyH.nil
      go_simp
      refine KL.out.mono ?_
      rintro e x1 ⟨rfl, rfl⟩
      (try go_simp)
      refine hK.out _ _ hHeld (fun hHeld => ?_)
      clear hK K
      (try simp only [Act.put, List.getElem_toArray, List.getElem_cons_zero, List.getElem_cons_succ, List.setIfInBounds_toArray, List.set_cons_zero, List.set_cons_succ])
      refine' wpAnyH_take (i := 8) (v := _) rfl (by kernel_rfl) (by kernel_rfl) (by kernel_rfl) (fun _ _ _ h => h) (Or.inl ⟨by rfl, ?_⟩) hHeld ?_
      rotate_left
      · intro w hSw
        (try dsimp only at hSw)
        go_simp
        try with_reducible rfl
      (try simp only [Act.put, List.getElem_toArray, List.getElem_cons_zero, List.getElem_cons_succ, List.setIfInBounds_toArray, List.set_cons_zero, List.set_cons_succ])
      refine' wpAnyH_take (i := 9) (v := _) rfl (by kernel_rfl) (by kernel_rfl) (by kernel_rfl) (fun _ _ _ h => h) (Or.inl ⟨by rfl, ?_⟩) hHeld ?_
      rotate_left
      · intro w hSw
        (try dsimp only at hSw)
        go_simp
        try with_reducible rfl
      (try simp only [Act.put, List.getElem_toArray, List.getElem_cons_zero, List.getElem_cons_succ, List.setIfInBounds_toArray, List.set_cons_zero, List.set_cons_succ])
      refine' wpAnyH_take (i := 10) (v := _) rfl (by kernel_rfl) (by kernel_rfl) (by kernel_rfl) (fun _ _ _ h => h) (Or.inl ⟨by rfl, ?_⟩) hHeld ?_
      rotate_left
      · intro w hSw
        (try dsimp only at hSw)
        go_simp
        try with_reducible rfl
      (try simp only [Act.put, List.getElem_toArray, List.getElem_cons_zero, List.getElem_cons_succ, List.setIfInBounds_toArray, List.set_cons_zero, List.set_cons_succ])
      refine wpAnyH_done (by kernel_rfl) ?_ _
      (try simp only [Act.put, List.getElem_toArray, List.getElem_cons_zero, List.getElem_cons_succ, List.setIfInBounds_toArray, List.set_cons_zero, List.set_cons_succ])
      clear hHeld HC
      clear c7
      have hb2 : Below w1.heap.size w1 w1.drew := (Below.refl _ _).drew
      have HR2 := Lib.hid (HR1.out.keep hb2)
      have HG2 := Lib.hid (grown_of_below (HB1.out.trans (hb2.mono HB1.out.size)) (some q))
      obtain ⟨W2, hW2⟩ : ∃ x, x = w1.drew := ⟨_, rfl⟩
      rw [← hW2] at HR2 HG2 ⊢
      clear hW2 hb2
      have hN : ¬ (up < d ∧ P < L) := fun h => by omega
      have r7 := HR2.out.c 7 _ rfl
      have r8 := HR2.out.c 8 _ rfl
      have rz := HR2.out.fz
      cases B2
      · have h2 : ¬ d < dn := of_decide_eq_false hB2.symm
        have hN2 : ¬ (d < dn ∧ 0 < P) := fun h => by omega
        clear hB2
        have HS1 := Lib.hid (row_set HR2.out 8 (by simp) (.int .i64 0))
        have HG3 := Lib.hid (grown_trans HG2.out (grown_cell W2 q 8 (.int .i64 0)))
        have HE := Lib.hid (show stageS L up dn ud dd d dt P T = (P, 0) by unfold stageS; rw [if_neg hN, if_neg hN2])
        clear hN hN2
        go_wp2_with fail
        first | go_ret | go_end0
        exact ⟨rfl, by rw [HE.out]; exact HS1.out, HG3.out⟩
      · have h2 := of_decide_eq_true hB2.symm
        clear hB2
        by_cases hp : 0 < P
        · obtain ⟨M, hM⟩ : ∃ m, min T 0 = m := ⟨_, rfl⟩
          have e1 : IntKind.i64.wrap (M - dt) = M - dt := IntWalk.i64_in _ (by omega)
          have e2 : IntKind.i64.wrap (-(M - dt)) = -(M - dt) := IntWalk.i64_in _ (by omega)
          have e3 : IntKind.i64.wrap (P - 1) = P - 1 := IntWalk.i64_in _ (by omega)
          have hs1 := row_set HR2.out 8 (by simp) (.int .i64 (M - dt))
          have y6 := hs1.c 6 _ rfl
          have y7 := hs1.c 7 _ rfl
          have y8 := hs1.c 8 _ rfl
          have yz := hs1.fz
          have HS1 := Lib.hid hs1
          have HG3 := Lib.hid (grown_trans HG2.out (grown_cell W2 q 8 (.int .i64 (M - dt))))
          clear hs1
          by_cases hge : dd ≤ -(M - dt)
          · have HE := Lib.hid (show stageS L up dn ud dd d dt P T = (P - 1, 0) by unfold stageS; rw [if_neg hN, if_pos ⟨h2, hp⟩, hM, if_pos hge])
            go_wp2_with fail
            refine (KM.out _ _ (P - 1) HS1.out).mono ?_
            rintro e w3 ⟨rfl, hrow, hg⟩
            have HROW := Lib.hid hrow
            have HG4 := Lib.hid (grown_trans HG3.out hg)
            clear hrow hg
            go_wp2_with fail
            first | go_ret | go_end0
            exact ⟨rfl, by rw [HE.out]; exact HROW.out, HG4.out⟩
          · have HE := Lib.hid (show stageS L up dn ud dd d dt P T = (P, M - dt) by unfold stageS; rw [if_neg hN, if_pos ⟨h2, hp⟩, hM, if_neg hge])
            go_wp2_with fail
            first | go_ret | go_end0
            exact ⟨rfl, by rw [HE.out]; exact HS1.out, HG3.out⟩
        · have hN2 : ¬ (d < dn ∧ 0 < P) := fun h => by omega
          have HS1 := Lib.hid (row_set HR2.out 8 (by simp) (.int .i64 0))
          have HG3 := Lib.hid (grown_trans HG2.out (grown_cell W2 q 8 (.int .i64 0)))
          have HE := Lib.hid (show stageS L up dn ud dd d dt P T = (P, 0) by unfold stageS; rw [if_neg hN, if_neg hN2])
          clear hN hN2
          go_wp2_with fail
          first | go_ret | go_end0
          exact ⟨rfl, by rw [HE.out]; exact HS1.out, HG3.out⟩
/-- an evaluation of the block steps -/
def stepsS (L least : Int) (go nx : Bool) (dt P T : Int) : Int × Int :=
  if go = false then (0, 0) else if P = 0 then (1, 0)
  else if P < L ∧ nx = true ∧ least ≤ min (T + dt) 6311433599 then (P + 1, 0) else (P, min (T + dt) 6311433599)
set_option maxHeartbeats 8000000 in
set_option maxRecDepth 100000 in
theorem steps_any (q pb po pc : Nat) (s : ByteArray) (v1 v2 v3 v4 v5 : Value) (P T : Int) (L least : Int) (go nx : Bool) (dt : Int) (w : World) (hr : SqAt w q pb po 2 pc s v1 v2 v3 v4 v5 P T) (hT : -10000000000 ≤ T ∧ T ≤ 10000000000) (hd : 0 ≤ dt ∧ dt ≤ 1000000) (hP : -1000 ≤ P ∧ P ≤ 1000) (hpq : pb ≠ q)
    (p0 : w.cell? ⟨pb, po, none⟩ = some (.int .i64 L)) (p1 : w.cell? ⟨pb, po + 1, none⟩ = some (.int .i64 least)) :
    Calls Tryd.prog 43 #[.pointer (some ⟨q, 0, none⟩), .bool go, .bool nx, .int .i64 dt] w fun e w' => e = .returned (.tuple #[]) ∧ SqAt w' q pb po 2 pc s v1 v2 v3 v4 v5 (stepsS L least go nx dt P T).1 (stepsS L least go nx dt P T).2 ∧ w.grownBy w' (some q) := by
  have KLL := Lib.hid (fun (W : World) (hg : w.grownBy W (some q)) (y : Int) (h : SqAt W q pb po 2 pc s v1 v2 v3 v4 v5 P y) => last_any q pb po 2 pc s v1 v2 v3 v4 v5 P y L W.drew (h.keep (Below.refl _ _).drew) (by decide) (cell_below (cell_grown p0 hg (fun e => hpq (by injection e))) (Below.refl _ _).drew))
  have KM := Lib.hid (fun (W : World) (y x : Int) (h : SqAt W q pb po 2 pc s v1 v2 v3 v4 v5 P y) => move_any q pb po 2 pc s v1 v2 v3 v4 v5 P y x W h)
  have HR := Lib.hid hr
  have HRW := Lib.hid hr
  have HGW := Lib.hid (grown_refl w (some q))
  have r6 := hr.c 6 _ rfl
  clear hr p0
  cases go
  · have HE := Lib.hid (show stepsS L least false nx dt P T = (0, 0) from if_pos rfl)
    go_enter Tryd.func43, Tryd.ntmps43
    go_wp2_with fail
    refine (KM.out _ _ (0) HRW.out).mono ?_
    rintro e w3 ⟨rfl, hrow, hg⟩
    have HROW := Lib.hid hrow
    have HG9 := Lib.hid (grown_trans HGW.out hg)
    clear hrow hg
    go_wp2_with fail
    first | go_ret | go_end0
    exact ⟨rfl, by rw [HE.out]; exact HROW.out, HG9.out⟩
  · go_enter Tryd.func43, Tryd.ntmps43
    have r7 := HR.out.c 7 _ rfl
    by_cases hp0 : P = 0
    · have hb0 : (P == 0) = true := by rw [beq_iff_eq]; exact hp0
      have HE := Lib.hid (show stepsS L least true nx dt P T = (1, 0) by unfold stepsS; rw [if_neg (by simp), if_pos hp0])
      clear hp0
      go_wp2_with fail
      refine (KM.out _ _ (1) HRW.out).mono ?_
      rintro e w3 ⟨rfl, hrow, hg⟩
      have HROW := Lib.hid hrow
      have HG9 := Lib.hid (grown_trans HGW.out hg)
      clear hrow hg
      go_wp2_with fail
      first | go_ret | go_end0
      exact ⟨rfl, by rw [HE.out]; exact HROW.out, HG9.out⟩
    · have hb0 : (P == 0) = false := by rw [beq_eq_false_iff_ne]; exact hp0
      obtain ⟨M, hM⟩ : ∃ m, min (T + dt) 6311433599 = m := ⟨_, rfl⟩
      have e1 : IntKind.i64.wrap (T + dt) = T + dt := IntWalk.i64_in _ (by omega)
      have e3 : IntKind.i64.wrap (P + 1) = P + 1 := IntWalk.i64_in _ (by omega)
      have r8 := HR.out.c 8 _ rfl
      have rz := HR.out.fz
      have HNP := Lib.hid hp0
      have HS1 := Lib.hid (row_set HR.out 8 (by simp) (.int .i64 M))
      have HG3 := Lib.hid (grown_cell w q 8 (.int .i64 M))
      have HB3 := Lib.hid hM
      clear hp0
      go_upto_region 2 with fail
      obtain ⟨W2, hW2⟩ : ∃ x, x = w.setCell ⟨q, 8, none⟩ (.int .i64 M) := ⟨_, rfl⟩
      rw [← hW2] at HS1 HG3 ⊢
      have KL := Lib.hid (KLL.out W2 HG3.out M HS1.out)
      clear hW2 r7 r8 rz
      have hp0 := HNP.out
      by_cases hPL : P < L
      · cases nx
        · have HC := Lib.hid (And.intro (HS1.out.c 7 _ rfl) (HS1.out.c 8 _ rfl))
          go_wp2_with fail
          refine wp_region_held_drew (S := fun w' => w'.cell? ⟨q, 7, none⟩ = some (.int .i64 P) ∧ w'.cell? ⟨q, 8, none⟩ = some (.int .i64 M)) (by kernel_rfl) HC.out (fun hHeld => ?_)
          refine' wpAnyH_take (i := 0) (v := _) rfl (by kernel_rfl) (by kernel_rfl) (by kernel_rfl) (fun _ _ _ h => h) (Or.inl ⟨by rfl, ?_⟩) hHeld ?_
          rotate_left
          · intro w hSw
            (try dsimp only at hSw)
            go_simp
            try with_reducible rfl
          (try simp only [Act.put, List.getElem_toArray, List.getElem_cons_zero, List.getElem_cons_succ, List.setIfInBounds_toArray, List.set_cons_zero, List.set_cons_succ])
          refine' wpAnyH_take (i := 1) (v := _) rfl (by kernel_rfl) (by kernel_rfl) (by kernel_rfl) (fun _ _ _ h => h) (Or.inl ⟨by rfl, ?_⟩) hHeld ?_
          rotate_left
          · intro w hSw
            (try dsimp only at hSw)
            go_simp
            try with_reducible rfl
          (try simp only [Act.put, List.getElem_toArray, List.getElem_cons_zero, List.getElem_cons_succ, List.setIfInBounds_toArray, List.set_cons_zero, List.set_cons_succ])
          refine' wpAnyH_take (i := 2) (v := _) rfl (by kernel_rfl) (by kernel_rfl) (by kernel_rfl) (fun _ _ _ h => h) (Or.inl ⟨by rfl, ?_⟩) hHeld ?_
          rotate_left
          · intro w hSw
            (try dsimp only at hSw)
            go_simp
            try with_reducible rfl
          (try simp only [Act.put, List.getElem_toArray, List.getElem_cons_zero, List.getElem_cons_succ, List.setIfInBounds_toArray, List.set_cons_zero, List.set_cons_succ])
          refine' wpAnyH_take (i := 3) (v := _) rfl (by kernel_rfl) (by kernel_rfl) (by kernel_rfl) (fun _ _ _ h => h) (Or.inl ⟨by rfl, ?_⟩) hHeld ?_
          rotate_left
          · intro w hSw
            (try dsimp only at hSw)
            go_simp
            try with_reducible rfl
          (try simp only [Act.put, List.getElem_toArray, List.getElem_cons_zero, List.getElem_cons_succ, List.setIfInBounds_toArray, List.set_cons_zero, List.set_cons_succ])
          refine' wpAnyH_take (i := 4) (v := _) rfl (by kernel_rfl) (by kernel_rfl) (by kernel_rfl) (fun _ _ _ h => h) (Or.inl ⟨by rfl, ?_⟩) hHeld ?_
          rotate_left
          · intro w hSw
            (try dsimp only at hSw)
            go_simp
            try with_reducible rfl
          (try simp only [Act.put, List.getElem_toArray, List.getElem_cons_zero, List.getElem_cons_succ, List.setIfInBounds_toArray, List.set_cons_zero, List.set_cons_succ])
          refine wpAnyH_ready (rs := [5]) (by kernel_rfl) (by simp) ?_
          refine AllReadyH.cons rfl (fun K hK => ?_) AllReadyH.nil
          go_simp
          refine KL.out.mono ?_
          rintro e x1 ⟨rfl, rfl⟩
          (try go_simp)
          refine hK.out _ _ hHeld (fun hHeld => ?_)
          clear hK K
          (try simp only [Act.put, List.getElem_toArray, List.getElem_cons_zero, List.getElem_cons_succ, List.setIfInBounds_toArray, List.set_cons_zero, List.set_cons_succ])
          refine' wpAnyH_take (i := 6) (v := _) rfl (by kernel_rfl) (by kernel_rfl) (by kernel_rfl) (fun _ _ _ h => h) (Or.inl ⟨by rfl, ?_⟩) hHeld ?_
          rotate_left
          · intro w hSw
            (try dsimp only at hSw)
            go_simp
            try with_reducible rfl
          (try simp only [Act.put, List.getElem_toArray, List.getElem_cons_zero, List.getElem_cons_succ, List.setIfInBounds_toArray, List.set_cons_zero, List.set_cons_succ])
          refine' wpAnyH_take (i := 7) (v := _) rfl (by kernel_rfl) (by kernel_rfl) (by kernel_rfl) (fun _ _ _ h => h) (Or.inl ⟨by rfl, ?_⟩) hHeld ?_
          rotate_left
          · intro w hSw
            (try dsimp only at hSw)
            go_simp
            try with_reducible rfl
          (try simp only [Act.put, List.getElem_toArray, List.getElem_cons_zero, List.getElem_cons_succ, List.setIfInBounds_toArray, List.set_cons_zero, List.set_cons_succ])
          refine' wpAnyH_take (i := 8) (v := _) rfl (by kernel_rfl) (by kernel_rfl) (by kernel_rfl) (fun _ _ _ h => h) (Or.inl ⟨by rfl, ?_⟩) hHeld ?_
          rotate_left
          · intro w hSw
            (try dsimp only at hSw)
            go_simp
            try with_reducible rfl
          (try simp only [Act.put, List.getElem_toArray, List.getElem_cons_zero, List.getElem_cons_succ, List.setIfInBounds_toArray, List.set_cons_zero, List.set_cons_succ])
          refine' wpAnyH_take (i := 9) (v := _) rfl (by kernel_rfl) (by kernel_rfl) (by kernel_rfl) (fun _ _ _ h => h) (Or.inl ⟨by rfl, ?_⟩) hHeld ?_
          rotate_left
          · intro w hSw
            (try dsimp only at hSw)
            go_simp
            try with_reducible rfl
          (try simp only [Act.put, List.getElem_toArray, List.getElem_cons_zero, List.getElem_cons_succ, List.setIfInBounds_toArray, List.set_cons_zero, List.set_cons_succ])
          refine' wpAnyH_take (i := 10) (v := _) rfl (by kernel_rfl) (by kernel_rfl) (by kernel_rfl) (fun _ _ _ h => h) (Or.inl ⟨by rfl, ?_⟩) hHeld ?_
          rotate_left
          · intro w hSw
            (try dsimp only at hSw)
            go_simp
            try with_reducible rfl
          (try simp only [Act.put, List.getElem_toArray, List.getElem_cons_zero, List.getElem_cons_succ, List.setIfInBounds_toArray, List.set_cons_zero, List.set_cons_succ])
          refine wpAnyH_take (i := 11) (v := undef) rfl (by kernel_rfl) (by kernel_rfl) (by kernel_rfl) (fun _ _ _ h => h) (Or.inr ⟨by kernel_rfl, rfl⟩) hHeld ?_
          (try simp only [Act.put, List.getElem_toArray, List.getElem_cons_zero, List.getElem_cons_succ, List.setIfInBounds_toArray, List.set_cons_zero, List.set_cons_succ])
          refine wpAnyH_take (i := 12) (v := undef) rfl (by kernel_rfl) (by kernel_rfl) (by kernel_rfl) (fun _ _ _ h => h) (Or.inr ⟨by kernel_rfl, rfl⟩) hHeld ?_
          (try simp only [Act.put, List.getElem_toArray, List.getElem_cons_zero, List.getElem_cons_succ, List.setIfInBounds_toArray, List.set_cons_zero, List.set_cons_succ])
          refine wpAnyH_take (i := 13) (v := undef) rfl (by kernel_rfl) (by kernel_rfl) (by kernel_rfl) (fun _ _ _ h => h) (Or.inr ⟨by kernel_rfl, rfl⟩) hHeld ?_
          (try simp only [Act.put, List.getElem_toArray, List.getElem_cons_zero, List.getElem_cons_succ, List.setIfInBounds_toArray, List.set_cons_zero, List.set_cons_succ])
          refine wpAnyH_take (i := 14) (v := undef) rfl (by kernel_rfl) (by kernel_rfl) (by kernel_rfl) (fun _ _ _ h => h) (Or.inr ⟨by kernel_rfl, rfl⟩) hHeld ?_
          (try simp only [Act.put, List.getElem_toArray, List.getElem_cons_zero, List.getElem_cons_succ, List.setIfInBounds_toArray, List.set_cons_zero, List.set_cons_succ])
          refine wpAnyH_take (i := 15) (v := undef) rfl (by kernel_rfl) (by kernel_rfl) (by kernel_rfl) (fun _ _ _ h => h) (Or.inr ⟨by kernel_rfl, rfl⟩) hHeld ?_
          (try simp only [Act.put, List.getElem_toArray, List.getElem_cons_zero, List.getElem_cons_succ, List.setIfInBounds_toArray, List.set_cons_zero, List.set_cons_succ])
          refine wpAnyH_take (i := 16) (v := undef) rfl (by kernel_rfl) (by kernel_rfl) (by kernel_rfl) (fun _ _ _ h => h) (Or.inr ⟨by kernel_rfl, rfl⟩) hHeld ?_
          (try simp only [Act.put, List.getElem_toArray, List.getElem_cons_zero, List.getElem_cons_succ, List.setIfInBounds_toArray, List.set_cons_zero, List.set_cons_succ])
          refine' wpAnyH_take (i := 17) (v := _) rfl (by kernel_rfl) (by kernel_rfl) (by kernel_rfl) (fun _ _ _ h => h) (Or.inl ⟨by rfl, ?_⟩) hHeld ?_
          rotate_left
          · intro w hSw
            (try dsimp only at hSw)
            go_simp
            try with_reducible rfl
          (try simp only [Act.put, List.getElem_toArray, List.getElem_cons_zero, List.getElem_cons_succ, List.setIfInBounds_toArray, List.set_cons_zero, List.set_cons_succ])
          refine wpAnyH_done (by kernel_rfl) ?_ _
          (try simp only [Act.put, List.getElem_toArray, List.getElem_cons_zero, List.getElem_cons_succ, List.setIfInBounds_toArray, List.set_cons_zero, List.set_cons_succ])
          clear hHeld HC
          have hb2 : Below W2.heap.size W2 W2.drew := (Below.refl _ _).drew
          have HR3 := Lib.hid (HS1.out.keep hb2)
          have HG4 := Lib.hid (grown_trans HG3.out (grown_of_below hb2 (some q)))
          obtain ⟨W3, hW3⟩ : ∃ x, x = W2.drew := ⟨_, rfl⟩
          rw [← hW3] at HR3 HG4 ⊢
          clear hW3 hb2
          have r7 := HR3.out.c 7 _ rfl
          have r8 := HR3.out.c 8 _ rfl
          have rz3 := HR3.out.fz
          have HE := Lib.hid (show stepsS L least true false dt P T = (P, M) by unfold stepsS; rw [if_neg (by simp), if_neg hp0, hM]; rw [if_neg (by simp)])
          have HSX := Lib.hid HR3.out
          go_wp2_with fail
          first | go_ret | go_end0
          exact ⟨rfl, by rw [HE.out]; exact HR3.out, HG4.out⟩
        · by_cases hle : least ≤ M
          · have HC := Lib.hid (And.intro (HS1.out.c 7 _ rfl) (HS1.out.c 8 _ rfl))
            go_wp2_with fail
            refine wp_region_held_drew (S := fun w' => w'.cell? ⟨q, 7, none⟩ = some (.int .i64 P) ∧ w'.cell? ⟨q, 8, none⟩ = some (.int .i64 M)) (by kernel_rfl) HC.out (fun hHeld => ?_)
            refine' wpAnyH_take (i := 0) (v := _) rfl (by kernel_rfl) (by kernel_rfl) (by kernel_rfl) (fun _ _ _ h => h) (Or.inl ⟨by rfl, ?_⟩) hHeld ?_
            rotate_left
            · intro w hSw
              (try dsimp only at hSw)
              go_simp
              try with_reducible rfl
            (try simp only [Act.put, List.getElem_toArray, List.getElem_cons_zero, List.getElem_cons_succ, List.setIfInBounds_toArray, List.set_cons_zero, List.set_cons_succ])
            refine' wpAnyH_take (i := 1) (v := _) rfl (by kernel_rfl) (by kernel_rfl) (by kernel_rfl) (fun _ _ _ h => h) (Or.inl ⟨by rfl, ?_⟩) hHeld ?_
            rotate_left
            · intro w hSw
              (try dsimp only at hSw)
              go_simp
              try with_reducible rfl
            (try simp only [Act.put, List.getElem_toArray, List.getElem_cons_zero, List.getElem_cons_succ, List.setIfInBounds_toArray, List.set_cons_zero, List.set_cons_succ])
            refine' wpAnyH_take (i := 2) (v := _) rfl (by kernel_rfl) (by kernel_rfl) (by kernel_rfl) (fun _ _ _ h => h) (Or.inl ⟨by rfl, ?_⟩) hHeld ?_
            rotate_left
            · intro w hSw
              (try dsimp only at hSw)
              go_simp
              try with_reducible rfl
            (try simp only [Act.put, List.getElem_toArray, List.getElem_cons_zero, List.getElem_cons_succ, List.setIfInBounds_toArray, List.set_cons_zero, List.set_cons_succ])
            refine' wpAnyH_take (i := 3) (v := _) rfl (by kernel_rfl) (by kernel_rfl) (by kernel_rfl) (fun _ _ _ h => h) (Or.inl ⟨by rfl, ?_⟩) hHeld ?_
            rotate_left
            · intro w hSw
              (try dsimp only at hSw)
              go_simp
              try with_reducible rfl
            (try simp only [Act.put, List.getElem_toArray, List.getElem_cons_zero, List.getElem_cons_succ, List.setIfInBounds_toArray, List.set_cons_zero, List.set_cons_succ])
            refine' wpAnyH_take (i := 4) (v := _) rfl (by kernel_rfl) (by kernel_rfl) (by kernel_rfl) (fun _ _ _ h => h) (Or.inl ⟨by rfl, ?_⟩) hHeld ?_
            rotate_left
            · intro w hSw
              (try dsimp only at hSw)
              go_simp
              try with_reducible rfl
            (try simp only [Act.put, List.getElem_toArray, List.getElem_cons_zero, List.getElem_cons_succ, List.setIfInBounds_toArray, List.set_cons_zero, List.set_cons_succ])
            refine wpAnyH_ready (rs := [5]) (by kernel_rfl) (by simp) ?_
            refine AllReadyH.cons rfl (fun K hK => ?_) AllReadyH.nil
            go_simp
            refine KL.out.mono ?_
            rintro e x1 ⟨rfl, rfl⟩
            (try go_simp)
            refine hK.out _ _ hHeld (fun hHeld => ?_)
            clear hK K
            (try simp only [Act.put, List.getElem_toArray, List.getElem_cons_zero, List.getElem_cons_succ, List.setIfInBounds_toArray, List.set_cons_zero, List.set_cons_succ])
            refine' wpAnyH_take (i := 6) (v := _) rfl (by kernel_rfl) (by kernel_rfl) (by kernel_rfl) (fun _ _ _ h => h) (Or.inl ⟨by rfl, ?_⟩) hHeld ?_
            rotate_left
            · intro w hSw
              (try dsimp only at hSw)
              go_simp
              try with_reducible rfl
            (try simp only [Act.put, List.getElem_toArray, List.getElem_cons_zero, List.getElem_cons_succ, List.setIfInBounds_toArray, List.set_cons_zero, List.set_cons_succ])
            refine' wpAnyH_take (i := 7) (v := _) rfl (by kernel_rfl) (by kernel_rfl) (by kernel_rfl) (fun _ _ _ h => h) (Or.inl ⟨by rfl, ?_⟩) hHeld ?_
            rotate_left
            · intro w hSw
              (try dsimp only at hSw)
              go_simp
              try with_reducible rfl
            (try simp only [Act.put, List.getElem_toArray, List.getElem_cons_zero, List.getElem_cons_succ, List.setIfInBounds_toArray, List.set_cons_zero, List.set_cons_succ])
            refine' wpAnyH_take (i := 8) (v := _) rfl (by kernel_rfl) (by kernel_rfl) (by kernel_rfl) (fun _ _ _ h => h) (Or.inl ⟨by rfl, ?_⟩) hHeld ?_
            rotate_left
            · intro w hSw
              (try dsimp only at hSw)
              go_simp
              try with_reducible rfl
            (try simp only [Act.put, List.getElem_toArray, List.getElem_cons_zero, List.getElem_cons_succ, List.setIfInBounds_toArray, List.set_cons_zero, List.set_cons_succ])
            refine' wpAnyH_take (i := 9) (v := _) rfl (by kernel_rfl) (by kernel_rfl) (by kernel_rfl) (fun _ _ _ h => h) (Or.inl ⟨by rfl, ?_⟩) hHeld ?_
            rotate_left
            · intro w hSw
              (try dsimp only at hSw)
              go_simp
              try with_reducible rfl
            (try simp only [Act.put, List.getElem_toArray, List.getElem_cons_zero, List.getElem_cons_succ, List.setIfInBounds_toArray, List.set_cons_zero, List.set_cons_succ])
            refine' wpAnyH_take (i := 10) (v := _) rfl (by kernel_rfl) (by kernel_rfl) (by kernel_rfl) (fun _ _ _ h => h) (Or.inl ⟨by rfl, ?_⟩) hHeld ?_
            rotate_left
            · intro w hSw
              (try dsimp only at hSw)
              go_simp
              try with_reducible rfl
            (try simp only [Act.put, List.getElem_toArray, List.getElem_cons_zero, List.getElem_cons_succ, List.setIfInBounds_toArray, List.set_cons_zero, List.set_cons_succ])
            refine' wpAnyH_take (i := 11) (v := _) rfl (by kernel_rfl) (by kernel_rfl) (by kernel_rfl) (fun _ _ _ h => h) (Or.inl ⟨by rfl, ?_⟩) hHeld ?_
            rotate_left
            · intro w hSw
              (try dsimp only at hSw)
              go_simp
              try with_reducible rfl
            (try simp only [Act.put, List.getElem_toArray, List.getElem_cons_zero, List.getElem_cons_succ, List.setIfInBounds_toArray, List.set_cons_zero, List.set_cons_succ])
            refine' wpAnyH_take (i := 12) (v := _) rfl (by kernel_rfl) (by kernel_rfl) (by kernel_rfl) (fun _ _ _ h => h) (Or.inl ⟨by rfl, ?_⟩) hHeld ?_
            rotate_left
            · intro w hSw
              (try dsimp only at hSw)
              go_simp
              try with_reducible rfl
            (try simp only [Act.put, List.getElem_toArray, List.getElem_cons_zero, List.getElem_cons_succ, List.setIfInBounds_toArray, List.set_cons_zero, List.set_cons_succ])
            refine' wpAnyH_take (i := 13) (v := _) rfl (by kernel_rfl) (by kernel_rfl) (by kernel_rfl) (fun _ _ _ h => h) (Or.inl ⟨by rfl, ?_⟩) hHeld ?_
            rotate_left
            · intro w hSw
              (try dsimp only at hSw)
              go_simp
              try with_reducible rfl
            (try simp only [Act.put, List.getElem_toArray, List.getElem_cons_zero, List.getElem_cons_succ, List.setIfInBounds_toArray, List.set_cons_zero, List.set_cons_succ])
            refine' wpAnyH_take (i := 14) (v := _) rfl (by kernel_rfl) (by kernel_rfl) (by kernel_rfl) (fun _ _ _ h => h) (Or.inl ⟨by rfl, ?_⟩) hHeld ?_
            rotate_left
            · intro w hSw
              (try dsimp only at hSw)
              go_simp
              try with_reducible rfl
            (try simp only [Act.put, List.getElem_toArray, List.getElem_cons_zero, List.getElem_cons_succ, List.setIfInBounds_toArray, List.set_cons_zero, List.set_cons_succ])
            refine' wpAnyH_take (i := 15) (v := _) rfl (by kernel_rfl) (by kernel_rfl) (by kernel_rfl) (fun _ _ _ h => h) (Or.inl ⟨by rfl, ?_⟩) hHeld ?_
            rotate_left
            · intro w hSw
              (try dsimp only at hSw)
              go_simp
              try with_reducible rfl
            (try simp only [Act.put, List.getElem_toArray, List.getElem_cons_zero, List.getElem_cons_succ, List.setIfInBounds_toArray, List.set_cons_zero, List.set_cons_succ])
            refine' wpAnyH_take (i := 16) (v := _) rfl (by kernel_rfl) (by kernel_rfl) (by kernel_rfl) (fun _ _ _ h => h) (Or.inl ⟨by rfl, ?_⟩) hHeld ?_
            rotate_left
            · intro w hSw
              (try dsimp only at hSw)
              go_simp
              try with_reducible rfl
            (try simp only [Act.put, List.getElem_toArray, List.getElem_cons_zero, List.getElem_cons_succ, List.setIfInBounds_toArray, List.set_cons_zero, List.set_cons_succ])
            refine' wpAnyH_take (i := 17) (v := _) rfl (by kernel_rfl) (by kernel_rfl) (by kernel_rfl) (fun _ _ _ h => h) (Or.inl ⟨by rfl, ?_⟩) hHeld ?_
            rotate_left
            · intro w hSw
              (try dsimp only at hSw)
              go_simp
              try with_reducible rfl
            (try simp only [Act.put, List.getElem_toArray, List.getElem_cons_zero, List.getElem_cons_succ, List.setIfInBounds_toArray, List.set_cons_zero, List.set_cons_succ])
            refine wpAnyH_done (by kernel_rfl) ?_ _
            (try simp only [Act.put, List.getElem_toArray, List.getElem_cons_zero, List.getElem_cons_succ, List.setIfInBounds_toArray, List.set_cons_zero, List.set_cons_succ])
            clear hHeld HC
            have hb2 : Below W2.heap.size W2 W2.drew := (Below.refl _ _).drew
            have HR3 := Lib.hid (HS1.out.keep hb2)
            have HG4 := Lib.hid (grown_trans HG3.out (grown_of_below hb2 (some q)))
            obtain ⟨W3, hW3⟩ : ∃ x, x = W2.drew := ⟨_, rfl⟩
            rw [← hW3] at HR3 HG4 ⊢
            clear hW3 hb2
            have r7 := HR3.out.c 7 _ rfl
            have r8 := HR3.out.c 8 _ rfl
            have rz3 := HR3.out.fz
            have HE := Lib.hid (show stepsS L least true true dt P T = (P + 1, 0) by unfold stepsS; rw [if_neg (by simp), if_neg hp0, hM]; rw [if_pos ⟨hPL, rfl, hle⟩])
            clear hM
            go_wp2_with fail
            refine (KM.out _ _ (P + 1) HR3.out).mono ?_
            rintro e w3 ⟨rfl, hrow, hg⟩
            have HROW := Lib.hid hrow
            have HG9 := Lib.hid (grown_trans HG4.out hg)
            clear hrow hg
            go_wp2_with fail
            first | go_ret | go_end0
            exact ⟨rfl, by rw [HE.out]; exact HROW.out, HG9.out⟩
          · have HC := Lib.hid (And.intro (HS1.out.c 7 _ rfl) (HS1.out.c 8 _ rfl))
            go_wp2_with fail
            refine wp_region_held_drew (S := fun w' => w'.cell? ⟨q, 7, none⟩ = some (.int .i64 P) ∧ w'.cell? ⟨q, 8, none⟩ = some (.int .i64 M)) (by kernel_rfl) HC.out (fun hHeld => ?_)
            refine' wpAnyH_take (i := 0) (v := _) rfl (by kernel_rfl) (by kernel_rfl) (by kernel_rfl) (fun _ _ _ h => h) (Or.inl ⟨by rfl, ?_⟩) hHeld ?_
            rotate_left
            · intro w hSw
              (try dsimp only at hSw)
              go_simp
              try with_reducible rfl
            (try simp only [Act.put, List.getElem_toArray, List.getElem_cons_zero, List.getElem_cons_succ, List.setIfInBounds_toArray, List.set_cons_zero, List.set_cons_succ])
            refine' wpAnyH_take (i := 1) (v := _) rfl (by kernel_rfl) (by kernel_rfl) (by kernel_rfl) (fun _ _ _ h => h) (Or.inl ⟨by rfl, ?_⟩) hHeld ?_
            rotate_left
            · intro w hSw
              (try dsimp only at hSw)
              go_simp
              try with_reducible rfl
            (try simp only [Act.put, List.getElem_toArray, List.getElem_cons_zero, List.getElem_cons_succ, List.setIfInBounds_toArray, List.set_cons_zero, List.set_cons_succ])
            refine' wpAnyH_take (i := 2) (v := _) rfl (by kernel_rfl) (by kernel_rfl) (by kernel_rfl) (fun _ _ _ h => h) (Or.inl ⟨by rfl, ?_⟩) hHeld ?_
            rotate_left
            · intro w hSw
              (try dsimp only at hSw)
              go_simp
              try with_reducible rfl
            (try simp only [Act.put, List.getElem_toArray, List.getElem_cons_zero, List.getElem_cons_succ, List.setIfInBounds_toArray, List.set_cons_zero, List.set_cons_succ])
            refine' wpAnyH_take (i := 3) (v := _) rfl (by kernel_rfl) (by kernel_rfl) (by kernel_rfl) (fun _ _ _ h => h) (Or.inl ⟨by rfl, ?_⟩) hHeld ?_
            rotate_left
            · intro w hSw
              (try dsimp only at hSw)
              go_simp
              try with_reducible rfl
            (try simp only [Act.put, List.getElem_toArray, List.getElem_cons_zero, List.getElem_cons_succ, List.setIfInBounds_toArray, List.set_cons_zero, List.set_cons_succ])
            refine' wpAnyH_take (i := 4) (v := _) rfl (by kernel_rfl) (by kernel_rfl) (by kernel_rfl) (fun _ _ _ h => h) (Or.inl ⟨by rfl, ?_⟩) hHeld ?_
            rotate_left
            · intro w hSw
              (try dsimp only at hSw)
              go_simp
              try with_reducible rfl
            (try simp only [Act.put, List.getElem_toArray, List.getElem_cons_zero, List.getElem_cons_succ, List.setIfInBounds_toArray, List.set_cons_zero, List.set_cons_succ])
            refine wpAnyH_ready (rs := [5]) (by kernel_rfl) (by simp) ?_
            refine AllReadyH.cons rfl (fun K hK => ?_) AllReadyH.nil
            go_simp
            refine KL.out.mono ?_
            rintro e x1 ⟨rfl, rfl⟩
            (try go_simp)
            refine hK.out _ _ hHeld (fun hHeld => ?_)
            clear hK K
            (try simp only [Act.put, List.getElem_toArray, List.getElem_cons_zero, List.getElem_cons_succ, List.setIfInBounds_toArray, List.set_cons_zero, List.set_cons_succ])
            refine' wpAnyH_take (i := 6) (v := _) rfl (by kernel_rfl) (by kernel_rfl) (by kernel_rfl) (fun _ _ _ h => h) (Or.inl ⟨by rfl, ?_⟩) hHeld ?_
            rotate_left
            · intro w hSw
              (try dsimp only at hSw)
              go_simp
              try with_reducible rfl
            (try simp only [Act.put, List.getElem_toArray, List.getElem_cons_zero, List.getElem_cons_succ, List.setIfInBounds_toArray, List.set_cons_zero, List.set_cons_succ])
            refine' wpAnyH_take (i := 7) (v := _) rfl (by kernel_rfl) (by kernel_rfl) (by kernel_rfl) (fun _ _ _ h => h) (Or.inl ⟨by rfl, ?_⟩) hHeld ?_
            rotate_left
            · intro w hSw
              (try dsimp only at hSw)
              go_simp
              try with_reducible rfl
            (try simp only [Act.put, List.getElem_toArray, List.getElem_cons_zero, List.getElem_cons_succ, List.setIfInBounds_toArray, List.set_cons_zero, List.set_cons_succ])
            refine' wpAnyH_take (i := 8) (v := _) rfl (by kernel_rfl) (by kernel_rfl) (by kernel_rfl) (fun _ _ _ h => h) (Or.inl ⟨by rfl, ?_⟩) hHeld ?_
            rotate_left
            · intro w hSw
              (try dsimp only at hSw)
              go_simp
              try with_reducible rfl
            (try simp only [Act.put, List.getElem_toArray, List.getElem_cons_zero, List.getElem_cons_succ, List.setIfInBounds_toArray, List.set_cons_zero, List.set_cons_succ])
            refine' wpAnyH_take (i := 9) (v := _) rfl (by kernel_rfl) (by kernel_rfl) (by kernel_rfl) (fun _ _ _ h => h) (Or.inl ⟨by rfl, ?_⟩) hHeld ?_
            rotate_left
            · intro w hSw
              (try dsimp only at hSw)
              go_simp
              try with_reducible rfl
            (try simp only [Act.put, List.getElem_toArray, List.getElem_cons_zero, List.getElem_cons_succ, List.setIfInBounds_toArray, List.set_cons_zero, List.set_cons_succ])
            refine' wpAnyH_take (i := 10) (v := _) rfl (by kernel_rfl) (by kernel_rfl) (by kernel_rfl) (fun _ _ _ h => h) (Or.inl ⟨by rfl, ?_⟩) hHeld ?_
            rotate_left
            · intro w hSw
              (try dsimp only at hSw)
              go_simp
              try with_reducible rfl
            (try simp only [Act.put, List.getElem_toArray, List.getElem_cons_zero, List.getElem_cons_succ, List.setIfInBounds_toArray, List.set_cons_zero, List.set_cons_succ])
            refine' wpAnyH_take (i := 11) (v := _) rfl (by kernel_rfl) (by kernel_rfl) (by kernel_rfl) (fun _ _ _ h => h) (Or.inl ⟨by rfl, ?_⟩) hHeld ?_
            rotate_left
            · intro w hSw
              (try dsimp only at hSw)
              go_simp
              try with_reducible rfl
            (try simp only [Act.put, List.getElem_toArray, List.getElem_cons_zero, List.getElem_cons_succ, List.setIfInBounds_toArray, List.set_cons_zero, List.set_cons_succ])
            refine' wpAnyH_take (i := 12) (v := _) rfl (by kernel_rfl) (by kernel_rfl) (by kernel_rfl) (fun _ _ _ h => h) (Or.inl ⟨by rfl, ?_⟩) hHeld ?_
            rotate_left
            · intro w hSw
              (try dsimp only at hSw)
              go_simp
              try with_reducible rfl
            (try simp only [Act.put, List.getElem_toArray, List.getElem_cons_zero, List.getElem_cons_succ, List.setIfInBounds_toArray, List.set_cons_zero, List.set_cons_succ])
            refine' wpAnyH_take (i := 13) (v := _) rfl (by kernel_rfl) (by kernel_rfl) (by kernel_rfl) (fun _ _ _ h => h) (Or.inl ⟨by rfl, ?_⟩) hHeld ?_
            rotate_left
            · intro w hSw
              (try dsimp only at hSw)
              go_simp
              try with_reducible rfl
            (try simp only [Act.put, List.getElem_toArray, List.getElem_cons_zero, List.getElem_cons_succ, List.setIfInBounds_toArray, List.set_cons_zero, List.set_cons_succ])
            refine' wpAnyH_take (i := 14) (v := _) rfl (by kernel_rfl) (by kernel_rfl) (by kernel_rfl) (fun _ _ _ h => h) (Or.inl ⟨by rfl, ?_⟩) hHeld ?_
            rotate_left
            · intro w hSw
              (try dsimp only at hSw)
              go_simp
              try with_reducible rfl
            (try simp only [Act.put, List.getElem_toArray, List.getElem_cons_zero, List.getElem_cons_succ, List.setIfInBounds_toArray, List.set_cons_zero, List.set_cons_succ])
            refine' wpAnyH_take (i := 15) (v := _) rfl (by kernel_rfl) (by kernel_rfl) (by kernel_rfl) (fun _ _ _ h => h) (Or.inl ⟨by rfl, ?_⟩) hHeld ?_
            rotate_left
            · intro w hSw
              (try dsimp only at hSw)
              go_simp
              try with_reducible rfl
            (try simp only [Act.put, List.getElem_toArray, List.getElem_cons_zero, List.getElem_cons_succ, List.setIfInBounds_toArray, List.set_cons_zero, List.set_cons_succ])
            refine' wpAnyH_take (i := 16) (v := _) rfl (by kernel_rfl) (by kernel_rfl) (by kernel_rfl) (fun _ _ _ h => h) (Or.inl ⟨by rfl, ?_⟩) hHeld ?_
            rotate_left
            · intro w hSw
              (try dsimp only at hSw)
              go_simp
              try with_reducible rfl
            (try simp only [Act.put, List.getElem_toArray, List.getElem_cons_zero, List.getElem_cons_succ, List.setIfInBounds_toArray, List.set_cons_zero, List.set_cons_succ])
            refine' wpAnyH_take (i := 17) (v := _) rfl (by kernel_rfl) (by kernel_rfl) (by kernel_rfl) (fun _ _ _ h => h) (Or.inl ⟨by rfl, ?_⟩) hHeld ?_
            rotate_left
            · intro w hSw
              (try dsimp only at hSw)
              go_simp
              try with_reducible rfl
            (try simp only [Act.put, List.getElem_toArray, List.getElem_cons_zero, List.getElem_cons_succ, List.setIfInBounds_toArray, List.set_cons_zero, List.set_cons_succ])
            refine wpAnyH_done (by kernel_rfl) ?_ _
            (try simp only [Act.put, List.getElem_toArray, List.getElem_cons_zero, List.getElem_cons_succ, List.setIfInBounds_toArray, List.set_cons_zero, List.set_cons_succ])
            clear hHeld HC
            have hb2 : Below W2.heap.size W2 W2.drew := (Below.refl _ _).drew
            have HR3 := Lib.hid (HS1.out.keep hb2)
            have HG4 := Lib.hid (grown_trans HG3.out (grown_of_below hb2 (some q)))
            obtain ⟨W3, hW3⟩ : ∃ x, x = W2.drew := ⟨_, rfl⟩
            rw [← hW3] at HR3 HG4 ⊢
            clear hW3 hb2
            have r7 := HR3.out.c 7 _ rfl
            have r8 := HR3.out.c 8 _ rfl
            have rz3 := HR3.out.fz
            have HE := Lib.hid (show stepsS L least true true dt P T = (P, M) by unfold stepsS; rw [if_neg (by simp), if_neg hp0, hM]; rw [if_neg (fun h => by have := h.2.2; omega)])
            have HSX := Lib.hid HR3.out
            go_wp2_with fail
            first | go_ret | go_end0
            exact ⟨rfl, by rw [HE.out]; exact HR3.out, HG4.out⟩
      · have hPB : decide (P < L) = false := decide_eq_false hPL
        have HC := Lib.hid (And.intro (HS1.out.c 7 _ rfl) (HS1.out.c 8 _ rfl))
        go_wp2_with fail
        refine wp_region_held_drew (S := fun w' => w'.cell? ⟨q, 7, none⟩ = some (.int .i64 P) ∧ w'.cell? ⟨q, 8, none⟩ = some (.int .i64 M)) (by kernel_rfl) HC.out (fun hHeld => ?_)
        refine' wpAnyH_take (i := 0) (v := _) rfl (by kernel_rfl) (by kernel_rfl) (by kernel_rfl) (fun _ _ _ h => h) (Or.inl ⟨by rfl, ?_⟩) hHeld ?_
        rotate_left
        · intro w hSw
          (try dsimp only at hSw)
          go_simp
          try with_reducible rfl
        (try simp only [Act.put, List.getElem_toArray, List.getElem_cons_zero, List.getElem_cons_succ, List.setIfInBounds_toArray, List.set_cons_zero, List.set_cons_succ])
        refine' wpAnyH_take (i := 1) (v := _) rfl (by kernel_rfl) (by kernel_rfl) (by kernel_rfl) (fun _ _ _ h => h) (Or.inl ⟨by rfl, ?_⟩) hHeld ?_
        rotate_left
        · intro w hSw
          (try dsimp only at hSw)
          go_simp
          try with_reducible rfl
        (try simp only [Act.put, List.getElem_toArray, List.getElem_cons_zero, List.getElem_cons_succ, List.setIfInBounds_toArray, List.set_cons_zero, List.set_cons_succ])
        refine' wpAnyH_take (i := 2) (v := _) rfl (by kernel_rfl) (by kernel_rfl) (by kernel_rfl) (fun _ _ _ h => h) (Or.inl ⟨by rfl, ?_⟩) hHeld ?_
        rotate_left
        · intro w hSw
          (try dsimp only at hSw)
          go_simp
          try with_reducible rfl
        (try simp only [Act.put, List.getElem_toArray, List.getElem_cons_zero, List.getElem_cons_succ, List.setIfInBounds_toArray, List.set_cons_zero, List.set_cons_succ])
        refine' wpAnyH_take (i := 3) (v := _) rfl (by kernel_rfl) (by kernel_rfl) (by kernel_rfl) (fun _ _ _ h => h) (Or.inl ⟨by rfl, ?_⟩) hHeld ?_
        rotate_left
        · intro w hSw
          (try dsimp only at hSw)
          go_simp
          try with_reducible rfl
        (try simp only [Act.put, List.getElem_toArray, List.getElem_cons_zero, List.getElem_cons_succ, List.setIfInBounds_toArray, List.set_cons_zero, List.set_cons_succ])
        refine' wpAnyH_take (i := 4) (v := _) rfl (by kernel_rfl) (by kernel_rfl) (by kernel_rfl) (fun _ _ _ h => h) (Or.inl ⟨by rfl, ?_⟩) hHeld ?_
        rotate_left
        · intro w hSw
          (try dsimp only at hSw)
          go_simp
          try with_reducible rfl
        (try simp only [Act.put, List.getElem_toArray, List.getElem_cons_zero, List.getElem_cons_succ, List.setIfInBounds_toArray, List.set_cons_zero, List.set_cons_succ])
        refine wpAnyH_ready (rs := [5]) (by kernel_rfl) (by simp) ?_
        refine AllReadyH.cons rfl (fun K hK => ?_) AllReadyH.nil
        go_simp
        refine KL.out.mono ?_
        rintro e x1 ⟨rfl, rfl⟩
        (try go_simp)
        refine hK.out _ _ hHeld (fun hHeld => ?_)
        clear hK K
        (try simp only [Act.put, List.getElem_toArray, List.getElem_cons_zero, List.getElem_cons_succ, List.setIfInBounds_toArray, List.set_cons_zero, List.set_cons_succ])
        refine' wpAnyH_take (i := 6) (v := _) rfl (by kernel_rfl) (by kernel_rfl) (by kernel_rfl) (fun _ _ _ h => h) (Or.inl ⟨by rfl, ?_⟩) hHeld ?_
        rotate_left
        · intro w hSw
          (try dsimp only at hSw)
          go_simp
          try with_reducible rfl
        (try simp only [Act.put, List.getElem_toArray, List.getElem_cons_zero, List.getElem_cons_succ, List.setIfInBounds_toArray, List.set_cons_zero, List.set_cons_succ])
        refine' wpAnyH_take (i := 7) (v := _) rfl (by kernel_rfl) (by kernel_rfl) (by kernel_rfl) (fun _ _ _ h => h) (Or.inl ⟨by rfl, ?_⟩) hHeld ?_
        rotate_left
        · intro w hSw
          (try dsimp only at hSw)
          go_simp
          try with_reducible rfl
        (try simp only [Act.put, List.getElem_toArray, List.getElem_cons_zero, List.getElem_cons_succ, List.setIfInBounds_toArray, List.set_cons_zero, List.set_cons_succ])
        refine wpAnyH_take (i := 8) (v := undef) rfl (by kernel_rfl) (by kernel_rfl) (by kernel_rfl) (fun _ _ _ h => h) (Or.inr ⟨by kernel_rfl, rfl⟩) hHeld ?_
        (try simp only [Act.put, List.getElem_toArray, List.getElem_cons_zero, List.getElem_cons_succ, List.setIfInBounds_toArray, List.set_cons_zero, List.set_cons_succ])
        refine' wpAnyH_take (i := 9) (v := _) rfl (by kernel_rfl) (by kernel_rfl) (by kernel_rfl) (fun _ _ _ h => h) (Or.inl ⟨by rfl, ?_⟩) hHeld ?_
        rotate_left
        · intro w hSw
          (try dsimp only at hSw)
          go_simp
          try with_reducible rfl
        (try simp only [Act.put, List.getElem_toArray, List.getElem_cons_zero, List.getElem_cons_succ, List.setIfInBounds_toArray, List.set_cons_zero, List.set_cons_succ])
        refine' wpAnyH_take (i := 10) (v := _) rfl (by kernel_rfl) (by kernel_rfl) (by kernel_rfl) (fun _ _ _ h => h) (Or.inl ⟨by rfl, ?_⟩) hHeld ?_
        rotate_left
        · intro w hSw
          (try dsimp only at hSw)
          go_simp
          try with_reducible rfl
        (try simp only [Act.put, List.getElem_toArray, List.getElem_cons_zero, List.getElem_cons_succ, List.setIfInBounds_toArray, List.set_cons_zero, List.set_cons_succ])
        refine wpAnyH_take (i := 11) (v := undef) rfl (by kernel_rfl) (by kernel_rfl) (by kernel_rfl) (fun _ _ _ h => h) (Or.inr ⟨by kernel_rfl, rfl⟩) hHeld ?_
        (try simp only [Act.put, List.getElem_toArray, List.getElem_cons_zero, List.getElem_cons_succ, List.setIfInBounds_toArray, List.set_cons_zero, List.set_cons_succ])
        refine wpAnyH_take (i := 12) (v := undef) rfl (by kernel_rfl) (by kernel_rfl) (by kernel_rfl) (fun _ _ _ h => h) (Or.inr ⟨by kernel_rfl, rfl⟩) hHeld ?_
        (try simp only [Act.put, List.getElem_toArray, List.getElem_cons_zero, List.getElem_cons_succ, List.setIfInBounds_toArray, List.set_cons_zero, List.set_cons_succ])
        refine wpAnyH_take (i := 13) (v := undef) rfl (by kernel_rfl) (by kernel_rfl) (by kernel_rfl) (fun _ _ _ h => h) (Or.inr ⟨by kernel_rfl, rfl⟩) hHeld ?_
        (try simp only [Act.put, List.getElem_toArray, List.getElem_cons_zero, List.getElem_cons_succ, List.setIfInBounds_toArray, List.set_cons_zero, List.set_cons_succ])
        refine wpAnyH_take (i := 14) (v := undef) rfl (by kernel_rfl) (by kernel_rfl) (by kernel_rfl) (fun _ _ _ h => h) (Or.inr ⟨by kernel_rfl, rfl⟩) hHeld ?_
        (try simp only [Act.put, List.getElem_toArray, List.getElem_cons_zero, List.getElem_cons_succ, List.setIfInBounds_toArray, List.set_cons_zero, List.set_cons_succ])
        refine wpAnyH_take (i := 15) (v := undef) rfl (by kernel_rfl) (by kernel_rfl) (by kernel_rfl) (fun _ _ _ h => h) (Or.inr ⟨by kernel_rfl, rfl⟩) hHeld ?_
        (try simp only [Act.put, List.getElem_toArray, List.getElem_cons_zero, List.getElem_cons_succ, List.setIfInBounds_toArray, List.set_cons_zero, List.set_cons_succ])
        refine wpAnyH_take (i := 16) (v := undef) rfl (by kernel_rfl) (by kernel_rfl) (by kernel_rfl) (fun _ _ _ h => h) (Or.inr ⟨by kernel_rfl, rfl⟩) hHeld ?_
        (try simp only [Act.put, List.getElem_toArray, List.getElem_cons_zero, List.getElem_cons_succ, List.setIfInBounds_toArray, List.set_cons_zero, List.set_cons_succ])
        refine' wpAnyH_take (i := 17) (v := _) rfl (by kernel_rfl) (by kernel_rfl) (by kernel_rfl) (fun _ _ _ h => h) (Or.inl ⟨by rfl, ?_⟩) hHeld ?_
        rotate_left
        · intro w hSw
          (try dsimp only at hSw)
          go_simp
          try with_reducible rfl
        (try simp only [Act.put, List.getElem_toArray, List.getElem_cons_zero, List.getElem_cons_succ, List.setIfInBounds_toArray, List.set_cons_zero, List.set_cons_succ])
        refine wpAnyH_done (by kernel_rfl) ?_ _
        (try simp only [Act.put, List.getElem_toArray, List.getElem_cons_zero, List.getElem_cons_succ, List.setIfInBounds_toArray, List.set_cons_zero, List.set_cons_succ])
        clear hHeld HC
        have hb2 : Below W2.heap.size W2 W2.drew := (Below.refl _ _).drew
        have HR3 := Lib.hid (HS1.out.keep hb2)
        have HG4 := Lib.hid (grown_trans HG3.out (grown_of_below hb2 (some q)))
        obtain ⟨W3, hW3⟩ : ∃ x, x = W2.drew := ⟨_, rfl⟩
        rw [← hW3] at HR3 HG4 ⊢
        clear hW3 hb2
        have r7 := HR3.out.c 7 _ rfl
        have r8 := HR3.out.c 8 _ rfl
        have rz3 := HR3.out.fz
        have HE := Lib.hid (show stepsS L least true nx dt P T = (P, M) by unfold stepsS; rw [if_neg (by simp), if_neg hp0, hM]; rw [if_neg (fun h => by have := h.1; omega)])
        have HSX := Lib.hid HR3.out
        go_wp2_with fail
        first | go_ret | go_end0
        exact ⟨rfl, by rw [HE.out]; exact HR3.out, HG4.out⟩
end Go.Proofs.YthaigchklogjlaaDoor
