/- Contracts of plenumref19: Formed, Possible, Typed. -/
import Derived.Test.YtmhfkdnblemfdaaDoorDf
import Derived.Deep.QuietTactic
import Derived.BigQuiet
namespace Go.Proofs.YtmhfkdnblemfdaaDoor
open Go.RowKit Go.Shelf

set_option linter.unusedVariables false
set_option linter.unusedSimpArgs false
set_option maxHeartbeats 4000000 in
set_option maxRecDepth 100000 in
theorem rformed_count (pa : Option Addr) (pc : Nat) (ps : List Int) (w : World) (hps : InS w pa ps.length 1 (flat iL ps)) : Calls Tryd.prog 35 #[.string ⟨#[99, 111, 117, 110, 116]⟩, .slice pa ps.length pc] w fun e w' => e = .returned (.bool (form_none ps)) ∧ Below w.heap.size w w' := by
  by_cases hl : ps.length = 0
  · obtain rfl : ps = [] := List.eq_nil_of_length_eq_zero hl
    clear hl hps
    go_enter Tryd.func35, Tryd.ntmps35
    go_wp2_with fail
    go_ret
    exact ⟨rfl, Below.refl _ _⟩
  · have HF := Lib.hid (show form_none ps = false by unfold form_none; split; exact absurd rfl hl; rfl)
    obtain ⟨R, hR⟩ : ∃ x, x = form_none ps := ⟨_, rfl⟩
    rw [← hR] at HF ⊢
    obtain ⟨M, hM⟩ : ∃ M, M = ps.length := ⟨_, rfl⟩
    have m63 : M ≤ 9223372036854775807 := by rw [hM]; exact hps.2.1
    rw [← hM] at hl ⊢
    have hl2 : ((M : Int) == 0) = false := by rw [beq_eq_false_iff_ne]; omega
    clear hM hR hps hl
    go_enter Tryd.func35, Tryd.ntmps35
    go_wp2_with fail
    go_ret
    exact ⟨by rw [HF.out]; rfl, Below.refl _ _⟩
set_option maxHeartbeats 4000000 in
set_option maxRecDepth 100000 in
theorem rformed_edge (pa : Option Addr) (pc : Nat) (ps : List Int) (w : World) (hps : InS w pa ps.length 1 (flat iL ps)) : Calls Tryd.prog 35 #[.string ⟨#[101, 100, 103, 101]⟩, .slice pa ps.length pc] w fun e w' => e = .returned (.bool (form_none ps)) ∧ Below w.heap.size w w' := by
  by_cases hl : ps.length = 0
  · obtain rfl : ps = [] := List.eq_nil_of_length_eq_zero hl
    clear hl hps
    go_enter Tryd.func35, Tryd.ntmps35
    go_wp2_with fail
    go_ret
    exact ⟨rfl, Below.refl _ _⟩
  · have HF := Lib.hid (show form_none ps = false by unfold form_none; split; exact absurd rfl hl; rfl)
    obtain ⟨R, hR⟩ : ∃ x, x = form_none ps := ⟨_, rfl⟩
    rw [← hR] at HF ⊢
    obtain ⟨M, hM⟩ : ∃ M, M = ps.length := ⟨_, rfl⟩
    have m63 : M ≤ 9223372036854775807 := by rw [hM]; exact hps.2.1
    rw [← hM] at hl ⊢
    have hl2 : ((M : Int) == 0) = false := by rw [beq_eq_false_iff_ne]; omega
    clear hM hR hps hl
    go_enter Tryd.func35, Tryd.ntmps35
    go_wp2_with fail
    go_ret
    exact ⟨by rw [HF.out]; rfl, Below.refl _ _⟩
set_option maxHeartbeats 4000000 in
set_option maxRecDepth 100000 in
theorem rformed_hyst (pa : Option Addr) (pc : Nat) (ps : List Int) (w : World) (hps : InS w pa ps.length 1 (flat iL ps)) : Calls Tryd.prog 35 #[.string ⟨#[104, 121, 115, 116]⟩, .slice pa ps.length pc] w fun e w' => e = .returned (.bool (form_hyst ps)) ∧ Below w.heap.size w w' := by
  by_cases hl : ps.length = 2
  · obtain ⟨p0, p1, rfl⟩ : ∃ p0 p1, ps = [p0, p1] := by
      match ps, hl with
      | [p0, p1], _ => exact ⟨_, _, rfl⟩
    obtain ⟨pb, po, rfl, hpl, hpc⟩ := (show InS w pa 2 1 (flat iL [p0, p1]) from hps).at (xs := [p0, p1]) iL_len (by simp)
    have q0 : w.cell? ⟨pb, po, none⟩ = some (.int .i64 p0) := by have h := hpc 0 _ rfl 0 _ rfl; simpa using h
    have q1 : w.cell? ⟨pb, po + 1, none⟩ = some (.int .i64 p1) := by have h := hpc 1 _ rfl 0 _ rfl; simpa using h
    clear hpl hpc hl hps
    have HC := Lib.hid (And.intro q0 q1)
    obtain ⟨R, hR⟩ : ∃ x, x = form_hyst [p0, p1] := ⟨_, rfl⟩
    rw [← hR]
    have HR := Lib.hid hR
    clear hR
    obtain ⟨Z0, hZ0⟩ : ∃ x, x = inZ (-1000000000000) p0 1000000000000 := ⟨_, rfl⟩
    have K0 := Lib.hid (fun W => rinside_any p0 W)
    rw [← hZ0] at K0
    have HZ0 := Lib.hid hZ0
    clear hZ0
    obtain ⟨Z1, hZ1⟩ : ∃ x, x = inZ (-1000000000000) p1 1000000000000 := ⟨_, rfl⟩
    have K1 := Lib.hid (fun W => rinside_any p1 W)
    rw [← hZ1] at K1
    have HZ1 := Lib.hid hZ1
    clear hZ1
    cases Z0
    · go_enter Tryd.func35, Tryd.ntmps35
      go_wp2_with fail
      refine wp_region_held_drew (S := fun w' => w'.cell? ⟨pb, po, none⟩ = some (.int .i64 p0) ∧ w'.cell? ⟨pb, po + 1, none⟩ = some (.int .i64 p1)) (by kernel_rfl) HC.out (fun hHeld => ?_)
      refine' wpAnyH_take (i := 0) (v := _) rfl (by kernel_rfl) (by kernel_rfl) (by kernel_rfl) (fun _ _ _ h => h) (Or.inl ⟨by rfl, ?_⟩) hHeld ?_
      rotate_left
      · intro w hSw
        (try dsimp only at hSw)
        go_simp
        try with_reducible rfl
      (try simp only [Act.put, List.getElem_toArray, List.getElem_cons_zero, List.getElem_cons_succ, List.setIfInBounds_toArray, List.set_cons_zero, List.set_cons_succ])
      refine' wpAnyH_take (i := 1) (v := _) rfl (by kernel_rfl) (by kernel_rfl) (by kernel_rfl) (fun _ _ _ h => h) (Or.inl ⟨by rfl, ?_⟩) hHeld ?_
      rotate_left
      · intro w hSw
        (try dsimp only at hSw)
        go_simp
        try with_reducible rfl
      (try simp only [Act.put, List.getElem_toArray, List.getElem_cons_zero, List.getElem_cons_succ, List.setIfInBounds_toArray, List.set_cons_zero, List.set_cons_succ])
      refine' wpAnyH_take (i := 2) (v := _) rfl (by kernel_rfl) (by kernel_rfl) (by kernel_rfl) (fun _ _ _ h => h) (Or.inl ⟨by rfl, ?_⟩) hHeld ?_
      rotate_left
      · intro w hSw
        (try dsimp only at hSw)
        go_simp
        try with_reducible rfl
      (try simp only [Act.put, List.getElem_toArray, List.getElem_cons_zero, List.getElem_cons_succ, List.setIfInBounds_toArray, List.set_cons_zero, List.set_cons_succ])
      refine' wpAnyH_take (i := 3) (v := _) rfl (by kernel_rfl) (by kernel_rfl) (by kernel_rfl) (fun _ _ _ h => h) (Or.inl ⟨by rfl, ?_⟩) hHeld ?_
      rotate_left
      · intro w hSw
        (try dsimp only at hSw)
        go_simp
        try with_reducible rfl
      (try simp only [Act.put, List.getElem_toArray, List.getElem_cons_zero, List.getElem_cons_succ, List.setIfInBounds_toArray, List.set_cons_zero, List.set_cons_succ])
      refine' wpAnyH_take (i := 4) (v := _) rfl (by kernel_rfl) (by kernel_rfl) (by kernel_rfl) (fun _ _ _ h => h) (Or.inl ⟨by rfl, ?_⟩) hHeld ?_
      rotate_left
      · intro w hSw
        (try dsimp only at hSw)
        go_simp
        try with_reducible rfl
      (try simp only [Act.put, List.getElem_toArray, List.getElem_cons_zero, List.getElem_cons_succ, List.setIfInBounds_toArray, List.set_cons_zero, List.set_cons_succ])
      refine' wpAnyH_take (i := 5) (v := _) rfl (by kernel_rfl) (by kernel_rfl) (by kernel_rfl) (fun _ _ _ h => h) (Or.inl ⟨by rfl, ?_⟩) hHeld ?_
      rotate_left
      · intro w hSw
        (try dsimp only at hSw)
        go_simp
        try with_reducible rfl
      (try simp only [Act.put, List.getElem_toArray, List.getElem_cons_zero, List.getElem_cons_succ, List.setIfInBounds_toArray, List.set_cons_zero, List.set_cons_succ])
      refine' wpAnyH_take (i := 6) (v := _) rfl (by kernel_rfl) (by kernel_rfl) (by kernel_rfl) (fun _ _ _ h => h) (Or.inl ⟨by rfl, ?_⟩) hHeld ?_
      rotate_left
      · intro w hSw
        (try dsimp only at hSw)
        go_simp
        try with_reducible rfl
      (try simp only [Act.put, List.getElem_toArray, List.getElem_cons_zero, List.getElem_cons_succ, List.setIfInBounds_toArray, List.set_cons_zero, List.set_cons_succ])
      refine wpAnyH_ready (rs := [7]) (by kernel_rfl) (by simp) ?_
      refine AllReadyH.cons rfl (fun K hK => ?_) AllReadyH.nil
      go_simp
      refine (K0.out _).mono ?_
      rintro e x7 ⟨rfl, rfl⟩
      have HSX := hHeld
      (try go_simp)
      clear hHeld
      refine hK.out _ _ (by first | exact HSX | exact ⟨cellB HC.out.1 (Below.refl _ _), cellB HC.out.2 (Below.refl _ _)⟩ | exact ⟨cellB HC.out.1 (Below.refl _ _).drew, cellB HC.out.2 (Below.refl _ _).drew⟩) (fun hHeld => ?_)
      clear hK K HSX
      (try simp only [Act.put, List.getElem_toArray, List.getElem_cons_zero, List.getElem_cons_succ, List.setIfInBounds_toArray, List.set_cons_zero, List.set_cons_succ])
      refine' wpAnyH_take (i := 8) (v := _) rfl (by kernel_rfl) (by kernel_rfl) (by kernel_rfl) (fun _ _ _ h => h) (Or.inl ⟨by rfl, ?_⟩) hHeld ?_
      rotate_left
      · intro w hSw
        (try dsimp only at hSw)
        go_simp
        try with_reducible rfl
      (try simp only [Act.put, List.getElem_toArray, List.getElem_cons_zero, List.getElem_cons_succ, List.setIfInBounds_toArray, List.set_cons_zero, List.set_cons_succ])
      refine' wpAnyH_take (i := 9) (v := _) rfl (by kernel_rfl) (by kernel_rfl) (by kernel_rfl) (fun _ _ _ h => h) (Or.inl ⟨by rfl, ?_⟩) hHeld ?_
      rotate_left
      · intro w hSw
        (try dsimp only at hSw)
        go_simp
        try with_reducible rfl
      (try simp only [Act.put, List.getElem_toArray, List.getElem_cons_zero, List.getElem_cons_succ, List.setIfInBounds_toArray, List.set_cons_zero, List.set_cons_succ])
      refine wpAnyH_take (i := 10) (v := undef) rfl (by kernel_rfl) (by kernel_rfl) (by kernel_rfl) (fun _ _ _ h => h) (Or.inr ⟨by kernel_rfl, rfl⟩) hHeld ?_
      (try simp only [Act.put, List.getElem_toArray, List.getElem_cons_zero, List.getElem_cons_succ, List.setIfInBounds_toArray, List.set_cons_zero, List.set_cons_succ])
      refine wpAnyH_take (i := 11) (v := undef) rfl (by kernel_rfl) (by kernel_rfl) (by kernel_rfl) (fun _ _ _ h => h) (Or.inr ⟨by kernel_rfl, rfl⟩) hHeld ?_
      (try simp only [Act.put, List.getElem_toArray, List.getElem_cons_zero, List.getElem_cons_succ, List.setIfInBounds_toArray, List.set_cons_zero, List.set_cons_succ])
      refine wpAnyH_take (i := 12) (v := undef) rfl (by kernel_rfl) (by kernel_rfl) (by kernel_rfl) (fun _ _ _ h => h) (Or.inr ⟨by kernel_rfl, rfl⟩) hHeld ?_
      (try simp only [Act.put, List.getElem_toArray, List.getElem_cons_zero, List.getElem_cons_succ, List.setIfInBounds_toArray, List.set_cons_zero, List.set_cons_succ])
      refine wpAnyH_take (i := 13) (v := undef) rfl (by kernel_rfl) (by kernel_rfl) (by kernel_rfl) (fun _ _ _ h => h) (Or.inr ⟨by kernel_rfl, rfl⟩) hHeld ?_
      (try simp only [Act.put, List.getElem_toArray, List.getElem_cons_zero, List.getElem_cons_succ, List.setIfInBounds_toArray, List.set_cons_zero, List.set_cons_succ])
      refine' wpAnyH_take (i := 14) (v := _) rfl (by kernel_rfl) (by kernel_rfl) (by kernel_rfl) (fun _ _ _ h => h) (Or.inl ⟨by rfl, ?_⟩) hHeld ?_
      rotate_left
      · intro w hSw
        (try dsimp only at hSw)
        go_simp
        try with_reducible rfl
      (try simp only [Act.put, List.getElem_toArray, List.getElem_cons_zero, List.getElem_cons_succ, List.setIfInBounds_toArray, List.set_cons_zero, List.set_cons_succ])
      refine' wpAnyH_take (i := 15) (v := _) rfl (by kernel_rfl) (by kernel_rfl) (by kernel_rfl) (fun _ _ _ h => h) (Or.inl ⟨by rfl, ?_⟩) hHeld ?_
      rotate_left
      · intro w hSw
        (try dsimp only at hSw)
        go_simp
        try with_reducible rfl
      (try simp only [Act.put, List.getElem_toArray, List.getElem_cons_zero, List.getElem_cons_succ, List.setIfInBounds_toArray, List.set_cons_zero, List.set_cons_succ])
      refine wpAnyH_take (i := 16) (v := undef) rfl (by kernel_rfl) (by kernel_rfl) (by kernel_rfl) (fun _ _ _ h => h) (Or.inr ⟨by kernel_rfl, rfl⟩) hHeld ?_
      (try simp only [Act.put, List.getElem_toArray, List.getElem_cons_zero, List.getElem_cons_succ, List.setIfInBounds_toArray, List.set_cons_zero, List.set_cons_succ])
      refine wpAnyH_take (i := 17) (v := undef) rfl (by kernel_rfl) (by kernel_rfl) (by kernel_rfl) (fun _ _ _ h => h) (Or.inr ⟨by kernel_rfl, rfl⟩) hHeld ?_
      (try simp only [Act.put, List.getElem_toArray, List.getElem_cons_zero, List.getElem_cons_succ, List.setIfInBounds_toArray, List.set_cons_zero, List.set_cons_succ])
      refine wpAnyH_take (i := 18) (v := undef) rfl (by kernel_rfl) (by kernel_rfl) (by kernel_rfl) (fun _ _ _ h => h) (Or.inr ⟨by kernel_rfl, rfl⟩) hHeld ?_
      (try simp only [Act.put, List.getElem_toArray, List.getElem_cons_zero, List.getElem_cons_succ, List.setIfInBounds_toArray, List.set_cons_zero, List.set_cons_succ])
      refine wpAnyH_take (i := 19) (v := undef) rfl (by kernel_rfl) (by kernel_rfl) (by kernel_rfl) (fun _ _ _ h => h) (Or.inr ⟨by kernel_rfl, rfl⟩) hHeld ?_
      (try simp only [Act.put, List.getElem_toArray, List.getElem_cons_zero, List.getElem_cons_succ, List.setIfInBounds_toArray, List.set_cons_zero, List.set_cons_succ])
      refine wpAnyH_take (i := 20) (v := undef) rfl (by kernel_rfl) (by kernel_rfl) (by kernel_rfl) (fun _ _ _ h => h) (Or.inr ⟨by kernel_rfl, rfl⟩) hHeld ?_
      (try simp only [Act.put, List.getElem_toArray, List.getElem_cons_zero, List.getElem_cons_succ, List.setIfInBounds_toArray, List.set_cons_zero, List.set_cons_succ])
      refine wpAnyH_take (i := 21) (v := undef) rfl (by kernel_rfl) (by kernel_rfl) (by kernel_rfl) (fun _ _ _ h => h) (Or.inr ⟨by kernel_rfl, rfl⟩) hHeld ?_
      (try simp only [Act.put, List.getElem_toArray, List.getElem_cons_zero, List.getElem_cons_succ, List.setIfInBounds_toArray, List.set_cons_zero, List.set_cons_succ])
      refine wpAnyH_take (i := 22) (v := undef) rfl (by kernel_rfl) (by kernel_rfl) (by kernel_rfl) (fun _ _ _ h => h) (Or.inr ⟨by kernel_rfl, rfl⟩) hHeld ?_
      (try simp only [Act.put, List.getElem_toArray, List.getElem_cons_zero, List.getElem_cons_succ, List.setIfInBounds_toArray, List.set_cons_zero, List.set_cons_succ])
      refine' wpAnyH_take (i := 23) (v := _) rfl (by kernel_rfl) (by kernel_rfl) (by kernel_rfl) (fun _ _ _ h => h) (Or.inl ⟨by rfl, ?_⟩) hHeld ?_
      rotate_left
      · intro w hSw
        (try dsimp only at hSw)
        go_simp
        try with_reducible rfl
      (try simp only [Act.put, List.getElem_toArray, List.getElem_cons_zero, List.getElem_cons_succ, List.setIfInBounds_toArray, List.set_cons_zero, List.set_cons_succ])
      refine' wpAnyH_take (i := 24) (v := _) rfl (by kernel_rfl) (by kernel_rfl) (by kernel_rfl) (fun _ _ _ h => h) (Or.inl ⟨by rfl, ?_⟩) hHeld ?_
      rotate_left
      · intro w hSw
        (try dsimp only at hSw)
        go_simp
        try with_reducible rfl
      (try simp only [Act.put, List.getElem_toArray, List.getElem_cons_zero, List.getElem_cons_succ, List.setIfInBounds_toArray, List.set_cons_zero, List.set_cons_succ])
      refine wpAnyH_done (by kernel_rfl) ?_ _
      (try simp only [Act.put, List.getElem_toArray, List.getElem_cons_zero, List.getElem_cons_succ, List.setIfInBounds_toArray, List.set_cons_zero, List.set_cons_succ])
      clear hHeld
      go_wp2_with fail
      go_ret
      exact ⟨by rw [HR.out]; show _ = Ending.returned (.bool (inZ (-1000000000000) p0 1000000000000 && inZ (-1000000000000) p1 1000000000000 && decide (p1 < p0))); rw [← HZ0.out]; rfl, (Below.refl _ _).drew⟩
    · cases Z1
      · go_enter Tryd.func35, Tryd.ntmps35
        go_wp2_with fail
        refine wp_region_held_drew (S := fun w' => w'.cell? ⟨pb, po, none⟩ = some (.int .i64 p0) ∧ w'.cell? ⟨pb, po + 1, none⟩ = some (.int .i64 p1)) (by kernel_rfl) HC.out (fun hHeld => ?_)
        refine' wpAnyH_take (i := 0) (v := _) rfl (by kernel_rfl) (by kernel_rfl) (by kernel_rfl) (fun _ _ _ h => h) (Or.inl ⟨by rfl, ?_⟩) hHeld ?_
        rotate_left
        · intro w hSw
          (try dsimp only at hSw)
          go_simp
          try with_reducible rfl
        (try simp only [Act.put, List.getElem_toArray, List.getElem_cons_zero, List.getElem_cons_succ, List.setIfInBounds_toArray, List.set_cons_zero, List.set_cons_succ])
        refine' wpAnyH_take (i := 1) (v := _) rfl (by kernel_rfl) (by kernel_rfl) (by kernel_rfl) (fun _ _ _ h => h) (Or.inl ⟨by rfl, ?_⟩) hHeld ?_
        rotate_left
        · intro w hSw
          (try dsimp only at hSw)
          go_simp
          try with_reducible rfl
        (try simp only [Act.put, List.getElem_toArray, List.getElem_cons_zero, List.getElem_cons_succ, List.setIfInBounds_toArray, List.set_cons_zero, List.set_cons_succ])
        refine' wpAnyH_take (i := 2) (v := _) rfl (by kernel_rfl) (by kernel_rfl) (by kernel_rfl) (fun _ _ _ h => h) (Or.inl ⟨by rfl, ?_⟩) hHeld ?_
        rotate_left
        · intro w hSw
          (try dsimp only at hSw)
          go_simp
          try with_reducible rfl
        (try simp only [Act.put, List.getElem_toArray, List.getElem_cons_zero, List.getElem_cons_succ, List.setIfInBounds_toArray, List.set_cons_zero, List.set_cons_succ])
        refine' wpAnyH_take (i := 3) (v := _) rfl (by kernel_rfl) (by kernel_rfl) (by kernel_rfl) (fun _ _ _ h => h) (Or.inl ⟨by rfl, ?_⟩) hHeld ?_
        rotate_left
        · intro w hSw
          (try dsimp only at hSw)
          go_simp
          try with_reducible rfl
        (try simp only [Act.put, List.getElem_toArray, List.getElem_cons_zero, List.getElem_cons_succ, List.setIfInBounds_toArray, List.set_cons_zero, List.set_cons_succ])
        refine' wpAnyH_take (i := 4) (v := _) rfl (by kernel_rfl) (by kernel_rfl) (by kernel_rfl) (fun _ _ _ h => h) (Or.inl ⟨by rfl, ?_⟩) hHeld ?_
        rotate_left
        · intro w hSw
          (try dsimp only at hSw)
          go_simp
          try with_reducible rfl
        (try simp only [Act.put, List.getElem_toArray, List.getElem_cons_zero, List.getElem_cons_succ, List.setIfInBounds_toArray, List.set_cons_zero, List.set_cons_succ])
        refine' wpAnyH_take (i := 5) (v := _) rfl (by kernel_rfl) (by kernel_rfl) (by kernel_rfl) (fun _ _ _ h => h) (Or.inl ⟨by rfl, ?_⟩) hHeld ?_
        rotate_left
        · intro w hSw
          (try dsimp only at hSw)
          go_simp
          try with_reducible rfl
        (try simp only [Act.put, List.getElem_toArray, List.getElem_cons_zero, List.getElem_cons_succ, List.setIfInBounds_toArray, List.set_cons_zero, List.set_cons_succ])
        refine' wpAnyH_take (i := 6) (v := _) rfl (by kernel_rfl) (by kernel_rfl) (by kernel_rfl) (fun _ _ _ h => h) (Or.inl ⟨by rfl, ?_⟩) hHeld ?_
        rotate_left
        · intro w hSw
          (try dsimp only at hSw)
          go_simp
          try with_reducible rfl
        (try simp only [Act.put, List.getElem_toArray, List.getElem_cons_zero, List.getElem_cons_succ, List.setIfInBounds_toArray, List.set_cons_zero, List.set_cons_succ])
        refine wpAnyH_ready (rs := [7]) (by kernel_rfl) (by simp) ?_
        refine AllReadyH.cons rfl (fun K hK => ?_) AllReadyH.nil
        go_simp
        refine (K0.out _).mono ?_
        rintro e x7 ⟨rfl, rfl⟩
        have HSX := hHeld
        (try go_simp)
        clear hHeld
        refine hK.out _ _ (by first | exact HSX | exact ⟨cellB HC.out.1 (Below.refl _ _), cellB HC.out.2 (Below.refl _ _)⟩ | exact ⟨cellB HC.out.1 (Below.refl _ _).drew, cellB HC.out.2 (Below.refl _ _).drew⟩) (fun hHeld => ?_)
        clear hK K HSX
        (try simp only [Act.put, List.getElem_toArray, List.getElem_cons_zero, List.getElem_cons_succ, List.setIfInBounds_toArray, List.set_cons_zero, List.set_cons_succ])
        refine' wpAnyH_take (i := 8) (v := _) rfl (by kernel_rfl) (by kernel_rfl) (by kernel_rfl) (fun _ _ _ h => h) (Or.inl ⟨by rfl, ?_⟩) hHeld ?_
        rotate_left
        · intro w hSw
          (try dsimp only at hSw)
          go_simp
          try with_reducible rfl
        (try simp only [Act.put, List.getElem_toArray, List.getElem_cons_zero, List.getElem_cons_succ, List.setIfInBounds_toArray, List.set_cons_zero, List.set_cons_succ])
        refine' wpAnyH_take (i := 9) (v := _) rfl (by kernel_rfl) (by kernel_rfl) (by kernel_rfl) (fun _ _ _ h => h) (Or.inl ⟨by rfl, ?_⟩) hHeld ?_
        rotate_left
        · intro w hSw
          (try dsimp only at hSw)
          go_simp
          try with_reducible rfl
        (try simp only [Act.put, List.getElem_toArray, List.getElem_cons_zero, List.getElem_cons_succ, List.setIfInBounds_toArray, List.set_cons_zero, List.set_cons_succ])
        refine' wpAnyH_take (i := 10) (v := _) rfl (by kernel_rfl) (by kernel_rfl) (by kernel_rfl) (fun _ _ _ h => h) (Or.inl ⟨by rfl, ?_⟩) hHeld ?_
        rotate_left
        · intro w hSw
          (try dsimp only at hSw)
          go_simp
          try with_reducible rfl
        (try simp only [Act.put, List.getElem_toArray, List.getElem_cons_zero, List.getElem_cons_succ, List.setIfInBounds_toArray, List.set_cons_zero, List.set_cons_succ])
        refine' wpAnyH_take (i := 11) (v := _) rfl (by kernel_rfl) (by kernel_rfl) (by kernel_rfl) (fun _ _ _ h => h) (Or.inl ⟨by rfl, ?_⟩) hHeld ?_
        rotate_left
        · intro w hSw
          (try dsimp only at hSw)
          go_simp
          try with_reducible rfl
        (try simp only [Act.put, List.getElem_toArray, List.getElem_cons_zero, List.getElem_cons_succ, List.setIfInBounds_toArray, List.set_cons_zero, List.set_cons_succ])
        refine' wpAnyH_take (i := 12) (v := _) rfl (by kernel_rfl) (by kernel_rfl) (by kernel_rfl) (fun _ _ _ h => h) (Or.inl ⟨by rfl, ?_⟩) hHeld ?_
        rotate_left
        · intro w hSw
          (try dsimp only at hSw)
          go_simp
          try with_reducible rfl
        (try simp only [Act.put, List.getElem_toArray, List.getElem_cons_zero, List.getElem_cons_succ, List.setIfInBounds_toArray, List.set_cons_zero, List.set_cons_succ])
        refine wpAnyH_ready (rs := [13]) (by kernel_rfl) (by simp) ?_
        refine AllReadyH.cons rfl (fun K hK => ?_) AllReadyH.nil
        go_simp
        refine (K1.out _).mono ?_
        rintro e x13 ⟨rfl, rfl⟩
        have HSX := hHeld
        (try go_simp)
        clear hHeld
        refine hK.out _ _ (by first | exact HSX | exact ⟨cellB HC.out.1 (Below.refl _ _), cellB HC.out.2 (Below.refl _ _)⟩ | exact ⟨cellB HC.out.1 (Below.refl _ _).drew, cellB HC.out.2 (Below.refl _ _).drew⟩) (fun hHeld => ?_)
        clear hK K HSX
        (try simp only [Act.put, List.getElem_toArray, List.getElem_cons_zero, List.getElem_cons_succ, List.setIfInBounds_toArray, List.set_cons_zero, List.set_cons_succ])
        refine' wpAnyH_take (i := 14) (v := _) rfl (by kernel_rfl) (by kernel_rfl) (by kernel_rfl) (fun _ _ _ h => h) (Or.inl ⟨by rfl, ?_⟩) hHeld ?_
        rotate_left
        · intro w hSw
          (try dsimp only at hSw)
          go_simp
          try with_reducible rfl
        (try simp only [Act.put, List.getElem_toArray, List.getElem_cons_zero, List.getElem_cons_succ, List.setIfInBounds_toArray, List.set_cons_zero, List.set_cons_succ])
        refine' wpAnyH_take (i := 15) (v := _) rfl (by kernel_rfl) (by kernel_rfl) (by kernel_rfl) (fun _ _ _ h => h) (Or.inl ⟨by rfl, ?_⟩) hHeld ?_
        rotate_left
        · intro w hSw
          (try dsimp only at hSw)
          go_simp
          try with_reducible rfl
        (try simp only [Act.put, List.getElem_toArray, List.getElem_cons_zero, List.getElem_cons_succ, List.setIfInBounds_toArray, List.set_cons_zero, List.set_cons_succ])
        refine wpAnyH_take (i := 16) (v := undef) rfl (by kernel_rfl) (by kernel_rfl) (by kernel_rfl) (fun _ _ _ h => h) (Or.inr ⟨by kernel_rfl, rfl⟩) hHeld ?_
        (try simp only [Act.put, List.getElem_toArray, List.getElem_cons_zero, List.getElem_cons_succ, List.setIfInBounds_toArray, List.set_cons_zero, List.set_cons_succ])
        refine wpAnyH_take (i := 17) (v := undef) rfl (by kernel_rfl) (by kernel_rfl) (by kernel_rfl) (fun _ _ _ h => h) (Or.inr ⟨by kernel_rfl, rfl⟩) hHeld ?_
        (try simp only [Act.put, List.getElem_toArray, List.getElem_cons_zero, List.getElem_cons_succ, List.setIfInBounds_toArray, List.set_cons_zero, List.set_cons_succ])
        refine wpAnyH_take (i := 18) (v := undef) rfl (by kernel_rfl) (by kernel_rfl) (by kernel_rfl) (fun _ _ _ h => h) (Or.inr ⟨by kernel_rfl, rfl⟩) hHeld ?_
        (try simp only [Act.put, List.getElem_toArray, List.getElem_cons_zero, List.getElem_cons_succ, List.setIfInBounds_toArray, List.set_cons_zero, List.set_cons_succ])
        refine wpAnyH_take (i := 19) (v := undef) rfl (by kernel_rfl) (by kernel_rfl) (by kernel_rfl) (fun _ _ _ h => h) (Or.inr ⟨by kernel_rfl, rfl⟩) hHeld ?_
        (try simp only [Act.put, List.getElem_toArray, List.getElem_cons_zero, List.getElem_cons_succ, List.setIfInBounds_toArray, List.set_cons_zero, List.set_cons_succ])
        refine wpAnyH_take (i := 20) (v := undef) rfl (by kernel_rfl) (by kernel_rfl) (by kernel_rfl) (fun _ _ _ h => h) (Or.inr ⟨by kernel_rfl, rfl⟩) hHeld ?_
        (try simp only [Act.put, List.getElem_toArray, List.getElem_cons_zero, List.getElem_cons_succ, List.setIfInBounds_toArray, List.set_cons_zero, List.set_cons_succ])
        refine wpAnyH_take (i := 21) (v := undef) rfl (by kernel_rfl) (by kernel_rfl) (by kernel_rfl) (fun _ _ _ h => h) (Or.inr ⟨by kernel_rfl, rfl⟩) hHeld ?_
        (try simp only [Act.put, List.getElem_toArray, List.getElem_cons_zero, List.getElem_cons_succ, List.setIfInBounds_toArray, List.set_cons_zero, List.set_cons_succ])
        refine wpAnyH_take (i := 22) (v := undef) rfl (by kernel_rfl) (by kernel_rfl) (by kernel_rfl) (fun _ _ _ h => h) (Or.inr ⟨by kernel_rfl, rfl⟩) hHeld ?_
        (try simp only [Act.put, List.getElem_toArray, List.getElem_cons_zero, List.getElem_cons_succ, List.setIfInBounds_toArray, List.set_cons_zero, List.set_cons_succ])
        refine' wpAnyH_take (i := 23) (v := _) rfl (by kernel_rfl) (by kernel_rfl) (by kernel_rfl) (fun _ _ _ h => h) (Or.inl ⟨by rfl, ?_⟩) hHeld ?_
        rotate_left
        · intro w hSw
          (try dsimp only at hSw)
          go_simp
          try with_reducible rfl
        (try simp only [Act.put, List.getElem_toArray, List.getElem_cons_zero, List.getElem_cons_succ, List.setIfInBounds_toArray, List.set_cons_zero, List.set_cons_succ])
        refine' wpAnyH_take (i := 24) (v := _) rfl (by kernel_rfl) (by kernel_rfl) (by kernel_rfl) (fun _ _ _ h => h) (Or.inl ⟨by rfl, ?_⟩) hHeld ?_
        rotate_left
        · intro w hSw
          (try dsimp only at hSw)
          go_simp
          try with_reducible rfl
        (try simp only [Act.put, List.getElem_toArray, List.getElem_cons_zero, List.getElem_cons_succ, List.setIfInBounds_toArray, List.set_cons_zero, List.set_cons_succ])
        refine wpAnyH_done (by kernel_rfl) ?_ _
        (try simp only [Act.put, List.getElem_toArray, List.getElem_cons_zero, List.getElem_cons_succ, List.setIfInBounds_toArray, List.set_cons_zero, List.set_cons_succ])
        clear hHeld
        go_wp2_with fail
        go_ret
        exact ⟨by rw [HR.out]; show _ = Ending.returned (.bool (inZ (-1000000000000) p0 1000000000000 && inZ (-1000000000000) p1 1000000000000 && decide (p1 < p0))); rw [← HZ0.out, ← HZ1.out]; rfl, (Below.refl _ _).drew⟩
      · go_enter Tryd.func35, Tryd.ntmps35
        go_wp2_with fail
        refine wp_region_held_drew (S := fun w' => w'.cell? ⟨pb, po, none⟩ = some (.int .i64 p0) ∧ w'.cell? ⟨pb, po + 1, none⟩ = some (.int .i64 p1)) (by kernel_rfl) HC.out (fun hHeld => ?_)
        refine' wpAnyH_take (i := 0) (v := _) rfl (by kernel_rfl) (by kernel_rfl) (by kernel_rfl) (fun _ _ _ h => h) (Or.inl ⟨by rfl, ?_⟩) hHeld ?_
        rotate_left
        · intro w hSw
          (try dsimp only at hSw)
          go_simp
          try with_reducible rfl
        (try simp only [Act.put, List.getElem_toArray, List.getElem_cons_zero, List.getElem_cons_succ, List.setIfInBounds_toArray, List.set_cons_zero, List.set_cons_succ])
        refine' wpAnyH_take (i := 1) (v := _) rfl (by kernel_rfl) (by kernel_rfl) (by kernel_rfl) (fun _ _ _ h => h) (Or.inl ⟨by rfl, ?_⟩) hHeld ?_
        rotate_left
        · intro w hSw
          (try dsimp only at hSw)
          go_simp
          try with_reducible rfl
        (try simp only [Act.put, List.getElem_toArray, List.getElem_cons_zero, List.getElem_cons_succ, List.setIfInBounds_toArray, List.set_cons_zero, List.set_cons_succ])
        refine' wpAnyH_take (i := 2) (v := _) rfl (by kernel_rfl) (by kernel_rfl) (by kernel_rfl) (fun _ _ _ h => h) (Or.inl ⟨by rfl, ?_⟩) hHeld ?_
        rotate_left
        · intro w hSw
          (try dsimp only at hSw)
          go_simp
          try with_reducible rfl
        (try simp only [Act.put, List.getElem_toArray, List.getElem_cons_zero, List.getElem_cons_succ, List.setIfInBounds_toArray, List.set_cons_zero, List.set_cons_succ])
        refine' wpAnyH_take (i := 3) (v := _) rfl (by kernel_rfl) (by kernel_rfl) (by kernel_rfl) (fun _ _ _ h => h) (Or.inl ⟨by rfl, ?_⟩) hHeld ?_
        rotate_left
        · intro w hSw
          (try dsimp only at hSw)
          go_simp
          try with_reducible rfl
        (try simp only [Act.put, List.getElem_toArray, List.getElem_cons_zero, List.getElem_cons_succ, List.setIfInBounds_toArray, List.set_cons_zero, List.set_cons_succ])
        refine' wpAnyH_take (i := 4) (v := _) rfl (by kernel_rfl) (by kernel_rfl) (by kernel_rfl) (fun _ _ _ h => h) (Or.inl ⟨by rfl, ?_⟩) hHeld ?_
        rotate_left
        · intro w hSw
          (try dsimp only at hSw)
          go_simp
          try with_reducible rfl
        (try simp only [Act.put, List.getElem_toArray, List.getElem_cons_zero, List.getElem_cons_succ, List.setIfInBounds_toArray, List.set_cons_zero, List.set_cons_succ])
        refine' wpAnyH_take (i := 5) (v := _) rfl (by kernel_rfl) (by kernel_rfl) (by kernel_rfl) (fun _ _ _ h => h) (Or.inl ⟨by rfl, ?_⟩) hHeld ?_
        rotate_left
        · intro w hSw
          (try dsimp only at hSw)
          go_simp
          try with_reducible rfl
        (try simp only [Act.put, List.getElem_toArray, List.getElem_cons_zero, List.getElem_cons_succ, List.setIfInBounds_toArray, List.set_cons_zero, List.set_cons_succ])
        refine' wpAnyH_take (i := 6) (v := _) rfl (by kernel_rfl) (by kernel_rfl) (by kernel_rfl) (fun _ _ _ h => h) (Or.inl ⟨by rfl, ?_⟩) hHeld ?_
        rotate_left
        · intro w hSw
          (try dsimp only at hSw)
          go_simp
          try with_reducible rfl
        (try simp only [Act.put, List.getElem_toArray, List.getElem_cons_zero, List.getElem_cons_succ, List.setIfInBounds_toArray, List.set_cons_zero, List.set_cons_succ])
        refine wpAnyH_ready (rs := [7]) (by kernel_rfl) (by simp) ?_
        refine AllReadyH.cons rfl (fun K hK => ?_) AllReadyH.nil
        go_simp
        refine (K0.out _).mono ?_
        rintro e x7 ⟨rfl, rfl⟩
        have HSX := hHeld
        (try go_simp)
        clear hHeld
        refine hK.out _ _ (by first | exact HSX | exact ⟨cellB HC.out.1 (Below.refl _ _), cellB HC.out.2 (Below.refl _ _)⟩ | exact ⟨cellB HC.out.1 (Below.refl _ _).drew, cellB HC.out.2 (Below.refl _ _).drew⟩) (fun hHeld => ?_)
        clear hK K HSX
        (try simp only [Act.put, List.getElem_toArray, List.getElem_cons_zero, List.getElem_cons_succ, List.setIfInBounds_toArray, List.set_cons_zero, List.set_cons_succ])
        refine' wpAnyH_take (i := 8) (v := _) rfl (by kernel_rfl) (by kernel_rfl) (by kernel_rfl) (fun _ _ _ h => h) (Or.inl ⟨by rfl, ?_⟩) hHeld ?_
        rotate_left
        · intro w hSw
          (try dsimp only at hSw)
          go_simp
          try with_reducible rfl
        (try simp only [Act.put, List.getElem_toArray, List.getElem_cons_zero, List.getElem_cons_succ, List.setIfInBounds_toArray, List.set_cons_zero, List.set_cons_succ])
        refine' wpAnyH_take (i := 9) (v := _) rfl (by kernel_rfl) (by kernel_rfl) (by kernel_rfl) (fun _ _ _ h => h) (Or.inl ⟨by rfl, ?_⟩) hHeld ?_
        rotate_left
        · intro w hSw
          (try dsimp only at hSw)
          go_simp
          try with_reducible rfl
        (try simp only [Act.put, List.getElem_toArray, List.getElem_cons_zero, List.getElem_cons_succ, List.setIfInBounds_toArray, List.set_cons_zero, List.set_cons_succ])
        refine' wpAnyH_take (i := 10) (v := _) rfl (by kernel_rfl) (by kernel_rfl) (by kernel_rfl) (fun _ _ _ h => h) (Or.inl ⟨by rfl, ?_⟩) hHeld ?_
        rotate_left
        · intro w hSw
          (try dsimp only at hSw)
          go_simp
          try with_reducible rfl
        (try simp only [Act.put, List.getElem_toArray, List.getElem_cons_zero, List.getElem_cons_succ, List.setIfInBounds_toArray, List.set_cons_zero, List.set_cons_succ])
        refine' wpAnyH_take (i := 11) (v := _) rfl (by kernel_rfl) (by kernel_rfl) (by kernel_rfl) (fun _ _ _ h => h) (Or.inl ⟨by rfl, ?_⟩) hHeld ?_
        rotate_left
        · intro w hSw
          (try dsimp only at hSw)
          go_simp
          try with_reducible rfl
        (try simp only [Act.put, List.getElem_toArray, List.getElem_cons_zero, List.getElem_cons_succ, List.setIfInBounds_toArray, List.set_cons_zero, List.set_cons_succ])
        refine' wpAnyH_take (i := 12) (v := _) rfl (by kernel_rfl) (by kernel_rfl) (by kernel_rfl) (fun _ _ _ h => h) (Or.inl ⟨by rfl, ?_⟩) hHeld ?_
        rotate_left
        · intro w hSw
          (try dsimp only at hSw)
          go_simp
          try with_reducible rfl
        (try simp only [Act.put, List.getElem_toArray, List.getElem_cons_zero, List.getElem_cons_succ, List.setIfInBounds_toArray, List.set_cons_zero, List.set_cons_succ])
        refine wpAnyH_ready (rs := [13]) (by kernel_rfl) (by simp) ?_
        refine AllReadyH.cons rfl (fun K hK => ?_) AllReadyH.nil
        go_simp
        refine (K1.out _).mono ?_
        rintro e x13 ⟨rfl, rfl⟩
        have HSX := hHeld
        (try go_simp)
        clear hHeld
        refine hK.out _ _ (by first | exact HSX | exact ⟨cellB HC.out.1 (Below.refl _ _), cellB HC.out.2 (Below.refl _ _)⟩ | exact ⟨cellB HC.out.1 (Below.refl _ _).drew, cellB HC.out.2 (Below.refl _ _).drew⟩) (fun hHeld => ?_)
        clear hK K HSX
        (try simp only [Act.put, List.getElem_toArray, List.getElem_cons_zero, List.getElem_cons_succ, List.setIfInBounds_toArray, List.set_cons_zero, List.set_cons_succ])
        refine' wpAnyH_take (i := 14) (v := _) rfl (by kernel_rfl) (by kernel_rfl) (by kernel_rfl) (fun _ _ _ h => h) (Or.inl ⟨by rfl, ?_⟩) hHeld ?_
        rotate_left
        · intro w hSw
          (try dsimp only at hSw)
          go_simp
          try with_reducible rfl
        (try simp only [Act.put, List.getElem_toArray, List.getElem_cons_zero, List.getElem_cons_succ, List.setIfInBounds_toArray, List.set_cons_zero, List.set_cons_succ])
        refine' wpAnyH_take (i := 15) (v := _) rfl (by kernel_rfl) (by kernel_rfl) (by kernel_rfl) (fun _ _ _ h => h) (Or.inl ⟨by rfl, ?_⟩) hHeld ?_
        rotate_left
        · intro w hSw
          (try dsimp only at hSw)
          go_simp
          try with_reducible rfl
        (try simp only [Act.put, List.getElem_toArray, List.getElem_cons_zero, List.getElem_cons_succ, List.setIfInBounds_toArray, List.set_cons_zero, List.set_cons_succ])
        refine' wpAnyH_take (i := 16) (v := _) rfl (by kernel_rfl) (by kernel_rfl) (by kernel_rfl) (fun _ _ _ h => h) (Or.inl ⟨by rfl, ?_⟩) hHeld ?_
        rotate_left
        · intro w hSw
          (try dsimp only at hSw)
          go_simp
          try with_reducible rfl
        (try simp only [Act.put, List.getElem_toArray, List.getElem_cons_zero, List.getElem_cons_succ, List.setIfInBounds_toArray, List.set_cons_zero, List.set_cons_succ])
        refine' wpAnyH_take (i := 17) (v := _) rfl (by kernel_rfl) (by kernel_rfl) (by kernel_rfl) (fun _ _ _ h => h) (Or.inl ⟨by rfl, ?_⟩) hHeld ?_
        rotate_left
        · intro w hSw
          (try dsimp only at hSw)
          go_simp
          try with_reducible rfl
        (try simp only [Act.put, List.getElem_toArray, List.getElem_cons_zero, List.getElem_cons_succ, List.setIfInBounds_toArray, List.set_cons_zero, List.set_cons_succ])
        refine' wpAnyH_take (i := 18) (v := _) rfl (by kernel_rfl) (by kernel_rfl) (by kernel_rfl) (fun _ _ _ h => h) (Or.inl ⟨by rfl, ?_⟩) hHeld ?_
        rotate_left
        · intro w hSw
          (try dsimp only at hSw)
          go_simp
          try with_reducible rfl
        (try simp only [Act.put, List.getElem_toArray, List.getElem_cons_zero, List.getElem_cons_succ, List.setIfInBounds_toArray, List.set_cons_zero, List.set_cons_succ])
        refine' wpAnyH_take (i := 19) (v := _) rfl (by kernel_rfl) (by kernel_rfl) (by kernel_rfl) (fun _ _ _ h => h) (Or.inl ⟨by rfl, ?_⟩) hHeld ?_
        rotate_left
        · intro w hSw
          (try dsimp only at hSw)
          go_simp
          try with_reducible rfl
        (try simp only [Act.put, List.getElem_toArray, List.getElem_cons_zero, List.getElem_cons_succ, List.setIfInBounds_toArray, List.set_cons_zero, List.set_cons_succ])
        refine' wpAnyH_take (i := 20) (v := _) rfl (by kernel_rfl) (by kernel_rfl) (by kernel_rfl) (fun _ _ _ h => h) (Or.inl ⟨by rfl, ?_⟩) hHeld ?_
        rotate_left
        · intro w hSw
          (try dsimp only at hSw)
          go_simp
          try with_reducible rfl
        (try simp only [Act.put, List.getElem_toArray, List.getElem_cons_zero, List.getElem_cons_succ, List.setIfInBounds_toArray, List.set_cons_zero, List.set_cons_succ])
        refine' wpAnyH_take (i := 21) (v := _) rfl (by kernel_rfl) (by kernel_rfl) (by kernel_rfl) (fun _ _ _ h => h) (Or.inl ⟨by rfl, ?_⟩) hHeld ?_
        rotate_left
        · intro w hSw
          (try dsimp only at hSw)
          go_simp
          try with_reducible rfl
        (try simp only [Act.put, List.getElem_toArray, List.getElem_cons_zero, List.getElem_cons_succ, List.setIfInBounds_toArray, List.set_cons_zero, List.set_cons_succ])
        refine' wpAnyH_take (i := 22) (v := _) rfl (by kernel_rfl) (by kernel_rfl) (by kernel_rfl) (fun _ _ _ h => h) (Or.inl ⟨by rfl, ?_⟩) hHeld ?_
        rotate_left
        · intro w hSw
          (try dsimp only at hSw)
          go_simp
          try with_reducible rfl
        (try simp only [Act.put, List.getElem_toArray, List.getElem_cons_zero, List.getElem_cons_succ, List.setIfInBounds_toArray, List.set_cons_zero, List.set_cons_succ])
        refine' wpAnyH_take (i := 23) (v := _) rfl (by kernel_rfl) (by kernel_rfl) (by kernel_rfl) (fun _ _ _ h => h) (Or.inl ⟨by rfl, ?_⟩) hHeld ?_
        rotate_left
        · intro w hSw
          (try dsimp only at hSw)
          go_simp
          try with_reducible rfl
        (try simp only [Act.put, List.getElem_toArray, List.getElem_cons_zero, List.getElem_cons_succ, List.setIfInBounds_toArray, List.set_cons_zero, List.set_cons_succ])
        refine' wpAnyH_take (i := 24) (v := _) rfl (by kernel_rfl) (by kernel_rfl) (by kernel_rfl) (fun _ _ _ h => h) (Or.inl ⟨by rfl, ?_⟩) hHeld ?_
        rotate_left
        · intro w hSw
          (try dsimp only at hSw)
          go_simp
          try with_reducible rfl
        (try simp only [Act.put, List.getElem_toArray, List.getElem_cons_zero, List.getElem_cons_succ, List.setIfInBounds_toArray, List.set_cons_zero, List.set_cons_succ])
        refine wpAnyH_done (by kernel_rfl) ?_ _
        (try simp only [Act.put, List.getElem_toArray, List.getElem_cons_zero, List.getElem_cons_succ, List.setIfInBounds_toArray, List.set_cons_zero, List.set_cons_succ])
        clear hHeld
        go_wp2_with fail
        go_ret
        exact ⟨by rw [HR.out]; show _ = Ending.returned (.bool (inZ (-1000000000000) p0 1000000000000 && inZ (-1000000000000) p1 1000000000000 && decide (p1 < p0))); rw [← HZ0.out, ← HZ1.out]; rfl, (Below.refl _ _).drew⟩
  · have HF := Lib.hid (show form_hyst ps = false by unfold form_hyst; split; exact absurd rfl hl; rfl)
    obtain ⟨R, hR⟩ : ∃ x, x = form_hyst ps := ⟨_, rfl⟩
    rw [← hR] at HF ⊢
    obtain ⟨M, hM⟩ : ∃ M, M = ps.length := ⟨_, rfl⟩
    have m63 : M ≤ 9223372036854775807 := by rw [hM]; exact hps.2.1
    rw [← hM] at hl ⊢
    have hl2 : ((M : Int) == 2) = false := by rw [beq_eq_false_iff_ne]; omega
    have HC := Lib.hid (show True from trivial)
    clear hM hR hps hl
    go_enter Tryd.func35, Tryd.ntmps35
    go_wp2_with fail
    refine wp_region_held_drew (S := fun w' => True) (by kernel_rfl) HC.out (fun hHeld => ?_)
    refine' wpAnyH_take (i := 0) (v := _) rfl (by kernel_rfl) (by kernel_rfl) (by kernel_rfl) (fun _ _ _ h => h) (Or.inl ⟨by rfl, ?_⟩) hHeld ?_
    rotate_left
    · intro w hSw
      (try dsimp only at hSw)
      go_simp
      try with_reducible rfl
    (try simp only [Act.put, List.getElem_toArray, List.getElem_cons_zero, List.getElem_cons_succ, List.setIfInBounds_toArray, List.set_cons_zero, List.set_cons_succ])
    refine' wpAnyH_take (i := 1) (v := _) rfl (by kernel_rfl) (by kernel_rfl) (by kernel_rfl) (fun _ _ _ h => h) (Or.inl ⟨by rfl, ?_⟩) hHeld ?_
    rotate_left
    · intro w hSw
      (try dsimp only at hSw)
      go_simp
      try with_reducible rfl
    (try simp only [Act.put, List.getElem_toArray, List.getElem_cons_zero, List.getElem_cons_succ, List.setIfInBounds_toArray, List.set_cons_zero, List.set_cons_succ])
    refine' wpAnyH_take (i := 2) (v := _) rfl (by kernel_rfl) (by kernel_rfl) (by kernel_rfl) (fun _ _ _ h => h) (Or.inl ⟨by rfl, ?_⟩) hHeld ?_
    rotate_left
    · intro w hSw
      (try dsimp only at hSw)
      go_simp
      try with_reducible rfl
    (try simp only [Act.put, List.getElem_toArray, List.getElem_cons_zero, List.getElem_cons_succ, List.setIfInBounds_toArray, List.set_cons_zero, List.set_cons_succ])
    refine' wpAnyH_take (i := 3) (v := _) rfl (by kernel_rfl) (by kernel_rfl) (by kernel_rfl) (fun _ _ _ h => h) (Or.inl ⟨by rfl, ?_⟩) hHeld ?_
    rotate_left
    · intro w hSw
      (try dsimp only at hSw)
      go_simp
      try with_reducible rfl
    (try simp only [Act.put, List.getElem_toArray, List.getElem_cons_zero, List.getElem_cons_succ, List.setIfInBounds_toArray, List.set_cons_zero, List.set_cons_succ])
    refine wpAnyH_take (i := 4) (v := undef) rfl (by kernel_rfl) (by kernel_rfl) (by kernel_rfl) (fun _ _ _ h => h) (Or.inr ⟨by kernel_rfl, rfl⟩) hHeld ?_
    (try simp only [Act.put, List.getElem_toArray, List.getElem_cons_zero, List.getElem_cons_succ, List.setIfInBounds_toArray, List.set_cons_zero, List.set_cons_succ])
    refine wpAnyH_take (i := 5) (v := undef) rfl (by kernel_rfl) (by kernel_rfl) (by kernel_rfl) (fun _ _ _ h => h) (Or.inr ⟨by kernel_rfl, rfl⟩) hHeld ?_
    (try simp only [Act.put, List.getElem_toArray, List.getElem_cons_zero, List.getElem_cons_succ, List.setIfInBounds_toArray, List.set_cons_zero, List.set_cons_succ])
    refine wpAnyH_take (i := 6) (v := undef) rfl (by kernel_rfl) (by kernel_rfl) (by kernel_rfl) (fun _ _ _ h => h) (Or.inr ⟨by kernel_rfl, rfl⟩) hHeld ?_
    (try simp only [Act.put, List.getElem_toArray, List.getElem_cons_zero, List.getElem_cons_succ, List.setIfInBounds_toArray, List.set_cons_zero, List.set_cons_succ])
    refine wpAnyH_take (i := 7) (v := undef) rfl (by kernel_rfl) (by kernel_rfl) (by kernel_rfl) (fun _ _ _ h => h) (Or.inr ⟨by kernel_rfl, rfl⟩) hHeld ?_
    (try simp only [Act.put, List.getElem_toArray, List.getElem_cons_zero, List.getElem_cons_succ, List.setIfInBounds_toArray, List.set_cons_zero, List.set_cons_succ])
    refine' wpAnyH_take (i := 8) (v := _) rfl (by kernel_rfl) (by kernel_rfl) (by kernel_rfl) (fun _ _ _ h => h) (Or.inl ⟨by rfl, ?_⟩) hHeld ?_
    rotate_left
    · intro w hSw
      (try dsimp only at hSw)
      go_simp
      try with_reducible rfl
    (try simp only [Act.put, List.getElem_toArray, List.getElem_cons_zero, List.getElem_cons_succ, List.setIfInBounds_toArray, List.set_cons_zero, List.set_cons_succ])
    refine' wpAnyH_take (i := 9) (v := _) rfl (by kernel_rfl) (by kernel_rfl) (by kernel_rfl) (fun _ _ _ h => h) (Or.inl ⟨by rfl, ?_⟩) hHeld ?_
    rotate_left
    · intro w hSw
      (try dsimp only at hSw)
      go_simp
      try with_reducible rfl
    (try simp only [Act.put, List.getElem_toArray, List.getElem_cons_zero, List.getElem_cons_succ, List.setIfInBounds_toArray, List.set_cons_zero, List.set_cons_succ])
    refine wpAnyH_take (i := 10) (v := undef) rfl (by kernel_rfl) (by kernel_rfl) (by kernel_rfl) (fun _ _ _ h => h) (Or.inr ⟨by kernel_rfl, rfl⟩) hHeld ?_
    (try simp only [Act.put, List.getElem_toArray, List.getElem_cons_zero, List.getElem_cons_succ, List.setIfInBounds_toArray, List.set_cons_zero, List.set_cons_succ])
    refine wpAnyH_take (i := 11) (v := undef) rfl (by kernel_rfl) (by kernel_rfl) (by kernel_rfl) (fun _ _ _ h => h) (Or.inr ⟨by kernel_rfl, rfl⟩) hHeld ?_
    (try simp only [Act.put, List.getElem_toArray, List.getElem_cons_zero, List.getElem_cons_succ, List.setIfInBounds_toArray, List.set_cons_zero, List.set_cons_succ])
    refine wpAnyH_take (i := 12) (v := undef) rfl (by kernel_rfl) (by kernel_rfl) (by kernel_rfl) (fun _ _ _ h => h) (Or.inr ⟨by kernel_rfl, rfl⟩) hHeld ?_
    (try simp only [Act.put, List.getElem_toArray, List.getElem_cons_zero, List.getElem_cons_succ, List.setIfInBounds_toArray, List.set_cons_zero, List.set_cons_succ])
    refine wpAnyH_take (i := 13) (v := undef) rfl (by kernel_rfl) (by kernel_rfl) (by kernel_rfl) (fun _ _ _ h => h) (Or.inr ⟨by kernel_rfl, rfl⟩) hHeld ?_
    (try simp only [Act.put, List.getElem_toArray, List.getElem_cons_zero, List.getElem_cons_succ, List.setIfInBounds_toArray, List.set_cons_zero, List.set_cons_succ])
    refine' wpAnyH_take (i := 14) (v := _) rfl (by kernel_rfl) (by kernel_rfl) (by kernel_rfl) (fun _ _ _ h => h) (Or.inl ⟨by rfl, ?_⟩) hHeld ?_
    rotate_left
    · intro w hSw
      (try dsimp only at hSw)
      go_simp
      try with_reducible rfl
    (try simp only [Act.put, List.getElem_toArray, List.getElem_cons_zero, List.getElem_cons_succ, List.setIfInBounds_toArray, List.set_cons_zero, List.set_cons_succ])
    refine' wpAnyH_take (i := 15) (v := _) rfl (by kernel_rfl) (by kernel_rfl) (by kernel_rfl) (fun _ _ _ h => h) (Or.inl ⟨by rfl, ?_⟩) hHeld ?_
    rotate_left
    · intro w hSw
      (try dsimp only at hSw)
      go_simp
      try with_reducible rfl
    (try simp only [Act.put, List.getElem_toArray, List.getElem_cons_zero, List.getElem_cons_succ, List.setIfInBounds_toArray, List.set_cons_zero, List.set_cons_succ])
    refine wpAnyH_take (i := 16) (v := undef) rfl (by kernel_rfl) (by kernel_rfl) (by kernel_rfl) (fun _ _ _ h => h) (Or.inr ⟨by kernel_rfl, rfl⟩) hHeld ?_
    (try simp only [Act.put, List.getElem_toArray, List.getElem_cons_zero, List.getElem_cons_succ, List.setIfInBounds_toArray, List.set_cons_zero, List.set_cons_succ])
    refine wpAnyH_take (i := 17) (v := undef) rfl (by kernel_rfl) (by kernel_rfl) (by kernel_rfl) (fun _ _ _ h => h) (Or.inr ⟨by kernel_rfl, rfl⟩) hHeld ?_
    (try simp only [Act.put, List.getElem_toArray, List.getElem_cons_zero, List.getElem_cons_succ, List.setIfInBounds_toArray, List.set_cons_zero, List.set_cons_succ])
    refine wpAnyH_take (i := 18) (v := undef) rfl (by kernel_rfl) (by kernel_rfl) (by kernel_rfl) (fun _ _ _ h => h) (Or.inr ⟨by kernel_rfl, rfl⟩) hHeld ?_
    (try simp only [Act.put, List.getElem_toArray, List.getElem_cons_zero, List.getElem_cons_succ, List.setIfInBounds_toArray, List.set_cons_zero, List.set_cons_succ])
    refine wpAnyH_take (i := 19) (v := undef) rfl (by kernel_rfl) (by kernel_rfl) (by kernel_rfl) (fun _ _ _ h => h) (Or.inr ⟨by kernel_rfl, rfl⟩) hHeld ?_
    (try simp only [Act.put, List.getElem_toArray, List.getElem_cons_zero, List.getElem_cons_succ, List.setIfInBounds_toArray, List.set_cons_zero, List.set_cons_succ])
    refine wpAnyH_take (i := 20) (v := undef) rfl (by kernel_rfl) (by kernel_rfl) (by kernel_rfl) (fun _ _ _ h => h) (Or.inr ⟨by kernel_rfl, rfl⟩) hHeld ?_
    (try simp only [Act.put, List.getElem_toArray, List.getElem_cons_zero, List.getElem_cons_succ, List.setIfInBounds_toArray, List.set_cons_zero, List.set_cons_succ])
    refine wpAnyH_take (i := 21) (v := undef) rfl (by kernel_rfl) (by kernel_rfl) (by kernel_rfl) (fun _ _ _ h => h) (Or.inr ⟨by kernel_rfl, rfl⟩) hHeld ?_
    (try simp only [Act.put, List.getElem_toArray, List.getElem_cons_zero, List.getElem_cons_succ, List.setIfInBounds_toArray, List.set_cons_zero, List.set_cons_succ])
    refine wpAnyH_take (i := 22) (v := undef) rfl (by kernel_rfl) (by kernel_rfl) (by kernel_rfl) (fun _ _ _ h => h) (Or.inr ⟨by kernel_rfl, rfl⟩) hHeld ?_
    (try simp only [Act.put, List.getElem_toArray, List.getElem_cons_zero, List.getElem_cons_succ, List.setIfInBounds_toArray, List.set_cons_zero, List.set_cons_succ])
    refine' wpAnyH_take (i := 23) (v := _) rfl (by kernel_rfl) (by kernel_rfl) (by kernel_rfl) (fun _ _ _ h => h) (Or.inl ⟨by rfl, ?_⟩) hHeld ?_
    rotate_left
    · intro w hSw
      (try dsimp only at hSw)
      go_simp
      try with_reducible rfl
    (try simp only [Act.put, List.getElem_toArray, List.getElem_cons_zero, List.getElem_cons_succ, List.setIfInBounds_toArray, List.set_cons_zero, List.set_cons_succ])
    refine' wpAnyH_take (i := 24) (v := _) rfl (by kernel_rfl) (by kernel_rfl) (by kernel_rfl) (fun _ _ _ h => h) (Or.inl ⟨by rfl, ?_⟩) hHeld ?_
    rotate_left
    · intro w hSw
      (try dsimp only at hSw)
      go_simp
      try with_reducible rfl
    (try simp only [Act.put, List.getElem_toArray, List.getElem_cons_zero, List.getElem_cons_succ, List.setIfInBounds_toArray, List.set_cons_zero, List.set_cons_succ])
    refine wpAnyH_done (by kernel_rfl) ?_ _
    (try simp only [Act.put, List.getElem_toArray, List.getElem_cons_zero, List.getElem_cons_succ, List.setIfInBounds_toArray, List.set_cons_zero, List.set_cons_succ])
    clear hHeld
    go_wp2_with fail
    go_ret
    exact ⟨by rw [HF.out]; rfl, (Below.refl _ _).drew⟩
set_option maxHeartbeats 4000000 in
set_option maxRecDepth 100000 in
theorem rformed_latch (pa : Option Addr) (pc : Nat) (ps : List Int) (w : World) (hps : InS w pa ps.length 1 (flat iL ps)) : Calls Tryd.prog 35 #[.string ⟨#[108, 97, 116, 99, 104]⟩, .slice pa ps.length pc] w fun e w' => e = .returned (.bool (form_none ps)) ∧ Below w.heap.size w w' := by
  by_cases hl : ps.length = 0
  · obtain rfl : ps = [] := List.eq_nil_of_length_eq_zero hl
    clear hl hps
    go_enter Tryd.func35, Tryd.ntmps35
    go_wp2_with fail
    go_ret
    exact ⟨rfl, Below.refl _ _⟩
  · have HF := Lib.hid (show form_none ps = false by unfold form_none; split; exact absurd rfl hl; rfl)
    obtain ⟨R, hR⟩ : ∃ x, x = form_none ps := ⟨_, rfl⟩
    rw [← hR] at HF ⊢
    obtain ⟨M, hM⟩ : ∃ M, M = ps.length := ⟨_, rfl⟩
    have m63 : M ≤ 9223372036854775807 := by rw [hM]; exact hps.2.1
    rw [← hM] at hl ⊢
    have hl2 : ((M : Int) == 0) = false := by rw [beq_eq_false_iff_ne]; omega
    clear hM hR hps hl
    go_enter Tryd.func35, Tryd.ntmps35
    go_wp2_with fail
    go_ret
    exact ⟨by rw [HF.out]; rfl, Below.refl _ _⟩
set_option maxHeartbeats 4000000 in
set_option maxRecDepth 100000 in
theorem rformed_minrun (pa : Option Addr) (pc : Nat) (ps : List Int) (w : World) (hps : InS w pa ps.length 1 (flat iL ps)) : Calls Tryd.prog 35 #[.string ⟨#[109, 105, 110, 114, 117, 110]⟩, .slice pa ps.length pc] w fun e w' => e = .returned (.bool (form_mr ps)) ∧ Below w.heap.size w w' := by
  by_cases hl : ps.length = 2
  · obtain ⟨p0, p1, rfl⟩ : ∃ p0 p1, ps = [p0, p1] := by
      match ps, hl with
      | [p0, p1], _ => exact ⟨_, _, rfl⟩
    obtain ⟨pb, po, rfl, hpl, hpc⟩ := (show InS w pa 2 1 (flat iL [p0, p1]) from hps).at (xs := [p0, p1]) iL_len (by simp)
    have q0 : w.cell? ⟨pb, po, none⟩ = some (.int .i64 p0) := by have h := hpc 0 _ rfl 0 _ rfl; simpa using h
    have q1 : w.cell? ⟨pb, po + 1, none⟩ = some (.int .i64 p1) := by have h := hpc 1 _ rfl 0 _ rfl; simpa using h
    clear hpl hpc hl hps
    obtain ⟨R, hR⟩ : ∃ x, x = form_mr [p0, p1] := ⟨_, rfl⟩
    rw [← hR]
    have HR := Lib.hid hR
    clear hR
    obtain ⟨Z0, hZ0⟩ : ∃ x, x = inZ 0 p0 86400 := ⟨_, rfl⟩
    have K0 := Lib.hid (fun W => rseconds_any p0 W)
    rw [← hZ0] at K0
    have HZ0 := Lib.hid hZ0
    clear hZ0
    obtain ⟨Z1, hZ1⟩ : ∃ x, x = inZ 0 p1 86400 := ⟨_, rfl⟩
    have K1 := Lib.hid (fun W => rseconds_any p1 W)
    rw [← hZ1] at K1
    have HZ1 := Lib.hid hZ1
    clear hZ1
    go_enter Tryd.func35, Tryd.ntmps35
    go_wp2_with fail
    refine (K0.out _).mono ?_
    rintro e w1 ⟨rfl, rfl⟩
    cases Z0
    · go_wp2_with fail
      go_ret
      exact ⟨by rw [HR.out]; show _ = Ending.returned (.bool (inZ 0 p0 86400 && inZ 0 p1 86400)); rw [← HZ0.out]; rfl, Below.refl _ _⟩
    · go_wp2_with fail
      refine (K1.out _).mono ?_
      rintro e w1 ⟨rfl, rfl⟩
      go_wp2_with fail
      go_ret
      exact ⟨by rw [HR.out]; show _ = Ending.returned (.bool (inZ 0 p0 86400 && inZ 0 p1 86400)); rw [← HZ0.out, ← HZ1.out]; rfl, Below.refl _ _⟩
  · have HF := Lib.hid (show form_mr ps = false by unfold form_mr; split; exact absurd rfl hl; rfl)
    obtain ⟨R, hR⟩ : ∃ x, x = form_mr ps := ⟨_, rfl⟩
    rw [← hR] at HF ⊢
    obtain ⟨M, hM⟩ : ∃ M, M = ps.length := ⟨_, rfl⟩
    have m63 : M ≤ 9223372036854775807 := by rw [hM]; exact hps.2.1
    rw [← hM] at hl ⊢
    have hl2 : ((M : Int) == 2) = false := by rw [beq_eq_false_iff_ne]; omega
    clear hM hR hps hl
    go_enter Tryd.func35, Tryd.ntmps35
    go_wp2_with fail
    go_ret
    exact ⟨by rw [HF.out]; rfl, Below.refl _ _⟩
set_option maxHeartbeats 4000000 in
set_option maxRecDepth 100000 in
theorem rformed_offdelay (pa : Option Addr) (pc : Nat) (ps : List Int) (w : World) (hps : InS w pa ps.length 1 (flat iL ps)) : Calls Tryd.prog 35 #[.string ⟨#[111, 102, 102, 100, 101, 108, 97, 121]⟩, .slice pa ps.length pc] w fun e w' => e = .returned (.bool (form_time ps)) ∧ Below w.heap.size w w' := by
  by_cases hl : ps.length = 1
  · obtain ⟨p0, rfl⟩ : ∃ p0, ps = [p0] := by
      match ps, hl with
      | [p0], _ => exact ⟨_, rfl⟩
    obtain ⟨pb, po, rfl, hpl, hpc⟩ := (show InS w pa 1 1 (flat iL [p0]) from hps).at (xs := [p0]) iL_len (by simp)
    have q0 : w.cell? ⟨pb, po, none⟩ = some (.int .i64 p0) := by have h := hpc 0 _ rfl 0 _ rfl; simpa using h
    clear hpl hpc hl hps
    obtain ⟨R, hR⟩ : ∃ x, x = form_time [p0] := ⟨_, rfl⟩
    rw [← hR]
    have HR := Lib.hid hR
    clear hR
    obtain ⟨Z0, hZ0⟩ : ∃ x, x = inZ 0 p0 86400 := ⟨_, rfl⟩
    have K0 := Lib.hid (fun W => rseconds_any p0 W)
    rw [← hZ0] at K0
    have HZ0 := Lib.hid hZ0
    clear hZ0
    go_enter Tryd.func35, Tryd.ntmps35
    go_wp2_with fail
    refine (K0.out _).mono ?_
    rintro e w1 ⟨rfl, rfl⟩
    go_wp2_with fail
    go_ret
    exact ⟨by rw [HR.out]; show _ = Ending.returned (.bool (inZ 0 p0 86400)); rw [← HZ0.out]; rfl, Below.refl _ _⟩
  · have HF := Lib.hid (show form_time ps = false by unfold form_time; split; exact absurd rfl hl; rfl)
    obtain ⟨R, hR⟩ : ∃ x, x = form_time ps := ⟨_, rfl⟩
    rw [← hR] at HF ⊢
    obtain ⟨M, hM⟩ : ∃ M, M = ps.length := ⟨_, rfl⟩
    have m63 : M ≤ 9223372036854775807 := by rw [hM]; exact hps.2.1
    rw [← hM] at hl ⊢
    have hl2 : ((M : Int) == 1) = false := by rw [beq_eq_false_iff_ne]; omega
    clear hM hR hps hl
    go_enter Tryd.func35, Tryd.ntmps35
    go_wp2_with fail
    go_ret
    exact ⟨by rw [HF.out]; rfl, Below.refl _ _⟩
set_option maxHeartbeats 4000000 in
set_option maxRecDepth 100000 in
theorem rformed_ondelay (pa : Option Addr) (pc : Nat) (ps : List Int) (w : World) (hps : InS w pa ps.length 1 (flat iL ps)) : Calls Tryd.prog 35 #[.string ⟨#[111, 110, 100, 101, 108, 97, 121]⟩, .slice pa ps.length pc] w fun e w' => e = .returned (.bool (form_time ps)) ∧ Below w.heap.size w w' := by
  by_cases hl : ps.length = 1
  · obtain ⟨p0, rfl⟩ : ∃ p0, ps = [p0] := by
      match ps, hl with
      | [p0], _ => exact ⟨_, rfl⟩
    obtain ⟨pb, po, rfl, hpl, hpc⟩ := (show InS w pa 1 1 (flat iL [p0]) from hps).at (xs := [p0]) iL_len (by simp)
    have q0 : w.cell? ⟨pb, po, none⟩ = some (.int .i64 p0) := by have h := hpc 0 _ rfl 0 _ rfl; simpa using h
    clear hpl hpc hl hps
    obtain ⟨R, hR⟩ : ∃ x, x = form_time [p0] := ⟨_, rfl⟩
    rw [← hR]
    have HR := Lib.hid hR
    clear hR
    obtain ⟨Z0, hZ0⟩ : ∃ x, x = inZ 0 p0 86400 := ⟨_, rfl⟩
    have K0 := Lib.hid (fun W => rseconds_any p0 W)
    rw [← hZ0] at K0
    have HZ0 := Lib.hid hZ0
    clear hZ0
    go_enter Tryd.func35, Tryd.ntmps35
    go_wp2_with fail
    refine (K0.out _).mono ?_
    rintro e w1 ⟨rfl, rfl⟩
    go_wp2_with fail
    go_ret
    exact ⟨by rw [HR.out]; show _ = Ending.returned (.bool (inZ 0 p0 86400)); rw [← HZ0.out]; rfl, Below.refl _ _⟩
  · have HF := Lib.hid (show form_time ps = false by unfold form_time; split; exact absurd rfl hl; rfl)
    obtain ⟨R, hR⟩ : ∃ x, x = form_time ps := ⟨_, rfl⟩
    rw [← hR] at HF ⊢
    obtain ⟨M, hM⟩ : ∃ M, M = ps.length := ⟨_, rfl⟩
    have m63 : M ≤ 9223372036854775807 := by rw [hM]; exact hps.2.1
    rw [← hM] at hl ⊢
    have hl2 : ((M : Int) == 1) = false := by rw [beq_eq_false_iff_ne]; omega
    clear hM hR hps hl
    go_enter Tryd.func35, Tryd.ntmps35
    go_wp2_with fail
    go_ret
    exact ⟨by rw [HF.out]; rfl, Below.refl _ _⟩
set_option maxHeartbeats 4000000 in
set_option maxRecDepth 100000 in
theorem rformed_pulse (pa : Option Addr) (pc : Nat) (ps : List Int) (w : World) (hps : InS w pa ps.length 1 (flat iL ps)) : Calls Tryd.prog 35 #[.string ⟨#[112, 117, 108, 115, 101]⟩, .slice pa ps.length pc] w fun e w' => e = .returned (.bool (form_time ps)) ∧ Below w.heap.size w w' := by
  by_cases hl : ps.length = 1
  · obtain ⟨p0, rfl⟩ : ∃ p0, ps = [p0] := by
      match ps, hl with
      | [p0], _ => exact ⟨_, rfl⟩
    obtain ⟨pb, po, rfl, hpl, hpc⟩ := (show InS w pa 1 1 (flat iL [p0]) from hps).at (xs := [p0]) iL_len (by simp)
    have q0 : w.cell? ⟨pb, po, none⟩ = some (.int .i64 p0) := by have h := hpc 0 _ rfl 0 _ rfl; simpa using h
    clear hpl hpc hl hps
    obtain ⟨R, hR⟩ : ∃ x, x = form_time [p0] := ⟨_, rfl⟩
    rw [← hR]
    have HR := Lib.hid hR
    clear hR
    obtain ⟨Z0, hZ0⟩ : ∃ x, x = inZ 0 p0 86400 := ⟨_, rfl⟩
    have K0 := Lib.hid (fun W => rseconds_any p0 W)
    rw [← hZ0] at K0
    have HZ0 := Lib.hid hZ0
    clear hZ0
    go_enter Tryd.func35, Tryd.ntmps35
    go_wp2_with fail
    refine (K0.out _).mono ?_
    rintro e w1 ⟨rfl, rfl⟩
    go_wp2_with fail
    go_ret
    exact ⟨by rw [HR.out]; show _ = Ending.returned (.bool (inZ 0 p0 86400)); rw [← HZ0.out]; rfl, Below.refl _ _⟩
  · have HF := Lib.hid (show form_time ps = false by unfold form_time; split; exact absurd rfl hl; rfl)
    obtain ⟨R, hR⟩ : ∃ x, x = form_time ps := ⟨_, rfl⟩
    rw [← hR] at HF ⊢
    obtain ⟨M, hM⟩ : ∃ M, M = ps.length := ⟨_, rfl⟩
    have m63 : M ≤ 9223372036854775807 := by rw [hM]; exact hps.2.1
    rw [← hM] at hl ⊢
    have hl2 : ((M : Int) == 1) = false := by rw [beq_eq_false_iff_ne]; omega
    clear hM hR hps hl
    go_enter Tryd.func35, Tryd.ntmps35
    go_wp2_with fail
    go_ret
    exact ⟨by rw [HF.out]; rfl, Below.refl _ _⟩
set_option maxHeartbeats 4000000 in
set_option maxRecDepth 100000 in
theorem rposs_count (vp : Value) (sa : Option Addr) (sc : Nat) (st : List Int) (w : World) (hst : InS w sa st.length 1 (flat iL st)) : Calls Tryd.prog 14 #[.string ⟨#[99, 111, 117, 110, 116]⟩, vp, .slice sa st.length sc] w fun e w' => e = .returned (.bool (poss_count st)) ∧ Below w.heap.size w w' := by
  by_cases hl : st.length = 2
  · obtain ⟨a, c, rfl⟩ : ∃ a c, st = [a, c] := by
      match st, hl with
      | [a, c], _ => exact ⟨_, _, rfl⟩
    obtain ⟨sb, so, rfl, hsl, hsc⟩ := (show InS w sa 2 1 (flat iL [a, c]) from hst).at (xs := [a, c]) iL_len (by simp)
    have s0 : w.cell? ⟨sb, so, none⟩ = some (.int .i64 a) := by have h := hsc 0 _ rfl 0 _ rfl; simpa using h
    have s1 : w.cell? ⟨sb, so + 1, none⟩ = some (.int .i64 c) := by have h := hsc 1 _ rfl 0 _ rfl; simpa using h
    clear hsl hsc hl hst
    obtain ⟨R, hR⟩ : ∃ x, x = poss_count [a, c] := ⟨_, rfl⟩
    rw [← hR]
    have HR := Lib.hid (show R = (inZ 0 a 1 && inZ 0 c 1000000000) from hR)
    clear hR
    by_cases h1 : 0 ≤ a
    · by_cases h2 : a ≤ 1
      · by_cases h3 : 0 ≤ c
        · by_cases h4 : c ≤ 1000000000
          · go_enter Tryd.func14, Tryd.ntmps14
            go_wp2_with fail
            refine (rLength_count _).mono ?_
            rintro e w1 ⟨rfl, rfl⟩
            go_wp2_with fail
            go_ret
            exact ⟨by rw [HR.out, inZ_yes (n := a) (lo := 0) (hi := 1) (by omega) (by omega), inZ_yes (n := c) (lo := 0) (hi := 1000000000) (by omega) (by omega)]; first | rfl | (refine congrArg (fun b => Ending.returned (Value.bool b)) ?_; exact decide_eq_false (by omega)), Below.refl _ _⟩
          · go_enter Tryd.func14, Tryd.ntmps14
            go_wp2_with fail
            refine (rLength_count _).mono ?_
            rintro e w1 ⟨rfl, rfl⟩
            go_wp2_with fail
            go_ret
            exact ⟨by rw [HR.out, inZ_yes (n := a) (lo := 0) (hi := 1) (by omega) (by omega), inZ_no (n := c) (lo := 0) (hi := 1000000000) (by omega)]; first | rfl | (refine congrArg (fun b => Ending.returned (Value.bool b)) ?_; exact decide_eq_false (by omega)), Below.refl _ _⟩
        · go_enter Tryd.func14, Tryd.ntmps14
          go_wp2_with fail
          refine (rLength_count _).mono ?_
          rintro e w1 ⟨rfl, rfl⟩
          go_wp2_with fail
          go_ret
          exact ⟨by rw [HR.out, inZ_yes (n := a) (lo := 0) (hi := 1) (by omega) (by omega), inZ_no (n := c) (lo := 0) (hi := 1000000000) (by omega)]; first | rfl | (refine congrArg (fun b => Ending.returned (Value.bool b)) ?_; exact decide_eq_false (by omega)), Below.refl _ _⟩
      · go_enter Tryd.func14, Tryd.ntmps14
        go_wp2_with fail
        refine (rLength_count _).mono ?_
        rintro e w1 ⟨rfl, rfl⟩
        go_wp2_with fail
        go_ret
        exact ⟨by rw [HR.out, inZ_no (n := a) (lo := 0) (hi := 1) (by omega)]; first | rfl | (refine congrArg (fun b => Ending.returned (Value.bool b)) ?_; exact decide_eq_false (by omega)), Below.refl _ _⟩
    · go_enter Tryd.func14, Tryd.ntmps14
      go_wp2_with fail
      refine (rLength_count _).mono ?_
      rintro e w1 ⟨rfl, rfl⟩
      go_wp2_with fail
      go_ret
      exact ⟨by rw [HR.out, inZ_no (n := a) (lo := 0) (hi := 1) (by omega)]; first | rfl | (refine congrArg (fun b => Ending.returned (Value.bool b)) ?_; exact decide_eq_false (by omega)), Below.refl _ _⟩
  · have HF := Lib.hid (show poss_count st = false by unfold poss_count; split; exact absurd rfl hl; rfl)
    obtain ⟨R, hR⟩ : ∃ x, x = poss_count st := ⟨_, rfl⟩
    rw [← hR] at HF ⊢
    obtain ⟨M, hM⟩ : ∃ M, M = st.length := ⟨_, rfl⟩
    have m63 : M ≤ 9223372036854775807 := by rw [hM]; exact hst.2.1
    rw [← hM] at hl ⊢
    have hl2 : ¬ ((M : Int) = 2) := by omega
    clear hM hR hst hl
    go_enter Tryd.func14, Tryd.ntmps14
    go_wp2_with fail
    refine (rLength_count _).mono ?_
    rintro e w1 ⟨rfl, rfl⟩
    go_wp2_with fail
    go_ret
    exact ⟨by rw [HF.out]; rfl, Below.refl _ _⟩
set_option maxHeartbeats 4000000 in
set_option maxRecDepth 100000 in
theorem rposs_edge (vp : Value) (sa : Option Addr) (sc : Nat) (st : List Int) (w : World) (hst : InS w sa st.length 1 (flat iL st)) : Calls Tryd.prog 14 #[.string ⟨#[101, 100, 103, 101]⟩, vp, .slice sa st.length sc] w fun e w' => e = .returned (.bool (poss_edge st)) ∧ Below w.heap.size w w' := by
  by_cases hl : st.length = 1
  · obtain ⟨a, rfl⟩ : ∃ a, st = [a] := by
      match st, hl with
      | [a], _ => exact ⟨_, rfl⟩
    obtain ⟨sb, so, rfl, hsl, hsc⟩ := (show InS w sa 1 1 (flat iL [a]) from hst).at (xs := [a]) iL_len (by simp)
    have s0 : w.cell? ⟨sb, so, none⟩ = some (.int .i64 a) := by have h := hsc 0 _ rfl 0 _ rfl; simpa using h
    clear hsl hsc hl hst
    obtain ⟨R, hR⟩ : ∃ x, x = poss_edge [a] := ⟨_, rfl⟩
    rw [← hR]
    have HR := Lib.hid (show R = (inZ 0 a 1) from hR)
    clear hR
    by_cases h1 : 0 ≤ a
    · by_cases h2 : a ≤ 1
      · go_enter Tryd.func14, Tryd.ntmps14
        go_wp2_with fail
        refine (rLength_edge _).mono ?_
        rintro e w1 ⟨rfl, rfl⟩
        go_wp2_with fail
        go_ret
        exact ⟨by rw [HR.out, inZ_yes (n := a) (lo := 0) (hi := 1) (by omega) (by omega)]; first | rfl | (refine congrArg (fun b => Ending.returned (Value.bool b)) ?_; exact decide_eq_false (by omega)), Below.refl _ _⟩
      · go_enter Tryd.func14, Tryd.ntmps14
        go_wp2_with fail
        refine (rLength_edge _).mono ?_
        rintro e w1 ⟨rfl, rfl⟩
        go_wp2_with fail
        go_ret
        exact ⟨by rw [HR.out, inZ_no (n := a) (lo := 0) (hi := 1) (by omega)]; first | rfl | (refine congrArg (fun b => Ending.returned (Value.bool b)) ?_; exact decide_eq_false (by omega)), Below.refl _ _⟩
    · go_enter Tryd.func14, Tryd.ntmps14
      go_wp2_with fail
      refine (rLength_edge _).mono ?_
      rintro e w1 ⟨rfl, rfl⟩
      go_wp2_with fail
      go_ret
      exact ⟨by rw [HR.out, inZ_no (n := a) (lo := 0) (hi := 1) (by omega)]; first | rfl | (refine congrArg (fun b => Ending.returned (Value.bool b)) ?_; exact decide_eq_false (by omega)), Below.refl _ _⟩
  · have HF := Lib.hid (show poss_edge st = false by unfold poss_edge; split; exact absurd rfl hl; rfl)
    obtain ⟨R, hR⟩ : ∃ x, x = poss_edge st := ⟨_, rfl⟩
    rw [← hR] at HF ⊢
    obtain ⟨M, hM⟩ : ∃ M, M = st.length := ⟨_, rfl⟩
    have m63 : M ≤ 9223372036854775807 := by rw [hM]; exact hst.2.1
    rw [← hM] at hl ⊢
    have hl2 : ¬ ((M : Int) = 1) := by omega
    clear hM hR hst hl
    go_enter Tryd.func14, Tryd.ntmps14
    go_wp2_with fail
    refine (rLength_edge _).mono ?_
    rintro e w1 ⟨rfl, rfl⟩
    go_wp2_with fail
    go_ret
    exact ⟨by rw [HF.out]; rfl, Below.refl _ _⟩
set_option maxHeartbeats 4000000 in
set_option maxRecDepth 100000 in
theorem rposs_hyst (pb po pc : Nat) (p0 p1 : Int) (sa : Option Addr) (sc : Nat) (st : List Int) (w : World) (q0 : w.cell? ⟨pb, po, none⟩ = some (.int .i64 p0)) (q1 : w.cell? ⟨pb, po + 1, none⟩ = some (.int .i64 p1)) (hst : InS w sa st.length 1 (flat iL st)) : Calls Tryd.prog 14 #[.string ⟨#[104, 121, 115, 116]⟩, .slice (some ⟨pb, po, none⟩) 2 pc, .slice sa st.length sc] w fun e w' => e = .returned (.bool (poss_hyst p0 p1 st)) ∧ Below w.heap.size w w' := by
  by_cases hl : st.length = 1
  · obtain ⟨a, rfl⟩ : ∃ a, st = [a] := by
      match st, hl with
      | [a], _ => exact ⟨_, rfl⟩
    obtain ⟨sb, so, rfl, hsl, hsc⟩ := (show InS w sa 1 1 (flat iL [a]) from hst).at (xs := [a]) iL_len (by simp)
    have s0 : w.cell? ⟨sb, so, none⟩ = some (.int .i64 a) := by have h := hsc 0 _ rfl 0 _ rfl; simpa using h
    clear hsl hsc hl hst
    obtain ⟨R, hR⟩ : ∃ x, x = poss_hyst p0 p1 [a] := ⟨_, rfl⟩
    rw [← hR]
    have HR := Lib.hid (show R = (inZ 0 a 1) from hR)
    clear hR
    by_cases h1 : 0 ≤ a
    · by_cases h2 : a ≤ 1
      · go_enter Tryd.func14, Tryd.ntmps14
        go_wp2_with fail
        refine (rLength_hyst _).mono ?_
        rintro e w1 ⟨rfl, rfl⟩
        go_wp2_with fail
        go_ret
        exact ⟨by rw [HR.out, inZ_yes (n := a) (lo := 0) (hi := 1) (by omega) (by omega)]; first | rfl | (refine congrArg (fun b => Ending.returned (Value.bool b)) ?_; exact decide_eq_false (by omega)), Below.refl _ _⟩
      · go_enter Tryd.func14, Tryd.ntmps14
        go_wp2_with fail
        refine (rLength_hyst _).mono ?_
        rintro e w1 ⟨rfl, rfl⟩
        go_wp2_with fail
        go_ret
        exact ⟨by rw [HR.out, inZ_no (n := a) (lo := 0) (hi := 1) (by omega)]; first | rfl | (refine congrArg (fun b => Ending.returned (Value.bool b)) ?_; exact decide_eq_false (by omega)), Below.refl _ _⟩
    · go_enter Tryd.func14, Tryd.ntmps14
      go_wp2_with fail
      refine (rLength_hyst _).mono ?_
      rintro e w1 ⟨rfl, rfl⟩
      go_wp2_with fail
      go_ret
      exact ⟨by rw [HR.out, inZ_no (n := a) (lo := 0) (hi := 1) (by omega)]; first | rfl | (refine congrArg (fun b => Ending.returned (Value.bool b)) ?_; exact decide_eq_false (by omega)), Below.refl _ _⟩
  · have HF := Lib.hid (show poss_hyst p0 p1 st = false by unfold poss_hyst; split; exact absurd rfl hl; rfl)
    obtain ⟨R, hR⟩ : ∃ x, x = poss_hyst p0 p1 st := ⟨_, rfl⟩
    rw [← hR] at HF ⊢
    obtain ⟨M, hM⟩ : ∃ M, M = st.length := ⟨_, rfl⟩
    have m63 : M ≤ 9223372036854775807 := by rw [hM]; exact hst.2.1
    rw [← hM] at hl ⊢
    have hl2 : ¬ ((M : Int) = 1) := by omega
    clear hM hR hst hl
    go_enter Tryd.func14, Tryd.ntmps14
    go_wp2_with fail
    refine (rLength_hyst _).mono ?_
    rintro e w1 ⟨rfl, rfl⟩
    go_wp2_with fail
    go_ret
    exact ⟨by rw [HF.out]; rfl, Below.refl _ _⟩
set_option maxHeartbeats 4000000 in
set_option maxRecDepth 100000 in
theorem rposs_latch (vp : Value) (sa : Option Addr) (sc : Nat) (st : List Int) (w : World) (hst : InS w sa st.length 1 (flat iL st)) : Calls Tryd.prog 14 #[.string ⟨#[108, 97, 116, 99, 104]⟩, vp, .slice sa st.length sc] w fun e w' => e = .returned (.bool (poss_latch st)) ∧ Below w.heap.size w w' := by
  by_cases hl : st.length = 1
  · obtain ⟨a, rfl⟩ : ∃ a, st = [a] := by
      match st, hl with
      | [a], _ => exact ⟨_, rfl⟩
    obtain ⟨sb, so, rfl, hsl, hsc⟩ := (show InS w sa 1 1 (flat iL [a]) from hst).at (xs := [a]) iL_len (by simp)
    have s0 : w.cell? ⟨sb, so, none⟩ = some (.int .i64 a) := by have h := hsc 0 _ rfl 0 _ rfl; simpa using h
    clear hsl hsc hl hst
    obtain ⟨R, hR⟩ : ∃ x, x = poss_latch [a] := ⟨_, rfl⟩
    rw [← hR]
    have HR := Lib.hid (show R = (inZ 0 a 1) from hR)
    clear hR
    by_cases h1 : 0 ≤ a
    · by_cases h2 : a ≤ 1
      · go_enter Tryd.func14, Tryd.ntmps14
        go_wp2_with fail
        refine (rLength_latch _).mono ?_
        rintro e w1 ⟨rfl, rfl⟩
        go_wp2_with fail
        go_ret
        exact ⟨by rw [HR.out, inZ_yes (n := a) (lo := 0) (hi := 1) (by omega) (by omega)]; first | rfl | (refine congrArg (fun b => Ending.returned (Value.bool b)) ?_; exact decide_eq_false (by omega)), Below.refl _ _⟩
      · go_enter Tryd.func14, Tryd.ntmps14
        go_wp2_with fail
        refine (rLength_latch _).mono ?_
        rintro e w1 ⟨rfl, rfl⟩
        go_wp2_with fail
        go_ret
        exact ⟨by rw [HR.out, inZ_no (n := a) (lo := 0) (hi := 1) (by omega)]; first | rfl | (refine congrArg (fun b => Ending.returned (Value.bool b)) ?_; exact decide_eq_false (by omega)), Below.refl _ _⟩
    · go_enter Tryd.func14, Tryd.ntmps14
      go_wp2_with fail
      refine (rLength_latch _).mono ?_
      rintro e w1 ⟨rfl, rfl⟩
      go_wp2_with fail
      go_ret
      exact ⟨by rw [HR.out, inZ_no (n := a) (lo := 0) (hi := 1) (by omega)]; first | rfl | (refine congrArg (fun b => Ending.returned (Value.bool b)) ?_; exact decide_eq_false (by omega)), Below.refl _ _⟩
  · have HF := Lib.hid (show poss_latch st = false by unfold poss_latch; split; exact absurd rfl hl; rfl)
    obtain ⟨R, hR⟩ : ∃ x, x = poss_latch st := ⟨_, rfl⟩
    rw [← hR] at HF ⊢
    obtain ⟨M, hM⟩ : ∃ M, M = st.length := ⟨_, rfl⟩
    have m63 : M ≤ 9223372036854775807 := by rw [hM]; exact hst.2.1
    rw [← hM] at hl ⊢
    have hl2 : ¬ ((M : Int) = 1) := by omega
    clear hM hR hst hl
    go_enter Tryd.func14, Tryd.ntmps14
    go_wp2_with fail
    refine (rLength_latch _).mono ?_
    rintro e w1 ⟨rfl, rfl⟩
    go_wp2_with fail
    go_ret
    exact ⟨by rw [HF.out]; rfl, Below.refl _ _⟩
set_option maxHeartbeats 4000000 in
set_option maxRecDepth 100000 in
theorem rposs_minrun (pb po pc : Nat) (p0 p1 : Int) (sa : Option Addr) (sc : Nat) (st : List Int) (w : World) (q0 : w.cell? ⟨pb, po, none⟩ = some (.int .i64 p0)) (q1 : w.cell? ⟨pb, po + 1, none⟩ = some (.int .i64 p1)) (hst : InS w sa st.length 1 (flat iL st)) : Calls Tryd.prog 14 #[.string ⟨#[109, 105, 110, 114, 117, 110]⟩, .slice (some ⟨pb, po, none⟩) 2 pc, .slice sa st.length sc] w fun e w' => e = .returned (.bool (poss_minrun p0 p1 st)) ∧ Below w.heap.size w w' := by
  by_cases hl : st.length = 2
  · obtain ⟨a, c, rfl⟩ : ∃ a c, st = [a, c] := by
      match st, hl with
      | [a, c], _ => exact ⟨_, _, rfl⟩
    obtain ⟨sb, so, rfl, hsl, hsc⟩ := (show InS w sa 2 1 (flat iL [a, c]) from hst).at (xs := [a, c]) iL_len (by simp)
    have s0 : w.cell? ⟨sb, so, none⟩ = some (.int .i64 a) := by have h := hsc 0 _ rfl 0 _ rfl; simpa using h
    have s1 : w.cell? ⟨sb, so + 1, none⟩ = some (.int .i64 c) := by have h := hsc 1 _ rfl 0 _ rfl; simpa using h
    clear hsl hsc hl hst
    obtain ⟨R, hR⟩ : ∃ x, x = poss_minrun p0 p1 [a, c] := ⟨_, rfl⟩
    rw [← hR]
    have HR := Lib.hid (show R = (inZ 0 a 1 && inZ 0 c (leastN p0 p1 a)) from hR)
    clear hR
    by_cases h1 : 0 ≤ a
    · by_cases h2 : a ≤ 1
      · obtain ⟨L, hL⟩ : ∃ x, x = leastN p0 p1 a := ⟨_, rfl⟩
        rw [← hL] at HR
        have HL2 := Lib.hid hL
        clear hL
        have HC := Lib.hid (And.intro s1 (And.intro q0 q1))
        by_cases h3 : 0 ≤ c
        · have dA : decide (0 ≤ c) = true := decide_eq_true h3
          by_cases h4 : c ≤ L
          · have dB : decide (c ≤ L) = true := decide_eq_true h4
            go_enter Tryd.func14, Tryd.ntmps14
            go_wp2_with fail
            refine (rLength_minrun _).mono ?_
            rintro e w1 ⟨rfl, rfl⟩
            go_wp2_with fail
            refine wp_region_held_drew (S := fun w' => w'.cell? ⟨sb, so + 1, none⟩ = some (.int .i64 c) ∧ w'.cell? ⟨pb, po, none⟩ = some (.int .i64 p0) ∧ w'.cell? ⟨pb, po + 1, none⟩ = some (.int .i64 p1)) (by kernel_rfl) HC.out (fun hHeld => ?_)
            refine' wpAnyH_take (i := 0) (v := _) rfl (by kernel_rfl) (by kernel_rfl) (by kernel_rfl) (fun _ _ _ h => h) (Or.inl ⟨by rfl, ?_⟩) hHeld ?_
            rotate_left
            · intro w hSw
              (try dsimp only at hSw)
              go_simp
              try with_reducible rfl
            (try simp only [Act.put, List.getElem_toArray, List.getElem_cons_zero, List.getElem_cons_succ, List.setIfInBounds_toArray, List.set_cons_zero, List.set_cons_succ])
            refine' wpAnyH_take (i := 1) (v := _) rfl (by kernel_rfl) (by kernel_rfl) (by kernel_rfl) (fun _ _ _ h => h) (Or.inl ⟨by rfl, ?_⟩) hHeld ?_
            rotate_left
            · intro w hSw
              (try dsimp only at hSw)
              go_simp
              try with_reducible rfl
            (try simp only [Act.put, List.getElem_toArray, List.getElem_cons_zero, List.getElem_cons_succ, List.setIfInBounds_toArray, List.set_cons_zero, List.set_cons_succ])
            refine' wpAnyH_take (i := 2) (v := _) rfl (by kernel_rfl) (by kernel_rfl) (by kernel_rfl) (fun _ _ _ h => h) (Or.inl ⟨by rfl, ?_⟩) hHeld ?_
            rotate_left
            · intro w hSw
              (try dsimp only at hSw)
              go_simp
              try with_reducible rfl
            (try simp only [Act.put, List.getElem_toArray, List.getElem_cons_zero, List.getElem_cons_succ, List.setIfInBounds_toArray, List.set_cons_zero, List.set_cons_succ])
            refine' wpAnyH_take (i := 3) (v := _) rfl (by kernel_rfl) (by kernel_rfl) (by kernel_rfl) (fun _ _ _ h => h) (Or.inl ⟨by rfl, ?_⟩) hHeld ?_
            rotate_left
            · intro w hSw
              (try dsimp only at hSw)
              go_simp
              try with_reducible rfl
            (try simp only [Act.put, List.getElem_toArray, List.getElem_cons_zero, List.getElem_cons_succ, List.setIfInBounds_toArray, List.set_cons_zero, List.set_cons_succ])
            refine' wpAnyH_take (i := 4) (v := _) rfl (by kernel_rfl) (by kernel_rfl) (by kernel_rfl) (fun _ _ _ h => h) (Or.inl ⟨by rfl, ?_⟩) hHeld ?_
            rotate_left
            · intro w hSw
              (try dsimp only at hSw)
              go_simp
              try with_reducible rfl
            (try simp only [Act.put, List.getElem_toArray, List.getElem_cons_zero, List.getElem_cons_succ, List.setIfInBounds_toArray, List.set_cons_zero, List.set_cons_succ])
            refine' wpAnyH_take (i := 5) (v := _) rfl (by kernel_rfl) (by kernel_rfl) (by kernel_rfl) (fun _ _ _ h => h) (Or.inl ⟨by rfl, ?_⟩) hHeld ?_
            rotate_left
            · intro w hSw
              (try dsimp only at hSw)
              go_simp
              try with_reducible rfl
            (try simp only [Act.put, List.getElem_toArray, List.getElem_cons_zero, List.getElem_cons_succ, List.setIfInBounds_toArray, List.set_cons_zero, List.set_cons_succ])
            refine' wpAnyH_take (i := 6) (v := _) rfl (by kernel_rfl) (by kernel_rfl) (by kernel_rfl) (fun _ _ _ h => h) (Or.inl ⟨by rfl, ?_⟩) hHeld ?_
            rotate_left
            · intro w hSw
              (try dsimp only at hSw)
              go_simp
              try with_reducible rfl
            (try simp only [Act.put, List.getElem_toArray, List.getElem_cons_zero, List.getElem_cons_succ, List.setIfInBounds_toArray, List.set_cons_zero, List.set_cons_succ])
            refine' wpAnyH_take (i := 7) (v := _) rfl (by kernel_rfl) (by kernel_rfl) (by kernel_rfl) (fun _ _ _ h => h) (Or.inl ⟨by rfl, ?_⟩) hHeld ?_
            rotate_left
            · intro w hSw
              (try dsimp only at hSw)
              go_simp
              try with_reducible rfl
            (try simp only [Act.put, List.getElem_toArray, List.getElem_cons_zero, List.getElem_cons_succ, List.setIfInBounds_toArray, List.set_cons_zero, List.set_cons_succ])
            refine' wpAnyH_take (i := 8) (v := _) rfl (by kernel_rfl) (by kernel_rfl) (by kernel_rfl) (fun _ _ _ h => h) (Or.inl ⟨by rfl, ?_⟩) hHeld ?_
            rotate_left
            · intro w hSw
              (try dsimp only at hSw)
              go_simp
              try with_reducible rfl
            (try simp only [Act.put, List.getElem_toArray, List.getElem_cons_zero, List.getElem_cons_succ, List.setIfInBounds_toArray, List.set_cons_zero, List.set_cons_succ])
            refine' wpAnyH_take (i := 9) (v := _) rfl (by kernel_rfl) (by kernel_rfl) (by kernel_rfl) (fun _ _ _ h => h) (Or.inl ⟨by rfl, ?_⟩) hHeld ?_
            rotate_left
            · intro w hSw
              (try dsimp only at hSw)
              go_simp
              try with_reducible rfl
            (try simp only [Act.put, List.getElem_toArray, List.getElem_cons_zero, List.getElem_cons_succ, List.setIfInBounds_toArray, List.set_cons_zero, List.set_cons_succ])
            refine wpAnyH_ready (rs := [10]) (by kernel_rfl) (by simp) ?_
            refine AllReadyH.cons rfl (fun K hK => ?_) AllReadyH.nil
            go_simp
            have kl := rleast_any pb po pc p0 p1 a _ hHeld.2.1 hHeld.2.2
            rw [← HL2.out] at kl
            refine Calls.mono kl ?_
            rintro e x1 ⟨rfl, rfl⟩
            have HSX := hHeld
            (try go_simp)
            clear hHeld kl
            refine hK.out _ _ HSX (fun hHeld => ?_)
            clear hK K HSX
            (try simp only [Act.put, List.getElem_toArray, List.getElem_cons_zero, List.getElem_cons_succ, List.setIfInBounds_toArray, List.set_cons_zero, List.set_cons_succ])
            refine' wpAnyH_take (i := 11) (v := _) rfl (by kernel_rfl) (by kernel_rfl) (by kernel_rfl) (fun _ _ _ h => h) (Or.inl ⟨by rfl, ?_⟩) hHeld ?_
            rotate_left
            · intro w hSw
              (try dsimp only at hSw)
              go_simp
              try with_reducible rfl
            (try simp only [Act.put, List.getElem_toArray, List.getElem_cons_zero, List.getElem_cons_succ, List.setIfInBounds_toArray, List.set_cons_zero, List.set_cons_succ])
            refine' wpAnyH_take (i := 12) (v := _) rfl (by kernel_rfl) (by kernel_rfl) (by kernel_rfl) (fun _ _ _ h => h) (Or.inl ⟨by rfl, ?_⟩) hHeld ?_
            rotate_left
            · intro w hSw
              (try dsimp only at hSw)
              go_simp
              try with_reducible rfl
            (try simp only [Act.put, List.getElem_toArray, List.getElem_cons_zero, List.getElem_cons_succ, List.setIfInBounds_toArray, List.set_cons_zero, List.set_cons_succ])
            refine' wpAnyH_take (i := 13) (v := _) rfl (by kernel_rfl) (by kernel_rfl) (by kernel_rfl) (fun _ _ _ h => h) (Or.inl ⟨by rfl, ?_⟩) hHeld ?_
            rotate_left
            · intro w hSw
              (try dsimp only at hSw)
              go_simp
              try with_reducible rfl
            (try simp only [Act.put, List.getElem_toArray, List.getElem_cons_zero, List.getElem_cons_succ, List.setIfInBounds_toArray, List.set_cons_zero, List.set_cons_succ])
            refine wpAnyH_done (by kernel_rfl) ?_ _
            (try simp only [Act.put, List.getElem_toArray, List.getElem_cons_zero, List.getElem_cons_succ, List.setIfInBounds_toArray, List.set_cons_zero, List.set_cons_succ])
            clear hHeld
            go_wp2_with fail
            go_ret
            exact ⟨by rw [HR.out, inZ_yes (n := a) (lo := 0) (hi := 1) (by omega) (by omega), inZ_yes (n := c) (lo := 0) (hi := L) (by omega) (by omega)]; first | rfl | (refine congrArg (fun b => Ending.returned (Value.bool b)) ?_; exact decide_eq_false (by omega)), (Below.refl _ _).drew⟩
          · have dB : decide (c ≤ L) = false := decide_eq_false h4
            go_enter Tryd.func14, Tryd.ntmps14
            go_wp2_with fail
            refine (rLength_minrun _).mono ?_
            rintro e w1 ⟨rfl, rfl⟩
            go_wp2_with fail
            refine wp_region_held_drew (S := fun w' => w'.cell? ⟨sb, so + 1, none⟩ = some (.int .i64 c) ∧ w'.cell? ⟨pb, po, none⟩ = some (.int .i64 p0) ∧ w'.cell? ⟨pb, po + 1, none⟩ = some (.int .i64 p1)) (by kernel_rfl) HC.out (fun hHeld => ?_)
            refine' wpAnyH_take (i := 0) (v := _) rfl (by kernel_rfl) (by kernel_rfl) (by kernel_rfl) (fun _ _ _ h => h) (Or.inl ⟨by rfl, ?_⟩) hHeld ?_
            rotate_left
            · intro w hSw
              (try dsimp only at hSw)
              go_simp
              try with_reducible rfl
            (try simp only [Act.put, List.getElem_toArray, List.getElem_cons_zero, List.getElem_cons_succ, List.setIfInBounds_toArray, List.set_cons_zero, List.set_cons_succ])
            refine' wpAnyH_take (i := 1) (v := _) rfl (by kernel_rfl) (by kernel_rfl) (by kernel_rfl) (fun _ _ _ h => h) (Or.inl ⟨by rfl, ?_⟩) hHeld ?_
            rotate_left
            · intro w hSw
              (try dsimp only at hSw)
              go_simp
              try with_reducible rfl
            (try simp only [Act.put, List.getElem_toArray, List.getElem_cons_zero, List.getElem_cons_succ, List.setIfInBounds_toArray, List.set_cons_zero, List.set_cons_succ])
            refine' wpAnyH_take (i := 2) (v := _) rfl (by kernel_rfl) (by kernel_rfl) (by kernel_rfl) (fun _ _ _ h => h) (Or.inl ⟨by rfl, ?_⟩) hHeld ?_
            rotate_left
            · intro w hSw
              (try dsimp only at hSw)
              go_simp
              try with_reducible rfl
            (try simp only [Act.put, List.getElem_toArray, List.getElem_cons_zero, List.getElem_cons_succ, List.setIfInBounds_toArray, List.set_cons_zero, List.set_cons_succ])
            refine' wpAnyH_take (i := 3) (v := _) rfl (by kernel_rfl) (by kernel_rfl) (by kernel_rfl) (fun _ _ _ h => h) (Or.inl ⟨by rfl, ?_⟩) hHeld ?_
            rotate_left
            · intro w hSw
              (try dsimp only at hSw)
              go_simp
              try with_reducible rfl
            (try simp only [Act.put, List.getElem_toArray, List.getElem_cons_zero, List.getElem_cons_succ, List.setIfInBounds_toArray, List.set_cons_zero, List.set_cons_succ])
            refine' wpAnyH_take (i := 4) (v := _) rfl (by kernel_rfl) (by kernel_rfl) (by kernel_rfl) (fun _ _ _ h => h) (Or.inl ⟨by rfl, ?_⟩) hHeld ?_
            rotate_left
            · intro w hSw
              (try dsimp only at hSw)
              go_simp
              try with_reducible rfl
            (try simp only [Act.put, List.getElem_toArray, List.getElem_cons_zero, List.getElem_cons_succ, List.setIfInBounds_toArray, List.set_cons_zero, List.set_cons_succ])
            refine' wpAnyH_take (i := 5) (v := _) rfl (by kernel_rfl) (by kernel_rfl) (by kernel_rfl) (fun _ _ _ h => h) (Or.inl ⟨by rfl, ?_⟩) hHeld ?_
            rotate_left
            · intro w hSw
              (try dsimp only at hSw)
              go_simp
              try with_reducible rfl
            (try simp only [Act.put, List.getElem_toArray, List.getElem_cons_zero, List.getElem_cons_succ, List.setIfInBounds_toArray, List.set_cons_zero, List.set_cons_succ])
            refine' wpAnyH_take (i := 6) (v := _) rfl (by kernel_rfl) (by kernel_rfl) (by kernel_rfl) (fun _ _ _ h => h) (Or.inl ⟨by rfl, ?_⟩) hHeld ?_
            rotate_left
            · intro w hSw
              (try dsimp only at hSw)
              go_simp
              try with_reducible rfl
            (try simp only [Act.put, List.getElem_toArray, List.getElem_cons_zero, List.getElem_cons_succ, List.setIfInBounds_toArray, List.set_cons_zero, List.set_cons_succ])
            refine' wpAnyH_take (i := 7) (v := _) rfl (by kernel_rfl) (by kernel_rfl) (by kernel_rfl) (fun _ _ _ h => h) (Or.inl ⟨by rfl, ?_⟩) hHeld ?_
            rotate_left
            · intro w hSw
              (try dsimp only at hSw)
              go_simp
              try with_reducible rfl
            (try simp only [Act.put, List.getElem_toArray, List.getElem_cons_zero, List.getElem_cons_succ, List.setIfInBounds_toArray, List.set_cons_zero, List.set_cons_succ])
            refine' wpAnyH_take (i := 8) (v := _) rfl (by kernel_rfl) (by kernel_rfl) (by kernel_rfl) (fun _ _ _ h => h) (Or.inl ⟨by rfl, ?_⟩) hHeld ?_
            rotate_left
            · intro w hSw
              (try dsimp only at hSw)
              go_simp
              try with_reducible rfl
            (try simp only [Act.put, List.getElem_toArray, List.getElem_cons_zero, List.getElem_cons_succ, List.setIfInBounds_toArray, List.set_cons_zero, List.set_cons_succ])
            refine' wpAnyH_take (i := 9) (v := _) rfl (by kernel_rfl) (by kernel_rfl) (by kernel_rfl) (fun _ _ _ h => h) (Or.inl ⟨by rfl, ?_⟩) hHeld ?_
            rotate_left
            · intro w hSw
              (try dsimp only at hSw)
              go_simp
              try with_reducible rfl
            (try simp only [Act.put, List.getElem_toArray, List.getElem_cons_zero, List.getElem_cons_succ, List.setIfInBounds_toArray, List.set_cons_zero, List.set_cons_succ])
            refine wpAnyH_ready (rs := [10]) (by kernel_rfl) (by simp) ?_
            refine AllReadyH.cons rfl (fun K hK => ?_) AllReadyH.nil
            go_simp
            have kl := rleast_any pb po pc p0 p1 a _ hHeld.2.1 hHeld.2.2
            rw [← HL2.out] at kl
            refine Calls.mono kl ?_
            rintro e x1 ⟨rfl, rfl⟩
            have HSX := hHeld
            (try go_simp)
            clear hHeld kl
            refine hK.out _ _ HSX (fun hHeld => ?_)
            clear hK K HSX
            (try simp only [Act.put, List.getElem_toArray, List.getElem_cons_zero, List.getElem_cons_succ, List.setIfInBounds_toArray, List.set_cons_zero, List.set_cons_succ])
            refine' wpAnyH_take (i := 11) (v := _) rfl (by kernel_rfl) (by kernel_rfl) (by kernel_rfl) (fun _ _ _ h => h) (Or.inl ⟨by rfl, ?_⟩) hHeld ?_
            rotate_left
            · intro w hSw
              (try dsimp only at hSw)
              go_simp
              try with_reducible rfl
            (try simp only [Act.put, List.getElem_toArray, List.getElem_cons_zero, List.getElem_cons_succ, List.setIfInBounds_toArray, List.set_cons_zero, List.set_cons_succ])
            refine' wpAnyH_take (i := 12) (v := _) rfl (by kernel_rfl) (by kernel_rfl) (by kernel_rfl) (fun _ _ _ h => h) (Or.inl ⟨by rfl, ?_⟩) hHeld ?_
            rotate_left
            · intro w hSw
              (try dsimp only at hSw)
              go_simp
              try with_reducible rfl
            (try simp only [Act.put, List.getElem_toArray, List.getElem_cons_zero, List.getElem_cons_succ, List.setIfInBounds_toArray, List.set_cons_zero, List.set_cons_succ])
            refine' wpAnyH_take (i := 13) (v := _) rfl (by kernel_rfl) (by kernel_rfl) (by kernel_rfl) (fun _ _ _ h => h) (Or.inl ⟨by rfl, ?_⟩) hHeld ?_
            rotate_left
            · intro w hSw
              (try dsimp only at hSw)
              go_simp
              try with_reducible rfl
            (try simp only [Act.put, List.getElem_toArray, List.getElem_cons_zero, List.getElem_cons_succ, List.setIfInBounds_toArray, List.set_cons_zero, List.set_cons_succ])
            refine wpAnyH_done (by kernel_rfl) ?_ _
            (try simp only [Act.put, List.getElem_toArray, List.getElem_cons_zero, List.getElem_cons_succ, List.setIfInBounds_toArray, List.set_cons_zero, List.set_cons_succ])
            clear hHeld
            go_wp2_with fail
            go_ret
            exact ⟨by rw [HR.out, inZ_yes (n := a) (lo := 0) (hi := 1) (by omega) (by omega), inZ_no (n := c) (lo := 0) (hi := L) (by omega)]; first | rfl | (refine congrArg (fun b => Ending.returned (Value.bool b)) ?_; exact decide_eq_false (by omega)), (Below.refl _ _).drew⟩
        · have dA : decide (0 ≤ c) = false := decide_eq_false h3
          go_enter Tryd.func14, Tryd.ntmps14
          go_wp2_with fail
          refine (rLength_minrun _).mono ?_
          rintro e w1 ⟨rfl, rfl⟩
          go_wp2_with fail
          refine wp_region_held_drew (S := fun w' => w'.cell? ⟨sb, so + 1, none⟩ = some (.int .i64 c) ∧ w'.cell? ⟨pb, po, none⟩ = some (.int .i64 p0) ∧ w'.cell? ⟨pb, po + 1, none⟩ = some (.int .i64 p1)) (by kernel_rfl) HC.out (fun hHeld => ?_)
          refine' wpAnyH_take (i := 0) (v := _) rfl (by kernel_rfl) (by kernel_rfl) (by kernel_rfl) (fun _ _ _ h => h) (Or.inl ⟨by rfl, ?_⟩) hHeld ?_
          rotate_left
          · intro w hSw
            (try dsimp only at hSw)
            go_simp
            try with_reducible rfl
          (try simp only [Act.put, List.getElem_toArray, List.getElem_cons_zero, List.getElem_cons_succ, List.setIfInBounds_toArray, List.set_cons_zero, List.set_cons_succ])
          refine' wpAnyH_take (i := 1) (v := _) rfl (by kernel_rfl) (by kernel_rfl) (by kernel_rfl) (fun _ _ _ h => h) (Or.inl ⟨by rfl, ?_⟩) hHeld ?_
          rotate_left
          · intro w hSw
            (try dsimp only at hSw)
            go_simp
            try with_reducible rfl
          (try simp only [Act.put, List.getElem_toArray, List.getElem_cons_zero, List.getElem_cons_succ, List.setIfInBounds_toArray, List.set_cons_zero, List.set_cons_succ])
          refine' wpAnyH_take (i := 2) (v := _) rfl (by kernel_rfl) (by kernel_rfl) (by kernel_rfl) (fun _ _ _ h => h) (Or.inl ⟨by rfl, ?_⟩) hHeld ?_
          rotate_left
          · intro w hSw
            (try dsimp only at hSw)
            go_simp
            try with_reducible rfl
          (try simp only [Act.put, List.getElem_toArray, List.getElem_cons_zero, List.getElem_cons_succ, List.setIfInBounds_toArray, List.set_cons_zero, List.set_cons_succ])
          refine' wpAnyH_take (i := 3) (v := _) rfl (by kernel_rfl) (by kernel_rfl) (by kernel_rfl) (fun _ _ _ h => h) (Or.inl ⟨by rfl, ?_⟩) hHeld ?_
          rotate_left
          · intro w hSw
            (try dsimp only at hSw)
            go_simp
            try with_reducible rfl
          (try simp only [Act.put, List.getElem_toArray, List.getElem_cons_zero, List.getElem_cons_succ, List.setIfInBounds_toArray, List.set_cons_zero, List.set_cons_succ])
          refine' wpAnyH_take (i := 4) (v := _) rfl (by kernel_rfl) (by kernel_rfl) (by kernel_rfl) (fun _ _ _ h => h) (Or.inl ⟨by rfl, ?_⟩) hHeld ?_
          rotate_left
          · intro w hSw
            (try dsimp only at hSw)
            go_simp
            try with_reducible rfl
          (try simp only [Act.put, List.getElem_toArray, List.getElem_cons_zero, List.getElem_cons_succ, List.setIfInBounds_toArray, List.set_cons_zero, List.set_cons_succ])
          refine wpAnyH_take (i := 5) (v := undef) rfl (by kernel_rfl) (by kernel_rfl) (by kernel_rfl) (fun _ _ _ h => h) (Or.inr ⟨by kernel_rfl, rfl⟩) hHeld ?_
          (try simp only [Act.put, List.getElem_toArray, List.getElem_cons_zero, List.getElem_cons_succ, List.setIfInBounds_toArray, List.set_cons_zero, List.set_cons_succ])
          refine wpAnyH_take (i := 6) (v := undef) rfl (by kernel_rfl) (by kernel_rfl) (by kernel_rfl) (fun _ _ _ h => h) (Or.inr ⟨by kernel_rfl, rfl⟩) hHeld ?_
          (try simp only [Act.put, List.getElem_toArray, List.getElem_cons_zero, List.getElem_cons_succ, List.setIfInBounds_toArray, List.set_cons_zero, List.set_cons_succ])
          refine wpAnyH_take (i := 7) (v := undef) rfl (by kernel_rfl) (by kernel_rfl) (by kernel_rfl) (fun _ _ _ h => h) (Or.inr ⟨by kernel_rfl, rfl⟩) hHeld ?_
          (try simp only [Act.put, List.getElem_toArray, List.getElem_cons_zero, List.getElem_cons_succ, List.setIfInBounds_toArray, List.set_cons_zero, List.set_cons_succ])
          refine wpAnyH_take (i := 8) (v := undef) rfl (by kernel_rfl) (by kernel_rfl) (by kernel_rfl) (fun _ _ _ h => h) (Or.inr ⟨by kernel_rfl, rfl⟩) hHeld ?_
          (try simp only [Act.put, List.getElem_toArray, List.getElem_cons_zero, List.getElem_cons_succ, List.setIfInBounds_toArray, List.set_cons_zero, List.set_cons_succ])
          refine wpAnyH_take (i := 9) (v := undef) rfl (by kernel_rfl) (by kernel_rfl) (by kernel_rfl) (fun _ _ _ h => h) (Or.inr ⟨by kernel_rfl, rfl⟩) hHeld ?_
          (try simp only [Act.put, List.getElem_toArray, List.getElem_cons_zero, List.getElem_cons_succ, List.setIfInBounds_toArray, List.set_cons_zero, List.set_cons_succ])
          refine wpAnyH_take (i := 10) (v := undef) rfl (by kernel_rfl) (by kernel_rfl) (by kernel_rfl) (fun _ _ _ h => h) (Or.inr ⟨by kernel_rfl, rfl⟩) hHeld ?_
          (try simp only [Act.put, List.getElem_toArray, List.getElem_cons_zero, List.getElem_cons_succ, List.setIfInBounds_toArray, List.set_cons_zero, List.set_cons_succ])
          refine wpAnyH_take (i := 11) (v := undef) rfl (by kernel_rfl) (by kernel_rfl) (by kernel_rfl) (fun _ _ _ h => h) (Or.inr ⟨by kernel_rfl, rfl⟩) hHeld ?_
          (try simp only [Act.put, List.getElem_toArray, List.getElem_cons_zero, List.getElem_cons_succ, List.setIfInBounds_toArray, List.set_cons_zero, List.set_cons_succ])
          refine' wpAnyH_take (i := 12) (v := _) rfl (by kernel_rfl) (by kernel_rfl) (by kernel_rfl) (fun _ _ _ h => h) (Or.inl ⟨by rfl, ?_⟩) hHeld ?_
          rotate_left
          · intro w hSw
            (try dsimp only at hSw)
            go_simp
            try with_reducible rfl
          (try simp only [Act.put, List.getElem_toArray, List.getElem_cons_zero, List.getElem_cons_succ, List.setIfInBounds_toArray, List.set_cons_zero, List.set_cons_succ])
          refine' wpAnyH_take (i := 13) (v := _) rfl (by kernel_rfl) (by kernel_rfl) (by kernel_rfl) (fun _ _ _ h => h) (Or.inl ⟨by rfl, ?_⟩) hHeld ?_
          rotate_left
          · intro w hSw
            (try dsimp only at hSw)
            go_simp
            try with_reducible rfl
          (try simp only [Act.put, List.getElem_toArray, List.getElem_cons_zero, List.getElem_cons_succ, List.setIfInBounds_toArray, List.set_cons_zero, List.set_cons_succ])
          refine wpAnyH_done (by kernel_rfl) ?_ _
          (try simp only [Act.put, List.getElem_toArray, List.getElem_cons_zero, List.getElem_cons_succ, List.setIfInBounds_toArray, List.set_cons_zero, List.set_cons_succ])
          clear hHeld
          go_wp2_with fail
          go_ret
          exact ⟨by rw [HR.out, inZ_yes (n := a) (lo := 0) (hi := 1) (by omega) (by omega), inZ_no (n := c) (lo := 0) (hi := L) (by omega)]; first | rfl | (refine congrArg (fun b => Ending.returned (Value.bool b)) ?_; exact decide_eq_false (by omega)), (Below.refl _ _).drew⟩
      · go_enter Tryd.func14, Tryd.ntmps14
        go_wp2_with fail
        refine (rLength_minrun _).mono ?_
        rintro e w1 ⟨rfl, rfl⟩
        go_wp2_with fail
        go_ret
        exact ⟨by rw [HR.out, inZ_no (n := a) (lo := 0) (hi := 1) (by omega)]; first | rfl | (refine congrArg (fun b => Ending.returned (Value.bool b)) ?_; exact decide_eq_false (by omega)), Below.refl _ _⟩
    · go_enter Tryd.func14, Tryd.ntmps14
      go_wp2_with fail
      refine (rLength_minrun _).mono ?_
      rintro e w1 ⟨rfl, rfl⟩
      go_wp2_with fail
      go_ret
      exact ⟨by rw [HR.out, inZ_no (n := a) (lo := 0) (hi := 1) (by omega)]; first | rfl | (refine congrArg (fun b => Ending.returned (Value.bool b)) ?_; exact decide_eq_false (by omega)), Below.refl _ _⟩
  · have HF := Lib.hid (show poss_minrun p0 p1 st = false by unfold poss_minrun; split; exact absurd rfl hl; rfl)
    obtain ⟨R, hR⟩ : ∃ x, x = poss_minrun p0 p1 st := ⟨_, rfl⟩
    rw [← hR] at HF ⊢
    obtain ⟨M, hM⟩ : ∃ M, M = st.length := ⟨_, rfl⟩
    have m63 : M ≤ 9223372036854775807 := by rw [hM]; exact hst.2.1
    rw [← hM] at hl ⊢
    have hl2 : ¬ ((M : Int) = 2) := by omega
    clear hM hR hst hl
    go_enter Tryd.func14, Tryd.ntmps14
    go_wp2_with fail
    refine (rLength_minrun _).mono ?_
    rintro e w1 ⟨rfl, rfl⟩
    go_wp2_with fail
    go_ret
    exact ⟨by rw [HF.out]; rfl, Below.refl _ _⟩
set_option maxHeartbeats 4000000 in
set_option maxRecDepth 100000 in
theorem rposs_offdelay (pb po pc : Nat) (p0 : Int) (sa : Option Addr) (sc : Nat) (st : List Int) (w : World) (q0 : w.cell? ⟨pb, po, none⟩ = some (.int .i64 p0)) (hst : InS w sa st.length 1 (flat iL st)) : Calls Tryd.prog 14 #[.string ⟨#[111, 102, 102, 100, 101, 108, 97, 121]⟩, .slice (some ⟨pb, po, none⟩) 1 pc, .slice sa st.length sc] w fun e w' => e = .returned (.bool (poss_offdelay p0 st)) ∧ Below w.heap.size w w' := by
  by_cases hl : st.length = 1
  · obtain ⟨a, rfl⟩ : ∃ a, st = [a] := by
      match st, hl with
      | [a], _ => exact ⟨_, rfl⟩
    obtain ⟨sb, so, rfl, hsl, hsc⟩ := (show InS w sa 1 1 (flat iL [a]) from hst).at (xs := [a]) iL_len (by simp)
    have s0 : w.cell? ⟨sb, so, none⟩ = some (.int .i64 a) := by have h := hsc 0 _ rfl 0 _ rfl; simpa using h
    clear hsl hsc hl hst
    obtain ⟨R, hR⟩ : ∃ x, x = poss_offdelay p0 [a] := ⟨_, rfl⟩
    rw [← hR]
    have HR := Lib.hid (show R = (inZ (-1) a p0) from hR)
    clear hR
    by_cases h1 : (-1) ≤ a
    · by_cases h2 : a ≤ p0
      · go_enter Tryd.func14, Tryd.ntmps14
        go_wp2_with fail
        refine (rLength_offdelay _).mono ?_
        rintro e w1 ⟨rfl, rfl⟩
        go_wp2_with fail
        go_ret
        exact ⟨by rw [HR.out, inZ_yes (n := a) (lo := (-1)) (hi := p0) (by omega) (by omega)]; first | rfl | (refine congrArg (fun b => Ending.returned (Value.bool b)) ?_; exact decide_eq_false (by omega)), Below.refl _ _⟩
      · go_enter Tryd.func14, Tryd.ntmps14
        go_wp2_with fail
        refine (rLength_offdelay _).mono ?_
        rintro e w1 ⟨rfl, rfl⟩
        go_wp2_with fail
        go_ret
        exact ⟨by rw [HR.out, inZ_no (n := a) (lo := (-1)) (hi := p0) (by omega)]; first | rfl | (refine congrArg (fun b => Ending.returned (Value.bool b)) ?_; exact decide_eq_false (by omega)), Below.refl _ _⟩
    · go_enter Tryd.func14, Tryd.ntmps14
      go_wp2_with fail
      refine (rLength_offdelay _).mono ?_
      rintro e w1 ⟨rfl, rfl⟩
      go_wp2_with fail
      go_ret
      exact ⟨by rw [HR.out, inZ_no (n := a) (lo := (-1)) (hi := p0) (by omega)]; first | rfl | (refine congrArg (fun b => Ending.returned (Value.bool b)) ?_; exact decide_eq_false (by omega)), Below.refl _ _⟩
  · have HF := Lib.hid (show poss_offdelay p0 st = false by unfold poss_offdelay; split; exact absurd rfl hl; rfl)
    obtain ⟨R, hR⟩ : ∃ x, x = poss_offdelay p0 st := ⟨_, rfl⟩
    rw [← hR] at HF ⊢
    obtain ⟨M, hM⟩ : ∃ M, M = st.length := ⟨_, rfl⟩
    have m63 : M ≤ 9223372036854775807 := by rw [hM]; exact hst.2.1
    rw [← hM] at hl ⊢
    have hl2 : ¬ ((M : Int) = 1) := by omega
    clear hM hR hst hl
    go_enter Tryd.func14, Tryd.ntmps14
    go_wp2_with fail
    refine (rLength_offdelay _).mono ?_
    rintro e w1 ⟨rfl, rfl⟩
    go_wp2_with fail
    go_ret
    exact ⟨by rw [HF.out]; rfl, Below.refl _ _⟩
set_option maxHeartbeats 4000000 in
set_option maxRecDepth 100000 in
theorem rposs_ondelay (pb po pc : Nat) (p0 : Int) (sa : Option Addr) (sc : Nat) (st : List Int) (w : World) (q0 : w.cell? ⟨pb, po, none⟩ = some (.int .i64 p0)) (hr0 : 0 ≤ p0 ∧ p0 ≤ 86400) (hst : InS w sa st.length 1 (flat iL st)) : Calls Tryd.prog 14 #[.string ⟨#[111, 110, 100, 101, 108, 97, 121]⟩, .slice (some ⟨pb, po, none⟩) 1 pc, .slice sa st.length sc] w fun e w' => e = .returned (.bool (poss_ondelay p0 st)) ∧ Below w.heap.size w w' := by
  by_cases hl : st.length = 1
  · obtain ⟨a, rfl⟩ : ∃ a, st = [a] := by
      match st, hl with
      | [a], _ => exact ⟨_, rfl⟩
    obtain ⟨sb, so, rfl, hsl, hsc⟩ := (show InS w sa 1 1 (flat iL [a]) from hst).at (xs := [a]) iL_len (by simp)
    have s0 : w.cell? ⟨sb, so, none⟩ = some (.int .i64 a) := by have h := hsc 0 _ rfl 0 _ rfl; simpa using h
    clear hsl hsc hl hst
    have e1 : IntKind.i64.wrap (p0 + 1) = p0 + 1 := IntWalk.i64_in _ (by omega)
    obtain ⟨R, hR⟩ : ∃ x, x = poss_ondelay p0 [a] := ⟨_, rfl⟩
    rw [← hR]
    have HR := Lib.hid (show R = (inZ 0 a (p0 + 1)) from hR)
    clear hR
    by_cases h1 : 0 ≤ a
    · by_cases h2 : a ≤ (p0 + 1)
      · go_enter Tryd.func14, Tryd.ntmps14
        go_wp2_with fail
        refine (rLength_ondelay _).mono ?_
        rintro e w1 ⟨rfl, rfl⟩
        go_wp2_with fail
        go_ret
        exact ⟨by rw [HR.out, inZ_yes (n := a) (lo := 0) (hi := (p0 + 1)) (by omega) (by omega)]; first | rfl | (refine congrArg (fun b => Ending.returned (Value.bool b)) ?_; exact decide_eq_false (by omega)), Below.refl _ _⟩
      · go_enter Tryd.func14, Tryd.ntmps14
        go_wp2_with fail
        refine (rLength_ondelay _).mono ?_
        rintro e w1 ⟨rfl, rfl⟩
        go_wp2_with fail
        go_ret
        exact ⟨by rw [HR.out, inZ_no (n := a) (lo := 0) (hi := (p0 + 1)) (by omega)]; first | rfl | (refine congrArg (fun b => Ending.returned (Value.bool b)) ?_; exact decide_eq_false (by omega)), Below.refl _ _⟩
    · go_enter Tryd.func14, Tryd.ntmps14
      go_wp2_with fail
      refine (rLength_ondelay _).mono ?_
      rintro e w1 ⟨rfl, rfl⟩
      go_wp2_with fail
      go_ret
      exact ⟨by rw [HR.out, inZ_no (n := a) (lo := 0) (hi := (p0 + 1)) (by omega)]; first | rfl | (refine congrArg (fun b => Ending.returned (Value.bool b)) ?_; exact decide_eq_false (by omega)), Below.refl _ _⟩
  · have HF := Lib.hid (show poss_ondelay p0 st = false by unfold poss_ondelay; split; exact absurd rfl hl; rfl)
    obtain ⟨R, hR⟩ : ∃ x, x = poss_ondelay p0 st := ⟨_, rfl⟩
    rw [← hR] at HF ⊢
    obtain ⟨M, hM⟩ : ∃ M, M = st.length := ⟨_, rfl⟩
    have m63 : M ≤ 9223372036854775807 := by rw [hM]; exact hst.2.1
    rw [← hM] at hl ⊢
    have hl2 : ¬ ((M : Int) = 1) := by omega
    clear hM hR hst hl
    go_enter Tryd.func14, Tryd.ntmps14
    go_wp2_with fail
    refine (rLength_ondelay _).mono ?_
    rintro e w1 ⟨rfl, rfl⟩
    go_wp2_with fail
    go_ret
    exact ⟨by rw [HF.out]; rfl, Below.refl _ _⟩
set_option maxHeartbeats 4000000 in
set_option maxRecDepth 100000 in
theorem rposs_pulse (pb po pc : Nat) (p0 : Int) (sa : Option Addr) (sc : Nat) (st : List Int) (w : World) (q0 : w.cell? ⟨pb, po, none⟩ = some (.int .i64 p0)) (hst : InS w sa st.length 1 (flat iL st)) : Calls Tryd.prog 14 #[.string ⟨#[112, 117, 108, 115, 101]⟩, .slice (some ⟨pb, po, none⟩) 1 pc, .slice sa st.length sc] w fun e w' => e = .returned (.bool (poss_pulse p0 st)) ∧ Below w.heap.size w w' := by
  by_cases hl : st.length = 2
  · obtain ⟨a, c, rfl⟩ : ∃ a c, st = [a, c] := by
      match st, hl with
      | [a, c], _ => exact ⟨_, _, rfl⟩
    obtain ⟨sb, so, rfl, hsl, hsc⟩ := (show InS w sa 2 1 (flat iL [a, c]) from hst).at (xs := [a, c]) iL_len (by simp)
    have s0 : w.cell? ⟨sb, so, none⟩ = some (.int .i64 a) := by have h := hsc 0 _ rfl 0 _ rfl; simpa using h
    have s1 : w.cell? ⟨sb, so + 1, none⟩ = some (.int .i64 c) := by have h := hsc 1 _ rfl 0 _ rfl; simpa using h
    clear hsl hsc hl hst
    obtain ⟨R, hR⟩ : ∃ x, x = poss_pulse p0 [a, c] := ⟨_, rfl⟩
    rw [← hR]
    have HR := Lib.hid (show R = (inZ 0 a 1 && inZ 0 c p0) from hR)
    clear hR
    by_cases h1 : 0 ≤ a
    · by_cases h2 : a ≤ 1
      · by_cases h3 : 0 ≤ c
        · have dA : decide (0 ≤ c) = true := decide_eq_true h3
          by_cases h4 : c ≤ p0
          · have dB : decide (c ≤ p0) = true := decide_eq_true h4
            go_enter Tryd.func14, Tryd.ntmps14
            go_wp2_with fail
            refine (rLength_pulse _).mono ?_
            rintro e w1 ⟨rfl, rfl⟩
            go_wp2_with fail
            go_quiet (fail)
            go_wp2_with fail
            go_ret
            exact ⟨by rw [HR.out, inZ_yes (n := a) (lo := 0) (hi := 1) (by omega) (by omega), inZ_yes (n := c) (lo := 0) (hi := p0) (by omega) (by omega)]; first | rfl | (refine congrArg (fun b => Ending.returned (Value.bool b)) ?_; exact decide_eq_false (by omega)), belowN _ _ _⟩
          · have dB : decide (c ≤ p0) = false := decide_eq_false h4
            go_enter Tryd.func14, Tryd.ntmps14
            go_wp2_with fail
            refine (rLength_pulse _).mono ?_
            rintro e w1 ⟨rfl, rfl⟩
            go_wp2_with fail
            go_quiet (fail)
            go_wp2_with fail
            go_ret
            exact ⟨by rw [HR.out, inZ_yes (n := a) (lo := 0) (hi := 1) (by omega) (by omega), inZ_no (n := c) (lo := 0) (hi := p0) (by omega)]; first | rfl | (refine congrArg (fun b => Ending.returned (Value.bool b)) ?_; exact decide_eq_false (by omega)), belowN _ _ _⟩
        · have dA : decide (0 ≤ c) = false := decide_eq_false h3
          go_enter Tryd.func14, Tryd.ntmps14
          go_wp2_with fail
          refine (rLength_pulse _).mono ?_
          rintro e w1 ⟨rfl, rfl⟩
          go_wp2_with fail
          go_quiet (fail)
          go_wp2_with fail
          go_ret
          exact ⟨by rw [HR.out, inZ_yes (n := a) (lo := 0) (hi := 1) (by omega) (by omega), inZ_no (n := c) (lo := 0) (hi := p0) (by omega)]; first | rfl | (refine congrArg (fun b => Ending.returned (Value.bool b)) ?_; exact decide_eq_false (by omega)), belowN _ _ _⟩
      · go_enter Tryd.func14, Tryd.ntmps14
        go_wp2_with fail
        refine (rLength_pulse _).mono ?_
        rintro e w1 ⟨rfl, rfl⟩
        go_wp2_with fail
        go_ret
        exact ⟨by rw [HR.out, inZ_no (n := a) (lo := 0) (hi := 1) (by omega)]; first | rfl | (refine congrArg (fun b => Ending.returned (Value.bool b)) ?_; exact decide_eq_false (by omega)), Below.refl _ _⟩
    · go_enter Tryd.func14, Tryd.ntmps14
      go_wp2_with fail
      refine (rLength_pulse _).mono ?_
      rintro e w1 ⟨rfl, rfl⟩
      go_wp2_with fail
      go_ret
      exact ⟨by rw [HR.out, inZ_no (n := a) (lo := 0) (hi := 1) (by omega)]; first | rfl | (refine congrArg (fun b => Ending.returned (Value.bool b)) ?_; exact decide_eq_false (by omega)), Below.refl _ _⟩
  · have HF := Lib.hid (show poss_pulse p0 st = false by unfold poss_pulse; split; exact absurd rfl hl; rfl)
    obtain ⟨R, hR⟩ : ∃ x, x = poss_pulse p0 st := ⟨_, rfl⟩
    rw [← hR] at HF ⊢
    obtain ⟨M, hM⟩ : ∃ M, M = st.length := ⟨_, rfl⟩
    have m63 : M ≤ 9223372036854775807 := by rw [hM]; exact hst.2.1
    rw [← hM] at hl ⊢
    have hl2 : ¬ ((M : Int) = 2) := by omega
    clear hM hR hst hl
    go_enter Tryd.func14, Tryd.ntmps14
    go_wp2_with fail
    refine (rLength_pulse _).mono ?_
    rintro e w1 ⟨rfl, rfl⟩
    go_wp2_with fail
    go_ret
    exact ⟨by rw [HF.out]; rfl, Below.refl _ _⟩
end Go.Proofs.YtmhfkdnblemfdaaDoor
