/- Contract of the specification's Date. -/
import Derived.Test.YtaaaddmdcldclaaGreatDoorTt
import Derived.Deep.CutBlock
namespace Go.Proofs.YtaaaddmdcldclaaGreatDoor
open Go.RowKit Go.Shelf
set_option linter.unusedVariables false
set_option linter.unusedSimpArgs false

def partD (s : ByteArray) (m : Int) : Bool := starB s || (decide (1 ≤ numberN s) && decide (numberN s ≤ m))
/-- whether a text has the form of a date, and whether month and day are in their ranges -/
def dateR (s : ByteArray) : Bool × Bool := match Cv.partsB s 45 with
  | [a, b, c] => if (fieldB a 4 && fieldB b 2 && fieldB c 2) = true then (true, partD b 12 && partD c 31) else (false, false)
  | _ => (false, false)
theorem dateR_three {s a b c : ByteArray} (h : Cv.partsB s 45 = [a, b, c]) : dateR s = if (fieldB a 4 && fieldB b 2 && fieldB c 2) = true then (true, partD b 12 && partD c 31) else (false, false) := by
  unfold dateR; rw [h]
theorem dateR_other {s : ByteArray} (h : (Cv.partsB s 45).length ≠ 3) : dateR s = (false, false) := by
  unfold dateR
  generalize Cv.partsB s 45 = ps at *
  rcases ps with _ | ⟨a, _ | ⟨b, _ | ⟨c, _ | ⟨d, r⟩⟩⟩⟩ <;> first | rfl | exact absurd rfl h
theorem parts_le (s : ByteArray) (d : UInt8) : ∀ x ∈ Cv.partsB s d, x.size ≤ s.size := by
  have key : ∀ (k : Nat) (s : ByteArray), ∀ x ∈ Lib.splitB ⟨#[d]⟩ 0 k s, x.size ≤ s.size := by
    intro k
    induction k with
    | zero => intro s x hx; have : x = s := by simpa [Lib.splitB] using hx
              rw [this]; exact Nat.le_refl _
    | succ k ih =>
      intro s x hx
      unfold Lib.splitB at hx
      split at hx
      · have : x = s := by simpa using hx
        rw [this]; exact Nat.le_refl _
      · rcases List.mem_cons.1 hx with rfl | hx
        · rw [ByteArray.size_extract]; omega
        · have := ih _ x hx
          rw [ByteArray.size_extract] at this
          omega
  exact key _ s
theorem keep3 {w1 w2 : World} {pb po : Nat} {a b c : ByteArray} (hb : Below w1.heap.size w1 w2) (h : w1.cell? ⟨pb, po, none⟩ = some (.string a) ∧ w1.cell? ⟨pb, po + 1, none⟩ = some (.string b) ∧ w1.cell? ⟨pb, po + 2, none⟩ = some (.string c)) : w2.cell? ⟨pb, po, none⟩ = some (.string a) ∧ w2.cell? ⟨pb, po + 1, none⟩ = some (.string b) ∧ w2.cell? ⟨pb, po + 2, none⟩ = some (.string c) :=
  ⟨(hb.cell (p := ⟨pb, po, none⟩) (World.block_lt_of_cell? _ _ h.1)).trans h.1, (hb.cell (p := ⟨pb, po + 1, none⟩) (World.block_lt_of_cell? _ _ h.2.1)).trans h.2.1, (hb.cell (p := ⟨pb, po + 2, none⟩) (World.block_lt_of_cell? _ _ h.2.2)).trans h.2.2⟩
set_option maxHeartbeats 8000000 in
set_option maxRecDepth 100000 in
theorem date_any (s : ByteArray) (hs : s.size ≤ 1000000) (w : World) : Calls Tryz.prog 40 #[.string s] w fun e w' => e = .returned (.tuple #[.bool (dateR s).1, .bool (dateR s).2]) ∧ Below w.heap.size w w' := by
  have hp := parts_any s 45 hs w
  have HP := Lib.hid (show Calls Tryz.prog 65 #[.string s, .int .u8 45] w fun e w' => PartsOut (Cv.partsB s 45) e w' ∧ Below w.heap.size w w' from hp)
  have hle := parts_le s 45
  obtain ⟨ps, hps⟩ : ∃ ps, ps = Cv.partsB s 45 := ⟨_, rfl⟩
  have h3 := fun (a b c : ByteArray) (h : ps = [a, b, c]) => dateR_three (s := s) (hps.symm.trans h)
  have ho := fun (h : ps.length ≠ 3) => dateR_other (s := s) (by rw [← hps]; exact h)
  rw [← hps] at HP hle
  clear hp hps
  obtain ⟨N, hN⟩ : ∃ N, N = ps.length := ⟨_, rfl⟩
  have HN := Lib.hid hN
  by_cases hn3 : N = 3
  rotate_left
  · have HY := Lib.hid (ho (by rw [← hN]; exact hn3))
    have tn : ((N : Int) != 3) = true := by rw [bne_iff_ne]; omega
    clear h3 ho hle hN hn3
    go_enter Tryz.func40, Tryz.ntmps40
    go_wp2_with fail
    refine (HP.out).mono ?_
    rintro e w1 ⟨⟨a1, c1, rfl, hi⟩, hb⟩
    rw [← HN.out]
    have HB := Lib.hid hb
    clear hb hi HP
    go_wp2_with fail
    go_ret2
    exact ⟨by rw [HY.out]; (first | done | rfl), HB.out⟩
  obtain ⟨a, b, c, rfl⟩ : ∃ a b c, ps = [a, b, c] := by
    rcases ps with _ | ⟨a, _ | ⟨b, _ | ⟨c, _ | ⟨d, r⟩⟩⟩⟩
    · simp at hN; omega
    · simp at hN; omega
    · simp at hN; omega
    · exact ⟨a, b, c, rfl⟩
    · simp at hN; omega
  have HD3 := Lib.hid (h3 a b c rfl)
  have ha : a.size ≤ 1000000 := Nat.le_trans (hle a (by simp)) hs
  have hbz : b.size ≤ 1000000 := Nat.le_trans (hle b (by simp)) hs
  have hcz : c.size ≤ 1000000 := Nat.le_trans (hle c (by simp)) hs
  have hfa := fun w => field_any a 4 ha w
  have hfb := fun w => field_any b 2 hbz w
  have hfc := fun w => field_any c 2 hcz w
  obtain ⟨FA, hFA⟩ : ∃ F, F = fieldB a 4 := ⟨_, rfl⟩
  obtain ⟨FB, hFB⟩ : ∃ F, F = fieldB b 2 := ⟨_, rfl⟩
  obtain ⟨FC, hFC⟩ : ∃ F, F = fieldB c 2 := ⟨_, rfl⟩
  rw [← hFA] at hfa
  rw [← hFB] at hfb
  rw [← hFC] at hfc
  have HFA := Lib.hid (show ∀ w, Calls Tryz.prog 66 #[.string a, .int .i64 4] w fun e w' => e = .returned (.bool FA) ∧ Below w.heap.size w w' from hfa)
  have HFB := Lib.hid (show ∀ w, Calls Tryz.prog 66 #[.string b, .int .i64 2] w fun e w' => e = .returned (.bool FB) ∧ Below w.heap.size w w' from hfb)
  have HFC := Lib.hid (show ∀ w, Calls Tryz.prog 66 #[.string c, .int .i64 2] w fun e w' => e = .returned (.bool FC) ∧ Below w.heap.size w w' from hfc)
  have HEA := Lib.hid hFA.symm
  have HEB := Lib.hid hFB.symm
  have HEC := Lib.hid hFC.symm
  have hnb := fun w => number_any b hbz w
  have hnc := fun w => number_any c hcz w
  obtain ⟨m, hm⟩ : ∃ m, m = numberN b := ⟨_, rfl⟩
  obtain ⟨d, hd⟩ : ∃ m, m = numberN c := ⟨_, rfl⟩
  rw [← hm] at hnb
  rw [← hd] at hnc
  have HNB := Lib.hid hnb
  have HNC := Lib.hid hnc
  have HM := Lib.hid hm
  have HDD := Lib.hid hd
  subst hn3
  clear hfa hfb hfc hFA hFB hFC hnb hnc hm hd ha hbz hcz hle h3 ho hN hs
  go_enter Tryz.func40, Tryz.ntmps40
  go_wp2_with fail
  refine (HP.out).mono ?_
  rintro e w1 ⟨⟨a1, c1, rfl, hi⟩, hb⟩
  obtain ⟨pb, po, rfl, hl, hc⟩ := (show InS w1 a1 ([a, b, c] : List ByteArray).length 1 (flat strL [a, b, c]) from hi).at strL_len (by simp)
  have HC := Lib.hid (show w1.cell? ⟨pb, po, none⟩ = some (.string a) ∧ w1.cell? ⟨pb, po + 1, none⟩ = some (.string b) ∧ w1.cell? ⟨pb, po + 2, none⟩ = some (.string c) from ⟨hc 0 _ rfl 0 _ rfl, hc 1 _ rfl 0 _ rfl, hc 2 _ rfl 0 _ rfl⟩)
  have HB := Lib.hid hb
  rw [← HN.out]
  clear hb hi HP hl hc
  have x0 := HC.out.1
  have x1 := HC.out.2.1
  have x2 := HC.out.2.2
  go_wp2_with fail
  refine (HFA.out _).mono ?_
  rintro e w2 ⟨rfl, hb⟩
  have HB := Lib.hid (HB.out.trans (hb.mono HB.out.size))
  have HC := Lib.hid (keep3 hb HC.out)
  clear hb x0 x1 x2
  cases FA
  · have HY := Lib.hid (show dateR s = (false, false) by rw [HD3.out, if_neg (by rw [HEA.out]; simp)])
    go_wp2_with fail
    go_ret2
    exact ⟨by rw [HY.out]; (first | done | rfl), HB.out⟩
  have x0 := HC.out.1
  have x1 := HC.out.2.1
  have x2 := HC.out.2.2
  go_wp2_with fail
  refine (HFB.out _).mono ?_
  rintro e w2 ⟨rfl, hb⟩
  have HB := Lib.hid (HB.out.trans (hb.mono HB.out.size))
  have HC := Lib.hid (keep3 hb HC.out)
  clear hb x0 x1 x2
  cases FB
  · have HY := Lib.hid (show dateR s = (false, false) by rw [HD3.out, if_neg (by rw [HEB.out]; simp)])
    go_wp2_with fail
    go_ret2
    exact ⟨by rw [HY.out]; (first | done | rfl), HB.out⟩
  have x0 := HC.out.1
  have x1 := HC.out.2.1
  have x2 := HC.out.2.2
  go_wp2_with fail
  refine (HFC.out _).mono ?_
  rintro e w2 ⟨rfl, hb⟩
  have HB := Lib.hid (HB.out.trans (hb.mono HB.out.size))
  have HC := Lib.hid (keep3 hb HC.out)
  clear hb x0 x1 x2
  cases FC
  · have HY := Lib.hid (show dateR s = (false, false) by rw [HD3.out, if_neg (by rw [HEC.out]; simp)])
    go_wp2_with fail
    go_ret2
    exact ⟨by rw [HY.out]; (first | done | rfl), HB.out⟩
  have HY := Lib.hid (show dateR s = (true, partD b 12 && partD c 31) by rw [HD3.out, if_pos (by rw [HEA.out, HEB.out, HEC.out]; rfl)])
  have x0 := HC.out.1
  have x1 := HC.out.2.1
  have x2 := HC.out.2.2
  go_wp2_with fail
  have s0 := HC.out
  refine wp_region_held_drew (S := fun w => w.cell? ⟨pb, po, none⟩ = some (.string a) ∧ w.cell? ⟨pb, po + 1, none⟩ = some (.string b) ∧ w.cell? ⟨pb, po + 2, none⟩ = some (.string c)) (by kernel_rfl) s0 (fun hHeld => ?_)
  clear s0 x0 x1 x2
  have HB := Lib.hid HB.out.drew
  obtain ⟨W9, hW9⟩ : ∃ z, z = w2.drew := ⟨_, rfl⟩
  rw [← hW9] at HB hHeld ⊢
  clear hW9
  refine' wpAnyH_take (i := 0) (v := _) rfl (by kernel_rfl) (by kernel_rfl) (by kernel_rfl) (fun _ _ _ h => h) (Or.inl ⟨by rfl, ?_⟩) hHeld ?_
  rotate_left
  · intro w hSw
    (try dsimp only at hSw)
    go_simp
    try with_reducible rfl
  (try simp only [Act.put, List.getElem_toArray, List.getElem_cons_zero, List.getElem_cons_succ, List.setIfInBounds_toArray, List.set_cons_zero, List.set_cons_succ])
  refine' wpAnyH_take (i := 1) (v := _) rfl (by kernel_rfl) (by kernel_rfl) (by kernel_rfl) (fun _ _ _ h => h) (Or.inl ⟨by rfl, ?_⟩) hHeld ?_
  rotate_left
  · intro w hSw
    (try dsimp only at hSw)
    go_simp
    try with_reducible rfl
  (try simp only [Act.put, List.getElem_toArray, List.getElem_cons_zero, List.getElem_cons_succ, List.setIfInBounds_toArray, List.set_cons_zero, List.set_cons_succ])
  refine' wpAnyH_take (i := 2) (v := _) rfl (by kernel_rfl) (by kernel_rfl) (by kernel_rfl) (fun _ _ _ h => h) (Or.inl ⟨by rfl, ?_⟩) hHeld ?_
  rotate_left
  · intro w hSw
    (try dsimp only at hSw)
    go_simp
    try with_reducible rfl
  (try simp only [Act.put, List.getElem_toArray, List.getElem_cons_zero, List.getElem_cons_succ, List.setIfInBounds_toArray, List.set_cons_zero, List.set_cons_succ])
  refine' wpAnyH_take (i := 4) (v := _) rfl (by kernel_rfl) (by kernel_rfl) (by kernel_rfl) (fun _ _ _ h => h) (Or.inl ⟨by rfl, ?_⟩) hHeld ?_
  rotate_left
  · intro w hSw
    (try dsimp only at hSw)
    go_simp
    try with_reducible rfl
  (try simp only [Act.put, List.getElem_toArray, List.getElem_cons_zero, List.getElem_cons_succ, List.setIfInBounds_toArray, List.set_cons_zero, List.set_cons_succ])
  refine' wpAnyH_take (i := 5) (v := _) rfl (by kernel_rfl) (by kernel_rfl) (by kernel_rfl) (fun _ _ _ h => h) (Or.inl ⟨by rfl, ?_⟩) hHeld ?_
  rotate_left
  · intro w hSw
    (try dsimp only at hSw)
    go_simp
    try with_reducible rfl
  (try simp only [Act.put, List.getElem_toArray, List.getElem_cons_zero, List.getElem_cons_succ, List.setIfInBounds_toArray, List.set_cons_zero, List.set_cons_succ])
  refine' wpAnyH_take (i := 6) (v := _) rfl (by kernel_rfl) (by kernel_rfl) (by kernel_rfl) (fun _ _ _ h => h) (Or.inl ⟨by rfl, ?_⟩) hHeld ?_
  rotate_left
  · intro w hSw
    (try dsimp only at hSw)
    go_simp
    try with_reducible rfl
  (try simp only [Act.put, List.getElem_toArray, List.getElem_cons_zero, List.getElem_cons_succ, List.setIfInBounds_toArray, List.set_cons_zero, List.set_cons_succ])
  refine wpAnyH_ready (rs := [3]) (by kernel_rfl) (by simp) ?_
  refine AllReadyH.cons rfl (fun K hK => ?_) AllReadyH.nil
  go_simp
  refine (HNB.out _).mono ?_
  rintro e w2 ⟨rfl, hb⟩
  have HB := Lib.hid (HB.out.trans (hb.mono HB.out.size))
  have HSX := keep3 hb hHeld
  have HC := Lib.hid HSX
  clear hb hHeld
  (try go_simp)
  refine hK.out _ _ HSX (fun hHeld => ?_)
  clear hK K HSX
  (try simp only [Act.put, List.getElem_toArray, List.getElem_cons_zero, List.getElem_cons_succ, List.setIfInBounds_toArray, List.set_cons_zero, List.set_cons_succ])
  refine wpAnyH_ready (rs := [7]) (by kernel_rfl) (by simp) ?_
  refine AllReadyH.cons rfl (fun K hK => ?_) AllReadyH.nil
  go_simp
  refine (HNC.out _).mono ?_
  rintro e w2 ⟨rfl, hb⟩
  have HB := Lib.hid (HB.out.trans (hb.mono HB.out.size))
  have HSX := keep3 hb hHeld
  have HC := Lib.hid HSX
  clear hb hHeld
  (try go_simp)
  refine hK.out _ _ HSX (fun hHeld => ?_)
  clear hK K HSX
  (try simp only [Act.put, List.getElem_toArray, List.getElem_cons_zero, List.getElem_cons_succ, List.setIfInBounds_toArray, List.set_cons_zero, List.set_cons_succ])
  refine' wpAnyH_take (i := 8) (v := _) rfl (by kernel_rfl) (by kernel_rfl) (by kernel_rfl) (fun _ _ _ h => h) (Or.inl ⟨by rfl, ?_⟩) hHeld ?_
  rotate_left
  · intro w hSw
    (try dsimp only at hSw)
    go_simp
    try with_reducible rfl
  (try simp only [Act.put, List.getElem_toArray, List.getElem_cons_zero, List.getElem_cons_succ, List.setIfInBounds_toArray, List.set_cons_zero, List.set_cons_succ])
  refine' wpAnyH_take (i := 9) (v := _) rfl (by kernel_rfl) (by kernel_rfl) (by kernel_rfl) (fun _ _ _ h => h) (Or.inl ⟨by rfl, ?_⟩) hHeld ?_
  rotate_left
  · intro w hSw
    (try dsimp only at hSw)
    go_simp
    try with_reducible rfl
  (try simp only [Act.put, List.getElem_toArray, List.getElem_cons_zero, List.getElem_cons_succ, List.setIfInBounds_toArray, List.set_cons_zero, List.set_cons_succ])
  refine wpAnyH_done (by kernel_rfl) ?_ _
  (try simp only [Act.put, List.getElem_toArray, List.getElem_cons_zero, List.getElem_cons_succ, List.setIfInBounds_toArray, List.set_cons_zero, List.set_cons_succ])
  clear hHeld
  have eb : partD b 12 = (((b).toList == ([42] : List UInt8)) || (decide (1 ≤ m) && decide (m ≤ 12))) := by unfold partD starB; rw [HM.out]
  have ec : partD c 31 = (((c).toList == ([42] : List UInt8)) || (decide (1 ≤ d) && decide (d ≤ 31))) := by unfold partD starB; rw [HDD.out]
  cases tb : ((b).toList == ([42] : List UInt8))
  rotate_left
  · have qb : partD b 12 = true := by rw [eb, tb]; rfl
    cases tc : ((c).toList == ([42] : List UInt8))
    rotate_left
    · have qc : partD c 31 = true := by rw [ec, tc]; rfl
      have HZ := Lib.hid (show dateR s = (true, true) by rw [HY.out, qb, qc]; rfl)
      have x0 := HC.out.1
      have x1 := HC.out.2.1
      have x2 := HC.out.2.2
      clear eb ec qb qc
      go_wp2_with fail
      go_ret2
      exact ⟨by rw [HZ.out]; (first | done | rfl), HB.out⟩
    by_cases uc : 1 ≤ d
    rotate_left
    · have qc : partD c 31 = false := by rw [ec, tc, decide_eq_false uc]; rfl
      have HZ := Lib.hid (show dateR s = (true, false) by rw [HY.out, qb, qc]; rfl)
      have x0 := HC.out.1
      have x1 := HC.out.2.1
      have x2 := HC.out.2.2
      clear eb ec qb qc
      go_wp2_with fail
      go_ret2
      exact ⟨by rw [HZ.out]; (first | done | rfl), HB.out⟩
    by_cases zc : d ≤ 31
    rotate_left
    · have qc : partD c 31 = false := by rw [ec, tc, decide_eq_false zc]; simp
      have HZ := Lib.hid (show dateR s = (true, false) by rw [HY.out, qb, qc]; rfl)
      have x0 := HC.out.1
      have x1 := HC.out.2.1
      have x2 := HC.out.2.2
      clear eb ec qb qc
      go_wp2_with fail
      go_ret2
      exact ⟨by rw [HZ.out]; (first | done | rfl), HB.out⟩
    have qc : partD c 31 = true := by rw [ec, tc, decide_eq_true uc, decide_eq_true zc]; rfl
    have HZ := Lib.hid (show dateR s = (true, true) by rw [HY.out, qb, qc]; rfl)
    have x0 := HC.out.1
    have x1 := HC.out.2.1
    have x2 := HC.out.2.2
    clear eb ec qb qc
    go_wp2_with fail
    go_ret2
    exact ⟨by rw [HZ.out]; (first | done | rfl), HB.out⟩
  by_cases ub : 1 ≤ m
  rotate_left
  · have qb : partD b 12 = false := by rw [eb, tb, decide_eq_false ub]; rfl
    have HZ := Lib.hid (show dateR s = (true, false) by rw [HY.out, qb]; rfl)
    have x0 := HC.out.1
    have x1 := HC.out.2.1
    have x2 := HC.out.2.2
    clear eb ec qb
    go_wp2_with fail
    go_ret2
    exact ⟨by rw [HZ.out]; (first | done | rfl), HB.out⟩
  by_cases zb : m ≤ 12
  rotate_left
  · have qb : partD b 12 = false := by rw [eb, tb, decide_eq_false zb]; simp
    have HZ := Lib.hid (show dateR s = (true, false) by rw [HY.out, qb]; rfl)
    have x0 := HC.out.1
    have x1 := HC.out.2.1
    have x2 := HC.out.2.2
    clear eb ec qb
    go_wp2_with fail
    go_ret2
    exact ⟨by rw [HZ.out]; (first | done | rfl), HB.out⟩
  have qb : partD b 12 = true := by rw [eb, tb, decide_eq_true ub, decide_eq_true zb]; rfl
  cases tc : ((c).toList == ([42] : List UInt8))
  rotate_left
  · have qc : partD c 31 = true := by rw [ec, tc]; rfl
    have HZ := Lib.hid (show dateR s = (true, true) by rw [HY.out, qb, qc]; rfl)
    have x0 := HC.out.1
    have x1 := HC.out.2.1
    have x2 := HC.out.2.2
    clear eb ec qb qc
    go_wp2_with fail
    go_ret2
    exact ⟨by rw [HZ.out]; (first | done | rfl), HB.out⟩
  by_cases uc : 1 ≤ d
  rotate_left
  · have qc : partD c 31 = false := by rw [ec, tc, decide_eq_false uc]; rfl
    have HZ := Lib.hid (show dateR s = (true, false) by rw [HY.out, qb, qc]; rfl)
    have x0 := HC.out.1
    have x1 := HC.out.2.1
    have x2 := HC.out.2.2
    clear eb ec qb qc
    go_wp2_with fail
    go_ret2
    exact ⟨by rw [HZ.out]; (first | done | rfl), HB.out⟩
  by_cases zc : d ≤ 31
  rotate_left
  · have qc : partD c 31 = false := by rw [ec, tc, decide_eq_false zc]; simp
    have HZ := Lib.hid (show dateR s = (true, false) by rw [HY.out, qb, qc]; rfl)
    have x0 := HC.out.1
    have x1 := HC.out.2.1
    have x2 := HC.out.2.2
    clear eb ec qb qc
    go_wp2_with fail
    go_ret2
    exact ⟨by rw [HZ.out]; (first | done | rfl), HB.out⟩
  have qc : partD c 31 = true := by rw [ec, tc, decide_eq_true uc, decide_eq_true zc]; rfl
  have HZ := Lib.hid (show dateR s = (true, true) by rw [HY.out, qb, qc]; rfl)
  have x0 := HC.out.1
  have x1 := HC.out.2.1
  have x2 := HC.out.2.2
  clear eb ec qb qc
  go_wp2_with fail
  go_ret2
  exact ⟨by rw [HZ.out]; (first | done | rfl), HB.out⟩
end Go.Proofs.YtaaaddmdcldclaaGreatDoor
