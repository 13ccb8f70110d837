/- The law Counts of timer. Asked: MaxLen's cell holds some number. -/
import Derived.Test.YtfgkgokmniocjaaDoorCi
import Derived.Deep.AppendLies
namespace Go.Proofs.YtfgkgokmniocjaaDoor
open Go.RowKit Go.Shelf

set_option linter.unusedVariables false
set_option linter.unusedSimpArgs false
theorem outs_in {w : World} {va : Option Addr} {M i : Nat} {ko : Int} {Ov : Nat → Int} (h : InS w va M 2 (flat valL (outsV ko Ov M))) (hi : i < M) : ∃ b o, va = some ⟨b, o, none⟩ ∧ b < w.heap.size ∧ w.cell? ⟨b, o + i * 2, none⟩ = some (.int .i64 ko) ∧ w.cell? ⟨b, o + i * 2 + 1, none⟩ = some (.int .i64 (Ov i)) := by
  have e : (outsV ko Ov M)[i]? = some ⟨ko, Ov i⟩ := by unfold outsV; rw [List.getElem?_map, List.getElem?_range hi]; rfl
  have hl : (outsV ko Ov M).length = M := outsV_len ko Ov M
  obtain ⟨b, o, rfl, hb, hc⟩ := (show InS w va (outsV ko Ov M).length 2 (flat valL (outsV ko Ov M)) by rw [hl]; exact h).at valL_len (by omega)
  exact ⟨b, o, rfl, hb, by have := hc i _ e 0 _ rfl; rw [Nat.add_zero] at this; exact this, hc i _ e 1 _ rfl⟩
theorem bit_cases (b : Bool) : bitN b = 0 ∨ bitN b = 1 := by cases b; exact .inl rfl; exact .inr rfl
/-- both lists step by step -/
def psL (bs cs : List Bool) : List (Int × Int) := (List.zip bs cs).map fun p => (bitN p.1, bitN p.2)
theorem psL_len (bs cs : List Bool) (h : cs.length = bs.length) : (psL bs cs).length = bs.length := by
  unfold psL; rw [List.length_map, List.length_zip]; omega
theorem psL_at {bs cs : List Bool} {j : Nat} {x y : Bool} (hx : bs[j]? = some x) (hy : cs[j]? = some y) : (psL bs cs)[j]? = some (bitN x, bitN y) := by
  unfold psL
  rw [List.getElem?_map, List.zip, List.getElem?_zipWith, hx, hy]
  rfl
theorem psL_ok (bs cs : List Bool) : ∀ p ∈ psL bs cs, (p.1 = 0 ∨ p.1 = 1) ∧ (p.2 = 0 ∨ p.2 = 1) := by
  intro p h
  obtain ⟨b, _, rfl⟩ := List.mem_map.1 h
  exact ⟨bit_cases _, bit_cases _⟩
theorem insP_take (ps : List (Int × Int)) (j : Nat) (a b : Int) (h : ps[j]? = some (a, b)) : insP (ps.take (j + 1)) = insP (ps.take j) ++ [[⟨2, a⟩, ⟨2, b⟩]] := by
  unfold insP
  rw [List.take_add_one, h, List.map_append]
  rfl
theorem grow_as {w X w5 : World} {B T sz n : Nat} {v : Value} {L : List Value} (_ : w.ownsRow B T sz v n L) (hg : X.grownBy w5 v.ownBlock) : X.grownBy w5 v.ownBlock := hg
theorem count_prev (dt : Int) (ps : List (Int × Int)) (zs : List Int) (h : ∀ k, (ps.getD k (0, 0)).1 = zs.getD k 0) : ∀ k, (stCount dt ps k).1 = stEdge dt zs k
  | 0 => rfl
  | k + 1 => h k
theorem count_small (dt : Int) (ps : List (Int × Int)) : ∀ k : Nat, 0 ≤ (stCount dt ps k).2 ∧ (stCount dt ps k).2 ≤ k
  | 0 => ⟨Int.le_refl _, Int.le_refl _⟩
  | k + 1 => by
    have h := count_small dt ps k
    show 0 ≤ cntS (ps.getD k (0, 0)).1 (ps.getD k (0, 0)).2 (stCount dt ps k).1 (stCount dt ps k).2 ∧ cntS (ps.getD k (0, 0)).1 (ps.getD k (0, 0)).2 (stCount dt ps k).1 (stCount dt ps k).2 ≤ ((k + 1 : Nat) : Int)
    unfold cntS
    (repeat' split) <;> omega
theorem edge_bit (dt : Int) (zs : List Int) (k : Nat) : ovEdge dt zs k = 0 ∨ ovEdge dt zs k = 1 := by
  unfold ovEdge edgeN
  split
  · exact .inr rfl
  · exact .inl rfl
/-- a step with no reset counts the edge -/
theorem count_step (dt : Int) (ps : List (Int × Int)) (zs : List Int) (h : ∀ k, (ps.getD k (0, 0)).1 = zs.getD k 0) (k : Nat) (hk : k ≤ 1000) (hr : (ps.getD k (0, 0)).2 = 0) : (stCount dt ps (k + 1)).2 = (stCount dt ps k).2 + ovEdge dt zs k := by
  have hs := count_small dt ps k
  show cntS (ps.getD k (0, 0)).1 (ps.getD k (0, 0)).2 (stCount dt ps k).1 (stCount dt ps k).2 = _
  unfold cntS ovEdge edgeN
  rw [count_prev dt ps zs h, h k, hr, if_neg (by decide)]
  split <;> omega
theorem count_zero (dt : Int) (ps : List (Int × Int)) (k : Nat) (hr : (ps.getD k (0, 0)).2 = 1) : (stCount dt ps (k + 1)).2 = 0 := by
  show cntS (ps.getD k (0, 0)).1 (ps.getD k (0, 0)).2 (stCount dt ps k).1 (stCount dt ps k).2 = _
  unfold cntS
  rw [if_pos hr]
theorem latch_zero (dt : Int) (ps : List (Int × Int)) (k : Nat) (hr : (ps.getD k (0, 0)).2 = 1) : stLatch dt ps (k + 1) = bitN false := by
  show latchN (ps.getD k (0, 0)).1 (ps.getD k (0, 0)).2 (stLatch dt ps k) = _
  unfold latchN
  rw [if_pos hr]
  rfl
theorem latch_step (dt : Int) (ps : List (Int × Int)) (k : Nat) (hr : (ps.getD k (0, 0)).2 = 0) (p H : Bool) (hp : (ps.getD k (0, 0)).1 = bitN p) (hH : stLatch dt ps k = bitN H) : stLatch dt ps (k + 1) = bitN (H || p) := by
  show latchN (ps.getD k (0, 0)).1 (ps.getD k (0, 0)).2 (stLatch dt ps k) = _
  unfold latchN
  rw [hr, hp, hH, if_neg (by decide)]
  cases p <;> cases H <;> rfl
theorem ov_count (dt : Int) (ps : List (Int × Int)) (k : Nat) : ovCount dt ps k = 1000 * (stCount dt ps (k + 1)).2 := rfl
theorem ov_latch (dt : Int) (ps : List (Int × Int)) (k : Nat) : ovLatch dt ps k = stLatch dt ps (k + 1) := rfl
set_option maxHeartbeats 16000000 in
set_option maxRecDepth 100000 in
theorem counts_law (a : Option Addr) (c : Nat) (bs : List Bool) (a2 : Option Addr) (c2 : Nat) (cs : List Bool) (dt : Int) (w : World) (hm : MaxAt w) (hin : InS w a bs.length 1 (flat boolL bs)) (hin2 : InS w a2 cs.length 1 (flat boolL cs)) :
    Calls Tryd.prog 8 #[.slice a bs.length c, .slice a2 cs.length c2, .int .i64 dt] w fun e w' => e = .returned (.bool true) ∧ Below w.heap.size w w' := by
  have KAW := Lib.hid (awake_yes w hm)
  have HM := Lib.hid hm
  have HIN := Lib.hid hin
  have HIN2 := Lib.hid hin2
  obtain ⟨M, hM⟩ : ∃ M, M = bs.length := ⟨_, rfl⟩
  obtain ⟨N, hN⟩ : ∃ N, N = cs.length := ⟨_, rfl⟩
  have HML := Lib.hid hM
  have HNL := Lib.hid hN
  have m63 : M ≤ 9223372036854775807 := by rw [hM]; exact hin.2.1
  have n63 : N ≤ 9223372036854775807 := by rw [hN]; exact hin2.2.1
  rw [← hM, ← hN]
  clear hm hin hM hin2 hN
  by_cases hearly : (80 < M) ∨ (¬ 80 < M ∧ ¬ N = M) ∨ (¬ 80 < M ∧ N = M ∧ dt < 1) ∨ (¬ 80 < M ∧ N = M ∧ ¬ dt < 1 ∧ 1000 < dt)
  · rcases hearly with x0 | ⟨x0, x1⟩ | ⟨x0, x1, x2⟩ | ⟨x0, x1, x2, x3⟩
    all_goals
      go_enter Tryd.func8, Tryd.ntmps8
      go_wp2_with fail
      refine KAW.out.mono ?_
      rintro e w1 ⟨rfl, hb⟩
      have HB1 := Lib.hid hb
      clear hb
      go_wp2_with fail
      go_ret
      exact ⟨rfl, HB1.out⟩
  · obtain rfl : N = M := by omega
    have m80 : N ≤ 80 := by omega
    have u1 : 1 ≤ dt := by omega
    have u2 : dt ≤ 1000 := by omega
    clear hearly m63 n63
    obtain ⟨M, hMM⟩ : ∃ M, M = N := ⟨_, rfl⟩
    rw [← hMM] at HML HNL m80 ⊢
    clear hMM N
    go_enter Tryd.func8, Tryd.ntmps8
    go_wp2_with fail
    refine KAW.out.mono ?_
    rintro e wa ⟨rfl, hb⟩
    have HB1 := Lib.hid hb
    clear hb KAW
    obtain ⟨iv, hif, hz0, hz1, hz2⟩ := info_parts infoSV
    have HIF := Lib.hid hif
    have HZA := Lib.hid hz0
    have HZB := Lib.hid hz1
    have HZC := Lib.hid hz2
    obtain ⟨BB, hBB⟩ : ∃ b, b = wa.heap.size := ⟨_, rfl⟩
    have HWB := Lib.hid (show w.heap.size ≤ BB by have := HB1.out.size; omega)
    have HL0 := Lib.hid (ll_nil wa BB (by omega))
    have HBW0 := Lib.hid (HB1.out.alloc HB1.out.size (Obj.cells #[] 23))
    have HBB0 := Lib.hid (show BB ≤ (wa.alloc (Obj.cells #[] 23)).heap.size by rw [World.size_alloc]; omega)
    clear hif hz0 hz1 hz2 hBB
    go_wp2_with fail
    go_loopw [7, 8] (fun v i wr => ∃ j : Nat, j ≤ M ∧ i = .int .i64 j ∧ Hid (LL wr BB v j (insP ((psL bs cs).take j)) ∧ Below w.heap.size w wr ∧ BB ≤ wr.heap.size)) (fun _ i _ => M - (intOf i).toNat)
    case atStart => exact ⟨0, Nat.zero_le _, rfl, Lib.hid ⟨HL0.out, HBW0.out, HBB0.out⟩⟩
    case round =>
      obtain ⟨j, hj, rfl, hH⟩ := hrel
      have HL := Lib.hid hH.out.1
      have HBR := Lib.hid hH.out.2.1
      have HZR := Lib.hid hH.out.2.2
      clear hH HL0 HBW0 HBB0
      by_cases hlt : j < M
      · obtain ⟨lb, lo, rfl, hll, hlc⟩ := (show InS wr a bs.length 1 (flat boolL bs) from HIN.out.keep HBR.out).at boolL_len (by have := HML.out; omega)
        obtain ⟨mb, mo, rfl, hml, hmc⟩ := (show InS wr a2 cs.length 1 (flat boolL cs) from HIN2.out.keep HBR.out).at boolL_len (by have := HNL.out; omega)
        have llow : lb < w.heap.size := (ins_low HIN.out).resolve_left (by have := HML.out; omega) lb lo rfl
        have mlow : mb < w.heap.size := (ins_low HIN2.out).resolve_left (by have := HNL.out; omega) mb mo rfl
        obtain ⟨x, hx⟩ : ∃ x, bs[j]? = some x := ⟨_, List.getElem?_eq_getElem (by have := HML.out; omega)⟩
        obtain ⟨y, hy⟩ : ∃ x, cs[j]? = some x := ⟨_, List.getElem?_eq_getElem (by have := HNL.out; omega)⟩
        have l0 := hlc j _ hx 0 _ rfl
        have m0 := hmc j _ hy 0 _ rfl
        simp only [Nat.mul_one, Nat.add_zero] at l0 m0
        have HX := Lib.hid (insP_take (psL bs cs) j _ _ (psL_at hx hy))
        have k1 : (0 : Int) ≤ (j : Int) := by omega
        have k2 : (j : Int) < (M : Int) := by omega
        have HC := Lib.hid (And.intro l0 m0)
        clear hx hy hlc hmc
        go_wp2_with fail
        refine wp_region_held_drew (S := fun w' => w'.cell? ⟨lb, lo + j, none⟩ = some (.bool x) ∧ w'.cell? ⟨mb, mo + j, none⟩ = some (.bool y)) (by kernel_rfl) HC.out (fun hHeld => ?_)
        refine' wpAnyH_take (i := 0) (v := _) rfl (by kernel_rfl) (by kernel_rfl) (by kernel_rfl) (fun _ _ _ h => h) (Or.inl ⟨by rfl, ?_⟩) hHeld ?_
        rotate_left
        · intro w hSw
          (try dsimp only at hSw)
          go_simp
          try with_reducible rfl
        (try simp only [Act.put, List.getElem_toArray, List.getElem_cons_zero, List.getElem_cons_succ, List.setIfInBounds_toArray, List.set_cons_zero, List.set_cons_succ])
        refine' wpAnyH_take (i := 1) (v := _) rfl (by kernel_rfl) (by kernel_rfl) (by kernel_rfl) (fun _ _ _ h => h) (Or.inl ⟨by rfl, ?_⟩) hHeld ?_
        rotate_left
        · intro w hSw
          (try dsimp only at hSw)
          go_simp
          try with_reducible rfl
        (try simp only [Act.put, List.getElem_toArray, List.getElem_cons_zero, List.getElem_cons_succ, List.setIfInBounds_toArray, List.set_cons_zero, List.set_cons_succ])
        refine' wpAnyH_take (i := 2) (v := _) rfl (by kernel_rfl) (by kernel_rfl) (by kernel_rfl) (fun _ _ _ h => h) (Or.inl ⟨by rfl, ?_⟩) hHeld ?_
        rotate_left
        · intro w hSw
          (try dsimp only at hSw)
          go_simp
          try with_reducible rfl
        (try simp only [Act.put, List.getElem_toArray, List.getElem_cons_zero, List.getElem_cons_succ, List.setIfInBounds_toArray, List.set_cons_zero, List.set_cons_succ])
        refine' wpAnyH_take (i := 3) (v := _) rfl (by kernel_rfl) (by kernel_rfl) (by kernel_rfl) (fun _ _ _ h => h) (Or.inl ⟨by rfl, ?_⟩) hHeld ?_
        rotate_left
        · intro w hSw
          (try dsimp only at hSw)
          go_simp
          try with_reducible rfl
        (try simp only [Act.put, List.getElem_toArray, List.getElem_cons_zero, List.getElem_cons_succ, List.setIfInBounds_toArray, List.set_cons_zero, List.set_cons_succ])
        refine' wpAnyH_take (i := 4) (v := _) rfl (by kernel_rfl) (by kernel_rfl) (by kernel_rfl) (fun _ _ _ h => h) (Or.inl ⟨by rfl, ?_⟩) hHeld ?_
        rotate_left
        · intro w hSw
          (try dsimp only at hSw)
          go_simp
          try with_reducible rfl
        (try simp only [Act.put, List.getElem_toArray, List.getElem_cons_zero, List.getElem_cons_succ, List.setIfInBounds_toArray, List.set_cons_zero, List.set_cons_succ])
        refine' wpAnyH_take (i := 6) (v := _) rfl (by kernel_rfl) (by kernel_rfl) (by kernel_rfl) (fun _ _ _ h => h) (Or.inl ⟨by rfl, ?_⟩) hHeld ?_
        rotate_left
        · intro w hSw
          (try dsimp only at hSw)
          go_simp
          try with_reducible rfl
        (try simp only [Act.put, List.getElem_toArray, List.getElem_cons_zero, List.getElem_cons_succ, List.setIfInBounds_toArray, List.set_cons_zero, List.set_cons_succ])
        refine' wpAnyH_take (i := 7) (v := _) rfl (by kernel_rfl) (by kernel_rfl) (by kernel_rfl) (fun _ _ _ h => h) (Or.inl ⟨by rfl, ?_⟩) hHeld ?_
        rotate_left
        · intro w hSw
          (try dsimp only at hSw)
          go_simp
          try with_reducible rfl
        (try simp only [Act.put, List.getElem_toArray, List.getElem_cons_zero, List.getElem_cons_succ, List.setIfInBounds_toArray, List.set_cons_zero, List.set_cons_succ])
        refine' wpAnyH_take (i := 8) (v := _) rfl (by kernel_rfl) (by kernel_rfl) (by kernel_rfl) (fun _ _ _ h => h) (Or.inl ⟨by rfl, ?_⟩) hHeld ?_
        rotate_left
        · intro w hSw
          (try dsimp only at hSw)
          go_simp
          try with_reducible rfl
        (try simp only [Act.put, List.getElem_toArray, List.getElem_cons_zero, List.getElem_cons_succ, List.setIfInBounds_toArray, List.set_cons_zero, List.set_cons_succ])
        refine' wpAnyH_take (i := 9) (v := _) rfl (by kernel_rfl) (by kernel_rfl) (by kernel_rfl) (fun _ _ _ h => h) (Or.inl ⟨by rfl, ?_⟩) hHeld ?_
        rotate_left
        · intro w hSw
          (try dsimp only at hSw)
          go_simp
          try with_reducible rfl
        (try simp only [Act.put, List.getElem_toArray, List.getElem_cons_zero, List.getElem_cons_succ, List.setIfInBounds_toArray, List.set_cons_zero, List.set_cons_succ])
        refine wpAnyH_ready (rs := [5]) (by kernel_rfl) (by simp) ?_
        refine AllReadyH.cons rfl (fun K hK => ?_) AllReadyH.nil
        go_simp
        refine (lbit_any _ _).mono ?_
        rintro e x1 ⟨rfl, hb2⟩
        have hbx : Below wr.heap.size wr x1 := (by first | exact hb2 | exact (Below.refl wr.heap.size wr).drew.trans hb2)
        have HSX : x1.cell? ⟨lb, lo + j, none⟩ = some (.bool x) ∧ x1.cell? ⟨mb, mo + j, none⟩ = some (.bool y) := ⟨((hbx).cell (p := ⟨lb, lo + j, none⟩) hll).trans HC.out.1, ((hbx).cell (p := ⟨mb, mo + j, none⟩) hml).trans HC.out.2⟩
        clear hb2
        try go_simp
        clear hHeld
        refine hK.out _ _ HSX (fun hHeld => ?_)
        clear hK K HSX
        (try simp only [Act.put, List.getElem_toArray, List.getElem_cons_zero, List.getElem_cons_succ, List.setIfInBounds_toArray, List.set_cons_zero, List.set_cons_succ])
        refine wpAnyH_ready (rs := [10]) (by kernel_rfl) (by simp) ?_
        refine AllReadyH.cons rfl (fun K hK => ?_) AllReadyH.nil
        go_simp
        refine (lbit_any _ _).mono ?_
        rintro e x2 ⟨rfl, hb2⟩
        have hby : Below wr.heap.size wr x2 := hbx.trans (hb2.mono hbx.size)
        have HSX : x2.cell? ⟨lb, lo + j, none⟩ = some (.bool x) ∧ x2.cell? ⟨mb, mo + j, none⟩ = some (.bool y) := ⟨((hby).cell (p := ⟨lb, lo + j, none⟩) hll).trans HC.out.1, ((hby).cell (p := ⟨mb, mo + j, none⟩) hml).trans HC.out.2⟩
        clear hb2
        try go_simp
        clear hHeld
        refine hK.out _ _ HSX (fun hHeld => ?_)
        clear hK K HSX
        (try simp only [Act.put, List.getElem_toArray, List.getElem_cons_zero, List.getElem_cons_succ, List.setIfInBounds_toArray, List.set_cons_zero, List.set_cons_succ])
        refine wpAnyH_ready (rs := [11]) (by kernel_rfl) (by simp) ?_
        refine AllReadyH.cons rfl (fun K hK => ?_) AllReadyH.nil
        go_simp
        have nal1 : Below x2.heap.size x2 (x2.alloc (Obj.cells #[.int .i64 2, .int .i64 (bitN x), .int .i64 2, .int .i64 (bitN y)] 26)) := (Below.refl _ _).alloc (Nat.le_refl _) _
        have h11 : Below wr.heap.size wr (x2.alloc (Obj.cells #[.int .i64 2, .int .i64 (bitN x), .int .i64 2, .int .i64 (bitN y)] 26)) := hby.trans (nal1.mono hby.size)
        have HSX : (x2.alloc (Obj.cells #[.int .i64 2, .int .i64 (bitN x), .int .i64 2, .int .i64 (bitN y)] 26)).cell? ⟨lb, lo + j, none⟩ = some (.bool x) ∧ (x2.alloc (Obj.cells #[.int .i64 2, .int .i64 (bitN x), .int .i64 2, .int .i64 (bitN y)] 26)).cell? ⟨mb, mo + j, none⟩ = some (.bool y) := ⟨((h11).cell (p := ⟨lb, lo + j, none⟩) hll).trans HC.out.1, ((h11).cell (p := ⟨mb, mo + j, none⟩) hml).trans HC.out.2⟩
        clear hHeld
        refine hK.out _ _ HSX (fun hHeld => ?_)
        clear hK K HSX
        (try simp only [Act.put, List.getElem_toArray, List.getElem_cons_zero, List.getElem_cons_succ, List.setIfInBounds_toArray, List.set_cons_zero, List.set_cons_succ])
        refine wpAnyH_ready (rs := [12]) (by kernel_rfl) (by simp) ?_
        refine AllReadyH.cons rfl (fun K hK => ?_) AllReadyH.nil
        go_simp
        have nal2 : Below (x2.alloc (Obj.cells #[.int .i64 2, .int .i64 (bitN x), .int .i64 2, .int .i64 (bitN y)] 26)).heap.size (x2.alloc (Obj.cells #[.int .i64 2, .int .i64 (bitN x), .int .i64 2, .int .i64 (bitN y)] 26)) ((x2.alloc (Obj.cells #[.int .i64 2, .int .i64 (bitN x), .int .i64 2, .int .i64 (bitN y)] 26)).alloc (Obj.cells #[.slice (some ⟨x2.heap.size, 0, none⟩) 2 2] 23)) := (Below.refl _ _).alloc (Nat.le_refl _) _
        have h12 : Below wr.heap.size wr ((x2.alloc (Obj.cells #[.int .i64 2, .int .i64 (bitN x), .int .i64 2, .int .i64 (bitN y)] 26)).alloc (Obj.cells #[.slice (some ⟨x2.heap.size, 0, none⟩) 2 2] 23)) := h11.trans (nal2.mono h11.size)
        have HSX : ((x2.alloc (Obj.cells #[.int .i64 2, .int .i64 (bitN x), .int .i64 2, .int .i64 (bitN y)] 26)).alloc (Obj.cells #[.slice (some ⟨x2.heap.size, 0, none⟩) 2 2] 23)).cell? ⟨lb, lo + j, none⟩ = some (.bool x) ∧ ((x2.alloc (Obj.cells #[.int .i64 2, .int .i64 (bitN x), .int .i64 2, .int .i64 (bitN y)] 26)).alloc (Obj.cells #[.slice (some ⟨x2.heap.size, 0, none⟩) 2 2] 23)).cell? ⟨mb, mo + j, none⟩ = some (.bool y) := ⟨((h12).cell (p := ⟨lb, lo + j, none⟩) hll).trans HC.out.1, ((h12).cell (p := ⟨mb, mo + j, none⟩) hml).trans HC.out.2⟩
        clear hHeld
        refine hK.out _ _ HSX (fun hHeld => ?_)
        clear hK K HSX
        (try simp only [Act.put, List.getElem_toArray, List.getElem_cons_zero, List.getElem_cons_succ, List.setIfInBounds_toArray, List.set_cons_zero, List.set_cons_succ])
        obtain ⟨rs, hrl, hown0, hxl, hrs⟩ := HL.out
        have hnew : (x2.alloc (Obj.cells #[.int .i64 2, .int .i64 (bitN x), .int .i64 2, .int .i64 (bitN y)] 26)).ownsRow BB 26 2 (.slice (some ⟨x2.heap.size, 0, none⟩) 2 2) 2 [.int .i64 2, .int .i64 (bitN x), .int .i64 2, .int .i64 (bitN y)] := World.ownsRow_lit x2 #[.int .i64 2, .int .i64 (bitN x), .int .i64 2, .int .i64 (bitN y)] 2 (Nat.le_trans HZR.out hby.size) (by unfold maxLen; omega) rfl
        have HRS := Lib.hid hrs
        have HNEW := Lib.hid hnew
        have HXL := Lib.hid hxl
        have HRL := Lib.hid hrl
        clear hrs hnew hxl hrl
        have hif := HIF.out
        have hz0 := HZA.out
        have hz1 := HZB.out
        have hz2 := HZC.out
        refine wpAnyH_ready (rs := [13]) (by kernel_rfl) (by simp) ?_
        refine AllReadyH.cons rfl (fun K hK => ?_) AllReadyH.nil
        refine step_append_lies _ (by rfl) _ _ 39 (by rfl) BB 23 iv (.slice none 0 0) 1 24 Tryd.underlying39 hif hz0 hz1 hz2 rfl (by decide) _ _ _ (by rfl) (own_keep hown0 h12) ⟨x2.heap.size + 1, 0, none⟩ 1 1 [.slice (some ⟨x2.heap.size, 0, none⟩) 2 2] (by rfl) (by rfl) ?c1 ?c2 (by decide) (by unfold maxLen; omega) (by omega) (Nat.le_trans HZR.out h12.size) _ rfl ?c6
        case c1 =>
          intro q u hu
          rw [add_plain, Nat.zero_add]
          have h := (row_fresh (x2.alloc (Obj.cells #[.int .i64 2, .int .i64 (bitN x), .int .i64 2, .int .i64 (bitN y)] 26)) #[.slice (some ⟨x2.heap.size, 0, none⟩) 2 2] 23).c q u hu
          rwa [World.size_alloc] at h
        case c2 => intro u hu; simp at hu; subst hu; rfl
        intro g5 cap5 w7 hown hgrow hat hglt
        have hown0' := own_keep hown0 h12
        have vlt := fun q e => (hown0.lt q e).1
        have nal := nal2
        have hgr := grow_as hown0 hgrow
        have HLN := Lib.hid (show LL w7 BB (.slice (some ⟨g5, 0, none⟩) (j + 1) cap5) (j + 1) (insP ((psL bs cs).take j) ++ [[⟨2, bitN x⟩, ⟨2, bitN y⟩]]) from
          ll_snoc HRL.out HXL.out hown (fun k r vs h1 h2 => let t := HRS.out k r vs h1 h2; ⟨t.1, (own_keep t.2 h12).kept hgr (own_types (own_keep t.2 h12) hown0' (by decide))⟩) rfl ((own_keep HNEW.out nal2).kept hgr (own_types (own_keep HNEW.out nal2) hown0' (by decide))))
        have HBB7 := Lib.hid (show BB ≤ w7.heap.size from Nat.le_trans (Nat.le_trans HZR.out h12.size) hgr.size)
        have HBN := Lib.hid ((HBR.out.trans (h12.mono HBR.out.size)).grown hgr (by have := HBR.out.size; have := h12.size; omega) (fun q e => Nat.le_trans HWB.out (vlt q e)))
        have hfar : ∀ q, Value.ownBlock _ = some q → BB ≤ q := fun q e => (hown0.lt q e).1
        have HSX : w7.cell? ⟨lb, lo + j, none⟩ = some (.bool x) ∧ w7.cell? ⟨mb, mo + j, none⟩ = some (.bool y) := ⟨(hgr.cell_far ⟨lb, lo + j, none⟩ (Nat.lt_of_lt_of_le hll h12.size) (fun e => by have := hfar lb e.symm; have := HWB.out; omega)).trans ((h12.cell (p := ⟨lb, lo + j, none⟩) hll).trans HC.out.1), (hgr.cell_far ⟨mb, mo + j, none⟩ (Nat.lt_of_lt_of_le hml h12.size) (fun e => by have := hfar mb e.symm; have := HWB.out; omega)).trans ((h12.cell (p := ⟨mb, mo + j, none⟩) hml).trans HC.out.2)⟩
        clear hown hgrow hgr nal nal1 vlt hif hz0 hz1 hz2 hown0 hown0' hfar h11 h12 hbx hby hat hglt nal2
        clear hHeld
        refine hK.out _ _ HSX (fun hHeld => ?_)
        clear hK K HSX
        (try simp only [Act.put, List.getElem_toArray, List.getElem_cons_zero, List.getElem_cons_succ, List.setIfInBounds_toArray, List.set_cons_zero, List.set_cons_succ])
        refine' wpAnyH_take (i := 14) (v := _) rfl (by kernel_rfl) (by kernel_rfl) (by kernel_rfl) (fun _ _ _ h => h) (Or.inl ⟨by rfl, ?_⟩) hHeld ?_
        rotate_left
        · intro w hSw
          (try dsimp only at hSw)
          go_simp
          try with_reducible rfl
        (try simp only [Act.put, List.getElem_toArray, List.getElem_cons_zero, List.getElem_cons_succ, List.setIfInBounds_toArray, List.set_cons_zero, List.set_cons_succ])
        refine wpAnyH_done (by kernel_rfl) ?_ _
        (try simp only [Act.put, List.getElem_toArray, List.getElem_cons_zero, List.getElem_cons_succ, List.setIfInBounds_toArray, List.set_cons_zero, List.set_cons_succ])
        have HLM := Lib.hid (show LL w7 BB (.slice (some ⟨g5, 0, none⟩) (j + 1) cap5) (j + 1) (insP ((psL bs cs).take (j + 1))) by rw [HX.out]; exact HLN.out)
        clear hHeld HC l0 m0
        go_wp2_with fail
        go_roundw
        case rel => exact ⟨j + 1, by omega, by go_num, Lib.hid ⟨HLM.out, HBN.out, HBB7.out⟩⟩
        case measure => (simp [intOf]) <;> omega
      · obtain rfl : j = M := by omega
        have HF := Lib.hid (show LL wr BB _ j (insP (psL bs cs)) by have h := HL.out; rw [List.take_of_length_le (by rw [psL_len bs cs (by have := HML.out; have := HNL.out; omega)]; have := HML.out; omega)] at h; exact h)
        obtain ⟨qa, qs, qc, rfl, hql, hio⟩ := ll_in HF.out
        have HIO := Lib.hid hio
        rw [hql]
        clear hio HF HL
        have kr := runCount dt (psL bs cs) (by omega) (by omega) (psL_ok bs cs) (by rw [psL_len bs cs (by have := HML.out; have := HNL.out; omega)]; have := HML.out; omega) none 0 qa qc qs wr (HM.out.keep HBR.out) ⟨rfl, by decide, .inl rfl⟩ HIO.out
        rw [hql] at kr
        have KR := Lib.hid kr
        clear kr
        go_wp2_with fail
        refine KR.out.mono ?_
        rintro e z0 ⟨v, rfl, ho, hb⟩
        obtain ⟨va0, vcva0, rfl, hins⟩ := ins_own ho
        have HO0 := Lib.hid hins
        have HZ0 := Lib.hid (HBR.out.trans (hb.mono HBR.out.size))
        have HIO := Lib.hid (HIO.out.keep hb)
        clear hb ho hins KR
        have HBa := HZ0
        go_wp2_with fail
        have ko := on_any a c bs z0 (by have := HML.out; omega) (HIN.out.keep HBa.out)
        rw [← HML.out] at ko
        have KO := Lib.hid ko
        clear ko
        refine KO.out.mono ?_
        rintro e y1 ⟨v, rfl, hll, hb⟩
        rw [HML.out] at hll
        obtain ⟨oa, rs, oc, rfl, hrl, hio⟩ := ll_run hll
        have HBb := Lib.hid (HBa.out.trans (hb.mono HBa.out.size))
        have HO0 := Lib.hid (HO0.out.keep hb)
        have HIO := Lib.hid (HIO.out.keep hb)
        have kr := runEdge dt (bs.map bitN) (by omega) (by omega) (bits_ok _) (by rw [List.length_map]; have := HML.out; omega) none 0 oa oc rs y1 (HM.out.keep HBb.out) ⟨rfl, by decide, .inl rfl⟩ hio
        rw [hrl, ← HML.out] at kr
        rw [hrl, ← HML.out]
        have KR := Lib.hid kr
        clear kr hll hrl hio hb KO
        go_wp2_with fail
        refine KR.out.mono ?_
        rintro e z1 ⟨v, rfl, ho, hb⟩
        obtain ⟨va1, vc1, rfl, hins⟩ := ins_own ho
        have HO1 := Lib.hid hins
        have HZ1 := Lib.hid (HBb.out.trans (hb.mono HBb.out.size))
        have HO0 := Lib.hid (HO0.out.keep hb)
        have HIO := Lib.hid (HIO.out.keep hb)
        clear hb ho hins KR HBa HBb
        have kr := runLatch dt (psL bs cs) (by omega) (by omega) (psL_ok bs cs) (by rw [psL_len bs cs (by have := HML.out; have := HNL.out; omega)]; have := HML.out; omega) none 0 qa qc qs z1 (HM.out.keep HZ1.out) ⟨rfl, by decide, .inl rfl⟩ HIO.out
        rw [hql] at kr
        have KR := Lib.hid kr
        clear kr
        go_wp2_with fail
        refine KR.out.mono ?_
        rintro e z2 ⟨v, rfl, ho, hb⟩
        obtain ⟨va2, vcva2, rfl, hins⟩ := ins_own ho
        have HO2 := Lib.hid hins
        have HZ2 := Lib.hid (HZ1.out.trans (hb.mono HZ1.out.size))
        have HO0 := Lib.hid (HO0.out.keep hb)
        have HO1 := Lib.hid (HO1.out.keep hb)
        clear hb ho hins KR
        obtain ⟨zs, has⟩ : ∃ l, l = bs.map bitN := ⟨_, rfl⟩
        obtain ⟨ps, hps⟩ : ∃ l, l = psL bs cs := ⟨_, rfl⟩
        have HAS := Lib.hid has
        have HPS := Lib.hid hps
        have HPZ := Lib.hid (show ∀ k, (ps.getD k (0, 0)).1 = zs.getD k 0 from fun k => by
          rw [has, hps, List.getD_eq_getElem?_getD, List.getD_eq_getElem?_getD, List.getElem?_map]
          by_cases hk : k < bs.length
          · obtain ⟨x, hx⟩ : ∃ x, bs[k]? = some x := ⟨_, List.getElem?_eq_getElem hk⟩
            obtain ⟨y, hy⟩ : ∃ x, cs[k]? = some x := ⟨_, List.getElem?_eq_getElem (by have := HML.out; have := HNL.out; omega)⟩
            rw [psL_at hx hy, hx]
            rfl
          · rw [List.getElem?_eq_none (by rw [psL_len bs cs (by have := HML.out; have := HNL.out; omega)]; omega), List.getElem?_eq_none (by omega)]
            rfl)
        rw [← has] at HO1
        rw [← hps] at HO0 HO2
        clear has hps HIO
        go_wp2_with fail
        go_loopw [15, 16, 17] (fun n h i wr => ∃ (k : Nat) (H : Bool) (nn : Int), k ≤ j ∧ 0 ≤ nn ∧ nn ≤ k ∧ n = .int .i64 nn ∧ h = .bool H ∧ i = .int .i64 k ∧ Hid (nn = (stCount dt ps k).2 ∧ stLatch dt ps k = bitN H ∧ Below z2.heap.size z2 wr)) (fun _ _ i _ => j - (intOf i).toNat)
        case atStart => exact ⟨0, false, 0, Nat.zero_le _, by omega, by omega, rfl, rfl, rfl, Lib.hid ⟨rfl, rfl, Below.refl _ _⟩⟩
        case round =>
          obtain ⟨k, H, nn, hk, hn0, hnk, rfl, rfl, rfl, hH⟩ := hrel
          have HNN := Lib.hid hH.out.1
          have HLT := Lib.hid hH.out.2.1
          have HBS := Lib.hid hH.out.2.2
          clear hH
          by_cases hlt2 : k < j
          · obtain ⟨lb, lo, rfl, hll, hlc⟩ := (show InS wr a bs.length 1 (flat boolL bs) from (HIN.out.keep HZ2.out).keep HBS.out).at boolL_len (by have := HML.out; omega)
            obtain ⟨mb, mo, rfl, hml, hmc⟩ := (show InS wr a2 cs.length 1 (flat boolL cs) from (HIN2.out.keep HZ2.out).keep HBS.out).at boolL_len (by have := HNL.out; omega)
            obtain ⟨x, hx⟩ : ∃ x, bs[k]? = some x := ⟨_, List.getElem?_eq_getElem (by have := HML.out; omega)⟩
            obtain ⟨y, hy⟩ : ∃ x, cs[k]? = some x := ⟨_, List.getElem?_eq_getElem (by have := HNL.out; omega)⟩
            have l0 := hlc k _ hx 0 _ rfl
            have m0 := hmc k _ hy 0 _ rfl
            simp only [Nat.mul_one, Nat.add_zero] at l0 m0
            have hpd : ps.getD k (0, 0) = (bitN x, bitN y) := by rw [HPS.out, List.getD_eq_getElem?_getD, psL_at hx hy]; rfl
            obtain ⟨g, go, rfl, lg, o0, o1⟩ := outs_in ((HO0.out.keep HBS.out)) hlt2
            obtain ⟨h, ho, rfl, lh, o2, o3⟩ := outs_in ((HO1.out.keep HBS.out)) hlt2
            obtain ⟨f, fo, rfl, lf, q0, q1⟩ := outs_in ((HO2.out.keep HBS.out)) hlt2
            rw [ov_count] at o1
            rw [ov_latch] at q1
            have k1 : (0 : Int) ≤ (k : Int) := by omega
            have k2 : (k : Int) < (j : Int) := by omega
            have HE01 := edge_bit dt zs k
            clear hx hy hlc hmc
            cases y
            · have hs := count_step dt ps zs HPZ.out k (by omega) (by rw [hpd]; rfl)
              rw [← HNN.out] at hs
              obtain ⟨E, hE⟩ : ∃ e, e = ovEdge dt zs k := ⟨_, rfl⟩
              rw [← hE] at hs HE01 o3
              rw [hs] at o1
              have HN1 := Lib.hid hs
              have hl := latch_step dt ps k (by rw [hpd]; rfl) x H (by rw [hpd]) HLT.out
              rw [hl] at q1
              have e1 : IntKind.i64.wrap (nn + E) = nn + E := IntWalk.i64_in _ (by omega)
              have e2 : IntKind.i64.wrap (1000 * (nn + E)) = 1000 * (nn + E) := IntWalk.i64_in _ (by omega)
              clear hs hE hpd
              cases H
              · rw [Bool.false_or] at q1 hl
                have HL1 := Lib.hid hl
                clear hl
                have KX := Lib.hid (lbit_any x)
                have HC := Lib.hid (And.intro o0 (And.intro o1 (And.intro q0 (q1))))
                go_wp2_with fail
                go_cut [149] from 133 to 149 (fun z wx => z = .bool false ∧ Hid (Below wr.heap.size wr wx))
                case first =>
                  refine wp_region_held_drew (S := fun w' => w'.cell? ⟨g, go + k * 2, none⟩ = some (.int .i64 1) ∧ w'.cell? ⟨g, go + k * 2 + 1, none⟩ = some (.int .i64 (1000 * (nn + E))) ∧ w'.cell? ⟨f, fo + k * 2, none⟩ = some (.int .i64 2) ∧ w'.cell? ⟨f, fo + k * 2 + 1, none⟩ = some (.int .i64 (bitN x))) (by kernel_rfl) HC.out (fun hHeld => ?_)
                  refine' wpAnyH_take (i := 0) (v := _) rfl (by kernel_rfl) (by kernel_rfl) (by kernel_rfl) (fun _ _ _ h => h) (Or.inl ⟨by rfl, ?_⟩) hHeld ?_
                  rotate_left
                  · intro w hSw
                    (try dsimp only at hSw)
                    go_simp
                    try with_reducible rfl
                  (try simp only [Act.put, List.getElem_toArray, List.getElem_cons_zero, List.getElem_cons_succ, List.setIfInBounds_toArray, List.set_cons_zero, List.set_cons_succ])
                  refine' wpAnyH_take (i := 1) (v := _) rfl (by kernel_rfl) (by kernel_rfl) (by kernel_rfl) (fun _ _ _ h => h) (Or.inl ⟨by rfl, ?_⟩) hHeld ?_
                  rotate_left
                  · intro w hSw
                    (try dsimp only at hSw)
                    go_simp
                    try with_reducible rfl
                  (try simp only [Act.put, List.getElem_toArray, List.getElem_cons_zero, List.getElem_cons_succ, List.setIfInBounds_toArray, List.set_cons_zero, List.set_cons_succ])
                  refine' wpAnyH_take (i := 2) (v := _) rfl (by kernel_rfl) (by kernel_rfl) (by kernel_rfl) (fun _ _ _ h => h) (Or.inl ⟨by rfl, ?_⟩) hHeld ?_
                  rotate_left
                  · intro w hSw
                    (try dsimp only at hSw)
                    go_simp
                    try with_reducible rfl
                  (try simp only [Act.put, List.getElem_toArray, List.getElem_cons_zero, List.getElem_cons_succ, List.setIfInBounds_toArray, List.set_cons_zero, List.set_cons_succ])
                  refine' wpAnyH_take (i := 3) (v := _) rfl (by kernel_rfl) (by kernel_rfl) (by kernel_rfl) (fun _ _ _ h => h) (Or.inl ⟨by rfl, ?_⟩) hHeld ?_
                  rotate_left
                  · intro w hSw
                    (try dsimp only at hSw)
                    go_simp
                    try with_reducible rfl
                  (try simp only [Act.put, List.getElem_toArray, List.getElem_cons_zero, List.getElem_cons_succ, List.setIfInBounds_toArray, List.set_cons_zero, List.set_cons_succ])
                  refine' wpAnyH_take (i := 4) (v := _) rfl (by kernel_rfl) (by kernel_rfl) (by kernel_rfl) (fun _ _ _ h => h) (Or.inl ⟨by rfl, ?_⟩) hHeld ?_
                  rotate_left
                  · intro w hSw
                    (try dsimp only at hSw)
                    go_simp
                    try with_reducible rfl
                  (try simp only [Act.put, List.getElem_toArray, List.getElem_cons_zero, List.getElem_cons_succ, List.setIfInBounds_toArray, List.set_cons_zero, List.set_cons_succ])
                  refine' wpAnyH_take (i := 5) (v := _) rfl (by kernel_rfl) (by kernel_rfl) (by kernel_rfl) (fun _ _ _ h => h) (Or.inl ⟨by rfl, ?_⟩) hHeld ?_
                  rotate_left
                  · intro w hSw
                    (try dsimp only at hSw)
                    go_simp
                    try with_reducible rfl
                  (try simp only [Act.put, List.getElem_toArray, List.getElem_cons_zero, List.getElem_cons_succ, List.setIfInBounds_toArray, List.set_cons_zero, List.set_cons_succ])
                  refine' wpAnyH_take (i := 6) (v := _) rfl (by kernel_rfl) (by kernel_rfl) (by kernel_rfl) (fun _ _ _ h => h) (Or.inl ⟨by rfl, ?_⟩) hHeld ?_
                  rotate_left
                  · intro w hSw
                    (try dsimp only at hSw)
                    go_simp
                    try with_reducible rfl
                  (try simp only [Act.put, List.getElem_toArray, List.getElem_cons_zero, List.getElem_cons_succ, List.setIfInBounds_toArray, List.set_cons_zero, List.set_cons_succ])
                  refine' wpAnyH_take (i := 7) (v := _) rfl (by kernel_rfl) (by kernel_rfl) (by kernel_rfl) (fun _ _ _ h => h) (Or.inl ⟨by rfl, ?_⟩) hHeld ?_
                  rotate_left
                  · intro w hSw
                    (try dsimp only at hSw)
                    go_simp
                    try with_reducible rfl
                  (try simp only [Act.put, List.getElem_toArray, List.getElem_cons_zero, List.getElem_cons_succ, List.setIfInBounds_toArray, List.set_cons_zero, List.set_cons_succ])
                  refine' wpAnyH_take (i := 8) (v := _) rfl (by kernel_rfl) (by kernel_rfl) (by kernel_rfl) (fun _ _ _ h => h) (Or.inl ⟨by rfl, ?_⟩) hHeld ?_
                  rotate_left
                  · intro w hSw
                    (try dsimp only at hSw)
                    go_simp
                    try with_reducible rfl
                  (try simp only [Act.put, List.getElem_toArray, List.getElem_cons_zero, List.getElem_cons_succ, List.setIfInBounds_toArray, List.set_cons_zero, List.set_cons_succ])
                  refine' wpAnyH_take (i := 9) (v := _) rfl (by kernel_rfl) (by kernel_rfl) (by kernel_rfl) (fun _ _ _ h => h) (Or.inl ⟨by rfl, ?_⟩) hHeld ?_
                  rotate_left
                  · intro w hSw
                    (try dsimp only at hSw)
                    go_simp
                    try with_reducible rfl
                  (try simp only [Act.put, List.getElem_toArray, List.getElem_cons_zero, List.getElem_cons_succ, List.setIfInBounds_toArray, List.set_cons_zero, List.set_cons_succ])
                  refine' wpAnyH_take (i := 10) (v := _) rfl (by kernel_rfl) (by kernel_rfl) (by kernel_rfl) (fun _ _ _ h => h) (Or.inl ⟨by rfl, ?_⟩) hHeld ?_
                  rotate_left
                  · intro w hSw
                    (try dsimp only at hSw)
                    go_simp
                    try with_reducible rfl
                  (try simp only [Act.put, List.getElem_toArray, List.getElem_cons_zero, List.getElem_cons_succ, List.setIfInBounds_toArray, List.set_cons_zero, List.set_cons_succ])
                  refine' wpAnyH_take (i := 11) (v := _) rfl (by kernel_rfl) (by kernel_rfl) (by kernel_rfl) (fun _ _ _ h => h) (Or.inl ⟨by rfl, ?_⟩) hHeld ?_
                  rotate_left
                  · intro w hSw
                    (try dsimp only at hSw)
                    go_simp
                    try with_reducible rfl
                  (try simp only [Act.put, List.getElem_toArray, List.getElem_cons_zero, List.getElem_cons_succ, List.setIfInBounds_toArray, List.set_cons_zero, List.set_cons_succ])
                  refine' wpAnyH_take (i := 12) (v := _) rfl (by kernel_rfl) (by kernel_rfl) (by kernel_rfl) (fun _ _ _ h => h) (Or.inl ⟨by rfl, ?_⟩) hHeld ?_
                  rotate_left
                  · intro w hSw
                    (try dsimp only at hSw)
                    go_simp
                    try with_reducible rfl
                  (try simp only [Act.put, List.getElem_toArray, List.getElem_cons_zero, List.getElem_cons_succ, List.setIfInBounds_toArray, List.set_cons_zero, List.set_cons_succ])
                  refine' wpAnyH_take (i := 13) (v := _) rfl (by kernel_rfl) (by kernel_rfl) (by kernel_rfl) (fun _ _ _ h => h) (Or.inl ⟨by rfl, ?_⟩) hHeld ?_
                  rotate_left
                  · intro w hSw
                    (try dsimp only at hSw)
                    go_simp
                    try with_reducible rfl
                  (try simp only [Act.put, List.getElem_toArray, List.getElem_cons_zero, List.getElem_cons_succ, List.setIfInBounds_toArray, List.set_cons_zero, List.set_cons_succ])
                  refine wpAnyH_ready (rs := [14]) (by kernel_rfl) (by simp) ?_
                  refine AllReadyH.cons rfl (fun K hK => ?_) AllReadyH.nil
                  go_simp
                  refine (KX.out _).mono ?_
                  rintro e x1 ⟨rfl, hb2⟩
                  have hbx : Below wr.heap.size wr x1 := (by first | exact hb2 | exact (Below.refl wr.heap.size wr).drew.trans hb2)
                  have HSX : x1.cell? ⟨g, go + k * 2, none⟩ = some (.int .i64 1) ∧ x1.cell? ⟨g, go + k * 2 + 1, none⟩ = some (.int .i64 (1000 * (nn + E))) ∧ x1.cell? ⟨f, fo + k * 2, none⟩ = some (.int .i64 2) ∧ x1.cell? ⟨f, fo + k * 2 + 1, none⟩ = some (.int .i64 (bitN x)) := And.intro ((hbx.cell (p := ⟨g, go + k * 2, none⟩) lg).trans HC.out.1) (And.intro ((hbx.cell (p := ⟨g, go + k * 2 + 1, none⟩) lg).trans HC.out.2.1) (And.intro ((hbx.cell (p := ⟨f, fo + k * 2, none⟩) lf).trans HC.out.2.2.1) (((hbx.cell (p := ⟨f, fo + k * 2 + 1, none⟩) lf).trans HC.out.2.2.2))))
                  clear hb2
                  try go_simp
                  clear hHeld
                  refine hK.out _ _ HSX (fun hHeld => ?_)
                  clear hK K HSX
                  (try simp only [Act.put, List.getElem_toArray, List.getElem_cons_zero, List.getElem_cons_succ, List.setIfInBounds_toArray, List.set_cons_zero, List.set_cons_succ])
                  refine' wpAnyH_take (i := 15) (v := _) rfl (by kernel_rfl) (by kernel_rfl) (by kernel_rfl) (fun _ _ _ h => h) (Or.inl ⟨by rfl, ?_⟩) hHeld ?_
                  rotate_left
                  · intro w hSw
                    (try dsimp only at hSw)
                    go_simp
                    try with_reducible rfl
                  (try simp only [Act.put, List.getElem_toArray, List.getElem_cons_zero, List.getElem_cons_succ, List.setIfInBounds_toArray, List.set_cons_zero, List.set_cons_succ])
                  refine' wpAnyH_take (i := 16) (v := _) rfl (by kernel_rfl) (by kernel_rfl) (by kernel_rfl) (fun _ _ _ h => h) (Or.inl ⟨by rfl, ?_⟩) hHeld ?_
                  rotate_left
                  · intro w hSw
                    (try dsimp only at hSw)
                    go_simp
                    try with_reducible rfl
                  (try simp only [Act.put, List.getElem_toArray, List.getElem_cons_zero, List.getElem_cons_succ, List.setIfInBounds_toArray, List.set_cons_zero, List.set_cons_succ])
                  refine wpAnyH_done (by kernel_rfl) ?_ _
                  (try simp only [Act.put, List.getElem_toArray, List.getElem_cons_zero, List.getElem_cons_succ, List.setIfInBounds_toArray, List.set_cons_zero, List.set_cons_succ])
                  have hbz := hbx
                  clear hHeld HC hbx
                  go_wp2_with fail
                  go_meet
                  exact ⟨rfl, Lib.hid hbz⟩
                case rest =>
                  obtain ⟨rfl, hcc⟩ := hcut
                  have HBN := Lib.hid (HBS.out.trans (hcc.out.mono HBS.out.size))
                  clear hcc
                  go_wp2_with fail
                  go_roundw
                  case rel => exact ⟨k + 1, x, nn + E, by omega, by omega, by omega, rfl, rfl, by go_num, Lib.hid ⟨HN1.out.symm, HL1.out, HBN.out⟩⟩
                  case measure => (simp [intOf]) <;> omega
              · rw [Bool.true_or] at q1 hl
                have HL1 := Lib.hid hl
                clear hl
                have KX := Lib.hid (lbit_any true)
                have HC := Lib.hid (And.intro o0 (And.intro o1 (And.intro q0 (q1))))
                go_wp2_with fail
                go_cut [149] from 133 to 149 (fun z wx => z = .bool false ∧ Hid (Below wr.heap.size wr wx))
                case first =>
                  refine wp_region_held_drew (S := fun w' => w'.cell? ⟨g, go + k * 2, none⟩ = some (.int .i64 1) ∧ w'.cell? ⟨g, go + k * 2 + 1, none⟩ = some (.int .i64 (1000 * (nn + E))) ∧ w'.cell? ⟨f, fo + k * 2, none⟩ = some (.int .i64 2) ∧ w'.cell? ⟨f, fo + k * 2 + 1, none⟩ = some (.int .i64 (bitN true))) (by kernel_rfl) HC.out (fun hHeld => ?_)
                  refine' wpAnyH_take (i := 0) (v := _) rfl (by kernel_rfl) (by kernel_rfl) (by kernel_rfl) (fun _ _ _ h => h) (Or.inl ⟨by rfl, ?_⟩) hHeld ?_
                  rotate_left
                  · intro w hSw
                    (try dsimp only at hSw)
                    go_simp
                    try with_reducible rfl
                  (try simp only [Act.put, List.getElem_toArray, List.getElem_cons_zero, List.getElem_cons_succ, List.setIfInBounds_toArray, List.set_cons_zero, List.set_cons_succ])
                  refine' wpAnyH_take (i := 1) (v := _) rfl (by kernel_rfl) (by kernel_rfl) (by kernel_rfl) (fun _ _ _ h => h) (Or.inl ⟨by rfl, ?_⟩) hHeld ?_
                  rotate_left
                  · intro w hSw
                    (try dsimp only at hSw)
                    go_simp
                    try with_reducible rfl
                  (try simp only [Act.put, List.getElem_toArray, List.getElem_cons_zero, List.getElem_cons_succ, List.setIfInBounds_toArray, List.set_cons_zero, List.set_cons_succ])
                  refine' wpAnyH_take (i := 2) (v := _) rfl (by kernel_rfl) (by kernel_rfl) (by kernel_rfl) (fun _ _ _ h => h) (Or.inl ⟨by rfl, ?_⟩) hHeld ?_
                  rotate_left
                  · intro w hSw
                    (try dsimp only at hSw)
                    go_simp
                    try with_reducible rfl
                  (try simp only [Act.put, List.getElem_toArray, List.getElem_cons_zero, List.getElem_cons_succ, List.setIfInBounds_toArray, List.set_cons_zero, List.set_cons_succ])
                  refine' wpAnyH_take (i := 3) (v := _) rfl (by kernel_rfl) (by kernel_rfl) (by kernel_rfl) (fun _ _ _ h => h) (Or.inl ⟨by rfl, ?_⟩) hHeld ?_
                  rotate_left
                  · intro w hSw
                    (try dsimp only at hSw)
                    go_simp
                    try with_reducible rfl
                  (try simp only [Act.put, List.getElem_toArray, List.getElem_cons_zero, List.getElem_cons_succ, List.setIfInBounds_toArray, List.set_cons_zero, List.set_cons_succ])
                  refine' wpAnyH_take (i := 4) (v := _) rfl (by kernel_rfl) (by kernel_rfl) (by kernel_rfl) (fun _ _ _ h => h) (Or.inl ⟨by rfl, ?_⟩) hHeld ?_
                  rotate_left
                  · intro w hSw
                    (try dsimp only at hSw)
                    go_simp
                    try with_reducible rfl
                  (try simp only [Act.put, List.getElem_toArray, List.getElem_cons_zero, List.getElem_cons_succ, List.setIfInBounds_toArray, List.set_cons_zero, List.set_cons_succ])
                  refine' wpAnyH_take (i := 5) (v := _) rfl (by kernel_rfl) (by kernel_rfl) (by kernel_rfl) (fun _ _ _ h => h) (Or.inl ⟨by rfl, ?_⟩) hHeld ?_
                  rotate_left
                  · intro w hSw
                    (try dsimp only at hSw)
                    go_simp
                    try with_reducible rfl
                  (try simp only [Act.put, List.getElem_toArray, List.getElem_cons_zero, List.getElem_cons_succ, List.setIfInBounds_toArray, List.set_cons_zero, List.set_cons_succ])
                  refine' wpAnyH_take (i := 6) (v := _) rfl (by kernel_rfl) (by kernel_rfl) (by kernel_rfl) (fun _ _ _ h => h) (Or.inl ⟨by rfl, ?_⟩) hHeld ?_
                  rotate_left
                  · intro w hSw
                    (try dsimp only at hSw)
                    go_simp
                    try with_reducible rfl
                  (try simp only [Act.put, List.getElem_toArray, List.getElem_cons_zero, List.getElem_cons_succ, List.setIfInBounds_toArray, List.set_cons_zero, List.set_cons_succ])
                  refine' wpAnyH_take (i := 7) (v := _) rfl (by kernel_rfl) (by kernel_rfl) (by kernel_rfl) (fun _ _ _ h => h) (Or.inl ⟨by rfl, ?_⟩) hHeld ?_
                  rotate_left
                  · intro w hSw
                    (try dsimp only at hSw)
                    go_simp
                    try with_reducible rfl
                  (try simp only [Act.put, List.getElem_toArray, List.getElem_cons_zero, List.getElem_cons_succ, List.setIfInBounds_toArray, List.set_cons_zero, List.set_cons_succ])
                  refine' wpAnyH_take (i := 8) (v := _) rfl (by kernel_rfl) (by kernel_rfl) (by kernel_rfl) (fun _ _ _ h => h) (Or.inl ⟨by rfl, ?_⟩) hHeld ?_
                  rotate_left
                  · intro w hSw
                    (try dsimp only at hSw)
                    go_simp
                    try with_reducible rfl
                  (try simp only [Act.put, List.getElem_toArray, List.getElem_cons_zero, List.getElem_cons_succ, List.setIfInBounds_toArray, List.set_cons_zero, List.set_cons_succ])
                  refine' wpAnyH_take (i := 9) (v := _) rfl (by kernel_rfl) (by kernel_rfl) (by kernel_rfl) (fun _ _ _ h => h) (Or.inl ⟨by rfl, ?_⟩) hHeld ?_
                  rotate_left
                  · intro w hSw
                    (try dsimp only at hSw)
                    go_simp
                    try with_reducible rfl
                  (try simp only [Act.put, List.getElem_toArray, List.getElem_cons_zero, List.getElem_cons_succ, List.setIfInBounds_toArray, List.set_cons_zero, List.set_cons_succ])
                  refine' wpAnyH_take (i := 10) (v := _) rfl (by kernel_rfl) (by kernel_rfl) (by kernel_rfl) (fun _ _ _ h => h) (Or.inl ⟨by rfl, ?_⟩) hHeld ?_
                  rotate_left
                  · intro w hSw
                    (try dsimp only at hSw)
                    go_simp
                    try with_reducible rfl
                  (try simp only [Act.put, List.getElem_toArray, List.getElem_cons_zero, List.getElem_cons_succ, List.setIfInBounds_toArray, List.set_cons_zero, List.set_cons_succ])
                  refine' wpAnyH_take (i := 11) (v := _) rfl (by kernel_rfl) (by kernel_rfl) (by kernel_rfl) (fun _ _ _ h => h) (Or.inl ⟨by rfl, ?_⟩) hHeld ?_
                  rotate_left
                  · intro w hSw
                    (try dsimp only at hSw)
                    go_simp
                    try with_reducible rfl
                  (try simp only [Act.put, List.getElem_toArray, List.getElem_cons_zero, List.getElem_cons_succ, List.setIfInBounds_toArray, List.set_cons_zero, List.set_cons_succ])
                  refine' wpAnyH_take (i := 12) (v := _) rfl (by kernel_rfl) (by kernel_rfl) (by kernel_rfl) (fun _ _ _ h => h) (Or.inl ⟨by rfl, ?_⟩) hHeld ?_
                  rotate_left
                  · intro w hSw
                    (try dsimp only at hSw)
                    go_simp
                    try with_reducible rfl
                  (try simp only [Act.put, List.getElem_toArray, List.getElem_cons_zero, List.getElem_cons_succ, List.setIfInBounds_toArray, List.set_cons_zero, List.set_cons_succ])
                  refine' wpAnyH_take (i := 13) (v := _) rfl (by kernel_rfl) (by kernel_rfl) (by kernel_rfl) (fun _ _ _ h => h) (Or.inl ⟨by rfl, ?_⟩) hHeld ?_
                  rotate_left
                  · intro w hSw
                    (try dsimp only at hSw)
                    go_simp
                    try with_reducible rfl
                  (try simp only [Act.put, List.getElem_toArray, List.getElem_cons_zero, List.getElem_cons_succ, List.setIfInBounds_toArray, List.set_cons_zero, List.set_cons_succ])
                  refine wpAnyH_ready (rs := [14]) (by kernel_rfl) (by simp) ?_
                  refine AllReadyH.cons rfl (fun K hK => ?_) AllReadyH.nil
                  go_simp
                  refine (KX.out _).mono ?_
                  rintro e x1 ⟨rfl, hb2⟩
                  have hbx : Below wr.heap.size wr x1 := (by first | exact hb2 | exact (Below.refl wr.heap.size wr).drew.trans hb2)
                  have HSX : x1.cell? ⟨g, go + k * 2, none⟩ = some (.int .i64 1) ∧ x1.cell? ⟨g, go + k * 2 + 1, none⟩ = some (.int .i64 (1000 * (nn + E))) ∧ x1.cell? ⟨f, fo + k * 2, none⟩ = some (.int .i64 2) ∧ x1.cell? ⟨f, fo + k * 2 + 1, none⟩ = some (.int .i64 (bitN true)) := And.intro ((hbx.cell (p := ⟨g, go + k * 2, none⟩) lg).trans HC.out.1) (And.intro ((hbx.cell (p := ⟨g, go + k * 2 + 1, none⟩) lg).trans HC.out.2.1) (And.intro ((hbx.cell (p := ⟨f, fo + k * 2, none⟩) lf).trans HC.out.2.2.1) (((hbx.cell (p := ⟨f, fo + k * 2 + 1, none⟩) lf).trans HC.out.2.2.2))))
                  clear hb2
                  try go_simp
                  clear hHeld
                  refine hK.out _ _ HSX (fun hHeld => ?_)
                  clear hK K HSX
                  (try simp only [Act.put, List.getElem_toArray, List.getElem_cons_zero, List.getElem_cons_succ, List.setIfInBounds_toArray, List.set_cons_zero, List.set_cons_succ])
                  refine' wpAnyH_take (i := 15) (v := _) rfl (by kernel_rfl) (by kernel_rfl) (by kernel_rfl) (fun _ _ _ h => h) (Or.inl ⟨by rfl, ?_⟩) hHeld ?_
                  rotate_left
                  · intro w hSw
                    (try dsimp only at hSw)
                    go_simp
                    try with_reducible rfl
                  (try simp only [Act.put, List.getElem_toArray, List.getElem_cons_zero, List.getElem_cons_succ, List.setIfInBounds_toArray, List.set_cons_zero, List.set_cons_succ])
                  refine' wpAnyH_take (i := 16) (v := _) rfl (by kernel_rfl) (by kernel_rfl) (by kernel_rfl) (fun _ _ _ h => h) (Or.inl ⟨by rfl, ?_⟩) hHeld ?_
                  rotate_left
                  · intro w hSw
                    (try dsimp only at hSw)
                    go_simp
                    try with_reducible rfl
                  (try simp only [Act.put, List.getElem_toArray, List.getElem_cons_zero, List.getElem_cons_succ, List.setIfInBounds_toArray, List.set_cons_zero, List.set_cons_succ])
                  refine wpAnyH_done (by kernel_rfl) ?_ _
                  (try simp only [Act.put, List.getElem_toArray, List.getElem_cons_zero, List.getElem_cons_succ, List.setIfInBounds_toArray, List.set_cons_zero, List.set_cons_succ])
                  have hbz := hbx
                  clear hHeld HC hbx
                  go_wp2_with fail
                  go_meet
                  exact ⟨rfl, Lib.hid hbz⟩
                case rest =>
                  obtain ⟨rfl, hcc⟩ := hcut
                  have HBN := Lib.hid (HBS.out.trans (hcc.out.mono HBS.out.size))
                  clear hcc
                  go_wp2_with fail
                  go_roundw
                  case rel => exact ⟨k + 1, true, nn + E, by omega, by omega, by omega, rfl, rfl, by go_num, Lib.hid ⟨HN1.out.symm, HL1.out, HBN.out⟩⟩
                  case measure => (simp [intOf]) <;> omega
            · have hs := count_zero dt ps k (by rw [hpd]; rfl)
              have hl := latch_zero dt ps k (by rw [hpd]; rfl)
              rw [hs, show (1000 : Int) * 0 = 0 from rfl] at o1
              rw [hl] at q1
              have HN1 := Lib.hid hs
              have HL1 := Lib.hid hl
              have e1 : IntKind.i64.wrap 0 = 0 := IntWalk.i64_in _ (by omega)
              clear hs hl hpd HE01
              have KX := Lib.hid (lbit_any false)
              have HC := Lib.hid (And.intro o0 (And.intro o1 (And.intro q0 (q1))))
              go_wp2_with fail
              go_cut [149] from 133 to 149 (fun z wx => z = .bool false ∧ Hid (Below wr.heap.size wr wx))
              case first =>
                refine wp_region_held_drew (S := fun w' => w'.cell? ⟨g, go + k * 2, none⟩ = some (.int .i64 1) ∧ w'.cell? ⟨g, go + k * 2 + 1, none⟩ = some (.int .i64 0) ∧ w'.cell? ⟨f, fo + k * 2, none⟩ = some (.int .i64 2) ∧ w'.cell? ⟨f, fo + k * 2 + 1, none⟩ = some (.int .i64 (bitN false))) (by kernel_rfl) HC.out (fun hHeld => ?_)
                refine' wpAnyH_take (i := 0) (v := _) rfl (by kernel_rfl) (by kernel_rfl) (by kernel_rfl) (fun _ _ _ h => h) (Or.inl ⟨by rfl, ?_⟩) hHeld ?_
                rotate_left
                · intro w hSw
                  (try dsimp only at hSw)
                  go_simp
                  try with_reducible rfl
                (try simp only [Act.put, List.getElem_toArray, List.getElem_cons_zero, List.getElem_cons_succ, List.setIfInBounds_toArray, List.set_cons_zero, List.set_cons_succ])
                refine' wpAnyH_take (i := 1) (v := _) rfl (by kernel_rfl) (by kernel_rfl) (by kernel_rfl) (fun _ _ _ h => h) (Or.inl ⟨by rfl, ?_⟩) hHeld ?_
                rotate_left
                · intro w hSw
                  (try dsimp only at hSw)
                  go_simp
                  try with_reducible rfl
                (try simp only [Act.put, List.getElem_toArray, List.getElem_cons_zero, List.getElem_cons_succ, List.setIfInBounds_toArray, List.set_cons_zero, List.set_cons_succ])
                refine' wpAnyH_take (i := 2) (v := _) rfl (by kernel_rfl) (by kernel_rfl) (by kernel_rfl) (fun _ _ _ h => h) (Or.inl ⟨by rfl, ?_⟩) hHeld ?_
                rotate_left
                · intro w hSw
                  (try dsimp only at hSw)
                  go_simp
                  try with_reducible rfl
                (try simp only [Act.put, List.getElem_toArray, List.getElem_cons_zero, List.getElem_cons_succ, List.setIfInBounds_toArray, List.set_cons_zero, List.set_cons_succ])
                refine' wpAnyH_take (i := 3) (v := _) rfl (by kernel_rfl) (by kernel_rfl) (by kernel_rfl) (fun _ _ _ h => h) (Or.inl ⟨by rfl, ?_⟩) hHeld ?_
                rotate_left
                · intro w hSw
                  (try dsimp only at hSw)
                  go_simp
                  try with_reducible rfl
                (try simp only [Act.put, List.getElem_toArray, List.getElem_cons_zero, List.getElem_cons_succ, List.setIfInBounds_toArray, List.set_cons_zero, List.set_cons_succ])
                refine' wpAnyH_take (i := 4) (v := _) rfl (by kernel_rfl) (by kernel_rfl) (by kernel_rfl) (fun _ _ _ h => h) (Or.inl ⟨by rfl, ?_⟩) hHeld ?_
                rotate_left
                · intro w hSw
                  (try dsimp only at hSw)
                  go_simp
                  try with_reducible rfl
                (try simp only [Act.put, List.getElem_toArray, List.getElem_cons_zero, List.getElem_cons_succ, List.setIfInBounds_toArray, List.set_cons_zero, List.set_cons_succ])
                refine' wpAnyH_take (i := 5) (v := _) rfl (by kernel_rfl) (by kernel_rfl) (by kernel_rfl) (fun _ _ _ h => h) (Or.inl ⟨by rfl, ?_⟩) hHeld ?_
                rotate_left
                · intro w hSw
                  (try dsimp only at hSw)
                  go_simp
                  try with_reducible rfl
                (try simp only [Act.put, List.getElem_toArray, List.getElem_cons_zero, List.getElem_cons_succ, List.setIfInBounds_toArray, List.set_cons_zero, List.set_cons_succ])
                refine' wpAnyH_take (i := 6) (v := _) rfl (by kernel_rfl) (by kernel_rfl) (by kernel_rfl) (fun _ _ _ h => h) (Or.inl ⟨by rfl, ?_⟩) hHeld ?_
                rotate_left
                · intro w hSw
                  (try dsimp only at hSw)
                  go_simp
                  try with_reducible rfl
                (try simp only [Act.put, List.getElem_toArray, List.getElem_cons_zero, List.getElem_cons_succ, List.setIfInBounds_toArray, List.set_cons_zero, List.set_cons_succ])
                refine' wpAnyH_take (i := 7) (v := _) rfl (by kernel_rfl) (by kernel_rfl) (by kernel_rfl) (fun _ _ _ h => h) (Or.inl ⟨by rfl, ?_⟩) hHeld ?_
                rotate_left
                · intro w hSw
                  (try dsimp only at hSw)
                  go_simp
                  try with_reducible rfl
                (try simp only [Act.put, List.getElem_toArray, List.getElem_cons_zero, List.getElem_cons_succ, List.setIfInBounds_toArray, List.set_cons_zero, List.set_cons_succ])
                refine' wpAnyH_take (i := 8) (v := _) rfl (by kernel_rfl) (by kernel_rfl) (by kernel_rfl) (fun _ _ _ h => h) (Or.inl ⟨by rfl, ?_⟩) hHeld ?_
                rotate_left
                · intro w hSw
                  (try dsimp only at hSw)
                  go_simp
                  try with_reducible rfl
                (try simp only [Act.put, List.getElem_toArray, List.getElem_cons_zero, List.getElem_cons_succ, List.setIfInBounds_toArray, List.set_cons_zero, List.set_cons_succ])
                refine' wpAnyH_take (i := 9) (v := _) rfl (by kernel_rfl) (by kernel_rfl) (by kernel_rfl) (fun _ _ _ h => h) (Or.inl ⟨by rfl, ?_⟩) hHeld ?_
                rotate_left
                · intro w hSw
                  (try dsimp only at hSw)
                  go_simp
                  try with_reducible rfl
                (try simp only [Act.put, List.getElem_toArray, List.getElem_cons_zero, List.getElem_cons_succ, List.setIfInBounds_toArray, List.set_cons_zero, List.set_cons_succ])
                refine' wpAnyH_take (i := 10) (v := _) rfl (by kernel_rfl) (by kernel_rfl) (by kernel_rfl) (fun _ _ _ h => h) (Or.inl ⟨by rfl, ?_⟩) hHeld ?_
                rotate_left
                · intro w hSw
                  (try dsimp only at hSw)
                  go_simp
                  try with_reducible rfl
                (try simp only [Act.put, List.getElem_toArray, List.getElem_cons_zero, List.getElem_cons_succ, List.setIfInBounds_toArray, List.set_cons_zero, List.set_cons_succ])
                refine' wpAnyH_take (i := 11) (v := _) rfl (by kernel_rfl) (by kernel_rfl) (by kernel_rfl) (fun _ _ _ h => h) (Or.inl ⟨by rfl, ?_⟩) hHeld ?_
                rotate_left
                · intro w hSw
                  (try dsimp only at hSw)
                  go_simp
                  try with_reducible rfl
                (try simp only [Act.put, List.getElem_toArray, List.getElem_cons_zero, List.getElem_cons_succ, List.setIfInBounds_toArray, List.set_cons_zero, List.set_cons_succ])
                refine' wpAnyH_take (i := 12) (v := _) rfl (by kernel_rfl) (by kernel_rfl) (by kernel_rfl) (fun _ _ _ h => h) (Or.inl ⟨by rfl, ?_⟩) hHeld ?_
                rotate_left
                · intro w hSw
                  (try dsimp only at hSw)
                  go_simp
                  try with_reducible rfl
                (try simp only [Act.put, List.getElem_toArray, List.getElem_cons_zero, List.getElem_cons_succ, List.setIfInBounds_toArray, List.set_cons_zero, List.set_cons_succ])
                refine' wpAnyH_take (i := 13) (v := _) rfl (by kernel_rfl) (by kernel_rfl) (by kernel_rfl) (fun _ _ _ h => h) (Or.inl ⟨by rfl, ?_⟩) hHeld ?_
                rotate_left
                · intro w hSw
                  (try dsimp only at hSw)
                  go_simp
                  try with_reducible rfl
                (try simp only [Act.put, List.getElem_toArray, List.getElem_cons_zero, List.getElem_cons_succ, List.setIfInBounds_toArray, List.set_cons_zero, List.set_cons_succ])
                refine wpAnyH_ready (rs := [14]) (by kernel_rfl) (by simp) ?_
                refine AllReadyH.cons rfl (fun K hK => ?_) AllReadyH.nil
                go_simp
                refine (KX.out _).mono ?_
                rintro e x1 ⟨rfl, hb2⟩
                have hbx : Below wr.heap.size wr x1 := (by first | exact hb2 | exact (Below.refl wr.heap.size wr).drew.trans hb2)
                have HSX : x1.cell? ⟨g, go + k * 2, none⟩ = some (.int .i64 1) ∧ x1.cell? ⟨g, go + k * 2 + 1, none⟩ = some (.int .i64 0) ∧ x1.cell? ⟨f, fo + k * 2, none⟩ = some (.int .i64 2) ∧ x1.cell? ⟨f, fo + k * 2 + 1, none⟩ = some (.int .i64 (bitN false)) := And.intro ((hbx.cell (p := ⟨g, go + k * 2, none⟩) lg).trans HC.out.1) (And.intro ((hbx.cell (p := ⟨g, go + k * 2 + 1, none⟩) lg).trans HC.out.2.1) (And.intro ((hbx.cell (p := ⟨f, fo + k * 2, none⟩) lf).trans HC.out.2.2.1) (((hbx.cell (p := ⟨f, fo + k * 2 + 1, none⟩) lf).trans HC.out.2.2.2))))
                clear hb2
                try go_simp
                clear hHeld
                refine hK.out _ _ HSX (fun hHeld => ?_)
                clear hK K HSX
                (try simp only [Act.put, List.getElem_toArray, List.getElem_cons_zero, List.getElem_cons_succ, List.setIfInBounds_toArray, List.set_cons_zero, List.set_cons_succ])
                refine' wpAnyH_take (i := 15) (v := _) rfl (by kernel_rfl) (by kernel_rfl) (by kernel_rfl) (fun _ _ _ h => h) (Or.inl ⟨by rfl, ?_⟩) hHeld ?_
                rotate_left
                · intro w hSw
                  (try dsimp only at hSw)
                  go_simp
                  try with_reducible rfl
                (try simp only [Act.put, List.getElem_toArray, List.getElem_cons_zero, List.getElem_cons_succ, List.setIfInBounds_toArray, List.set_cons_zero, List.set_cons_succ])
                refine' wpAnyH_take (i := 16) (v := _) rfl (by kernel_rfl) (by kernel_rfl) (by kernel_rfl) (fun _ _ _ h => h) (Or.inl ⟨by rfl, ?_⟩) hHeld ?_
                rotate_left
                · intro w hSw
                  (try dsimp only at hSw)
                  go_simp
                  try with_reducible rfl
                (try simp only [Act.put, List.getElem_toArray, List.getElem_cons_zero, List.getElem_cons_succ, List.setIfInBounds_toArray, List.set_cons_zero, List.set_cons_succ])
                refine wpAnyH_done (by kernel_rfl) ?_ _
                (try simp only [Act.put, List.getElem_toArray, List.getElem_cons_zero, List.getElem_cons_succ, List.setIfInBounds_toArray, List.set_cons_zero, List.set_cons_succ])
                have hbz := hbx
                clear hHeld HC hbx
                go_wp2_with fail
                go_meet
                exact ⟨rfl, Lib.hid hbz⟩
              case rest =>
                obtain ⟨rfl, hcc⟩ := hcut
                have HBN := Lib.hid (HBS.out.trans (hcc.out.mono HBS.out.size))
                clear hcc
                go_wp2_with fail
                go_roundw
                case rel => exact ⟨k + 1, false, 0, by omega, by omega, by omega, rfl, rfl, by go_num, Lib.hid ⟨HN1.out.symm, HL1.out, HBN.out⟩⟩
                case measure => (simp [intOf]) <;> omega
          · obtain rfl : k = j := by omega
            go_wp2_with fail
            go_ret
            exact ⟨rfl, HZ2.out.trans (HBS.out.mono HZ2.out.size)⟩
end Go.Proofs.YtfgkgokmniocjaaDoor
