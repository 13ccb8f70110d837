/- The law Choice. -/
import Derived.Test.YtaobbedajgkmiaaDoorGm
namespace Go.Proofs.YtaobbedajgkmiaaDoor
open Go.RowKit Go.Shelf

set_option linter.unusedVariables false
set_option linter.unusedSimpArgs false
abbrev C4 (w : World) (lb lo gl : Nat) (κ x0 xl : Int) (w' : World) : Prop := w'.cell? ⟨lb, lo, none⟩ = some (.int .i64 κ) ∧ w'.cell? ⟨lb, lo + 1, none⟩ = some (.int .i64 x0) ∧ w'.cell? ⟨gl, 0, none⟩ = some (.int .i64 κ) ∧ w'.cell? ⟨gl, 1, none⟩ = some (.int .i64 xl) ∧ Below w.heap.size w w'
theorem c4_of {w : World} {lb lo gl : Nat} {κ x0 xl : Int} {w' : World} (s : C4 w lb lo gl κ x0 xl w) (hb : Below w.heap.size w w') : C4 w lb lo gl κ x0 xl w' := by
  obtain ⟨s0, s1, s2, s3, _⟩ := s
  have h_lb : lb < w.heap.size := World.block_lt_of_cell? _ _ s0
  have h_gl : gl < w.heap.size := World.block_lt_of_cell? _ _ s2
  exact ⟨(hb.cell (p := ⟨lb, lo, none⟩) h_lb).trans s0, (hb.cell (p := ⟨lb, lo + 1, none⟩) h_lb).trans s1, (hb.cell (p := ⟨gl, 0, none⟩) h_gl).trans s2, (hb.cell (p := ⟨gl, 1, none⟩) h_gl).trans s3, hb⟩
theorem c4_bel {w : World} {lb lo gl : Nat} {κ x0 xl : Int} {w' : World} (s : C4 w lb lo gl κ x0 xl w') : Below w.heap.size w w' := s.2.2.2.2
theorem c4_keep {w : World} {lb lo gl : Nat} {κ x0 xl : Int} {w1 w2 : World} (c : C4 w lb lo gl κ x0 xl w) (hb : Below w1.heap.size w1 w2) (s : C4 w lb lo gl κ x0 xl w1) : C4 w lb lo gl κ x0 xl w2 := c4_of c ((c4_bel s).trans (hb.mono (c4_bel s).size))
theorem c4_alloc {w : World} {lb lo gl : Nat} {κ x0 xl : Int} {w1 : World} (c : C4 w lb lo gl κ x0 xl w) (o : Obj) (s : C4 w lb lo gl κ x0 xl w1) : C4 w lb lo gl κ x0 xl (w1.alloc o) := c4_of c ((c4_bel s).alloc (c4_bel s).size o)
theorem c4_drew {w : World} {lb lo gl : Nat} {κ x0 xl : Int} {w1 : World} (c : C4 w lb lo gl κ x0 xl w) (s : C4 w lb lo gl κ x0 xl w1) : C4 w lb lo gl κ x0 xl w1.drew := c4_of c (c4_bel s).drew
theorem val_one (vs : List (Int × Int)) : ∀ u ∈ flat valL vs, u.oneCell' = true := by
  intro u hu
  unfold flat at hu
  obtain ⟨p, _, hp⟩ := List.mem_flatMap.1 hu
  simp only [valL, List.mem_cons, List.not_mem_nil, or_false] at hp
  rcases hp with rfl | rfl <;> rfl
theorem poss_ne {k n : Int} (h : PossP k n) : ¬ k = 0 := by rcases h with rfl | ⟨rfl, _⟩ | ⟨rfl, _⟩ <;> decide
theorem all_kind {vs : List (Int × Int)} {κ : Int} (h : ∀ v ∈ vs, PossP v.1 v.2 ∧ v.1 = κ) : vs = (vs.map Prod.snd).map fun x => (κ, x) := by
  rw [List.map_map]
  conv => lhs; rw [← List.map_id vs]
  apply List.map_congr_left
  intro v hv
  have := (h v hv).2
  show v = (κ, v.2)
  rw [← this]
theorem infoVl : (Tryd.prog.info? 51).map (fun i => (i.zero, i.size, i.bytes)) = some (some (.agg #[.int .i64 0, .int .i64 0]), 2, 16) := by kernel_rfl
set_option maxHeartbeats 16000000 in
set_option maxRecDepth 100000 in
theorem choice_law (sb : Bool) (st : Int) (la : Option Addr) (lc : Nat) (vs : List (Int × Int)) (w : World) (hm : MaxAt w) (hl : InS w la vs.length 2 (flat valL vs)) :
    Calls Tryd.prog 9 #[.bool sb, .int .i64 st, .slice la vs.length lc] w fun e w' => e = .returned (.bool true) ∧ Below w.heap.size w w' := by
  have KAW := Lib.hid (awake_yes w hm)
  have HMX := Lib.hid (fun (x : World) (hb : Below w.heap.size w x) => hm.keep hb)
  have HLI := Lib.hid (fun (x : World) (hb : Below w.heap.size w x) => hl.keep hb)
  obtain ⟨N, hN⟩ : ∃ N, N = vs.length := ⟨_, rfl⟩
  have HN := Lib.hid hN
  have n63 : N ≤ 9223372036854775807 := by rw [hN]; exact hl.2.1
  rw [← hN]
  obtain ⟨i0, hif, hz0, hz1, hz2⟩ := info_parts infoVl
  have HIF := Lib.hid hif
  have HZ0 := Lib.hid hz0
  have HZ1 := Lib.hid hz1
  have HZ2 := Lib.hid hz2
  clear hm hl hN hif hz0 hz1 hz2
  by_cases hbig : N < 1 ∨ (¬ N < 1 ∧ 7 < N) ∨ (¬ N < 1 ∧ ¬ 7 < N ∧ st < 1) ∨ (¬ N < 1 ∧ ¬ 7 < N ∧ ¬ st < 1 ∧ 16 < st)
  · rcases hbig with h1 | ⟨h1, h2⟩ | ⟨h1, h2, h3⟩ | ⟨h1, h2, h3, h4⟩
    all_goals
      go_enter Tryd.func9, Tryd.ntmps9
      go_wp2_with fail
      refine KAW.out.mono ?_
      rintro e w1 ⟨rfl, hb⟩
      have HB1 := Lib.hid hb
      clear hb
      go_wp2_with fail
      go_ret
      exact ⟨rfl, HB1.out⟩
  · have n1 : 1 ≤ N := by omega
    have n7 : N ≤ 7 := by omega
    have s1 : 1 ≤ st := by omega
    have s16 : st ≤ 16 := by omega
    clear hbig
    have g1 : decide ((N : Int) < 1) = false := decide_eq_false (by omega)
    have g2 : decide ((7 : Int) < (N : Int)) = false := decide_eq_false (by omega)
    have g3 : decide (st < (1 : Int)) = false := decide_eq_false (by omega)
    have g4 : decide ((16 : Int) < st) = false := decide_eq_false (by omega)
    obtain ⟨v0, hv0⟩ : ∃ x, vs[0]? = some x := ⟨_, List.getElem?_eq_getElem (by have := HN.out; omega)⟩
    obtain ⟨κ, x0⟩ := v0
    have HV0 := Lib.hid hv0
    clear hv0
    go_enter Tryd.func9, Tryd.ntmps9
    go_wp2_with fail
    refine KAW.out.mono ?_
    rintro e w1 ⟨rfl, hb⟩
    have HB1 := Lib.hid hb
    clear hb
    go_wp2_with fail
    clear g1 g2 g3 g4
    go_loopw [7] (fun i wr => ∃ k : Nat, k ≤ N ∧ i = .int .i64 k ∧ Hid ((∀ v ∈ vs.take k, PossP v.1 v.2 ∧ v.1 = κ) ∧ Below w.heap.size w wr)) (fun i _ => N - (intOf i).toNat)
    case atStart => exact ⟨0, Nat.zero_le _, rfl, Lib.hid ⟨fun v h => by simp at h, HB1.out⟩⟩
    case round =>
      obtain ⟨k, hk, rfl, hH⟩ := hrel
      have HK := Lib.hid hH.out.1
      have HB := Lib.hid hH.out.2
      clear hH
      by_cases hlt : k < N
      · obtain ⟨lb, lo, rfl, hll, hlc⟩ := (show InS wr la vs.length 2 (flat valL vs) from HLI.out _ HB.out).at valL_len (by have := HN.out; omega)
        obtain ⟨v, hv⟩ : ∃ x, vs[k]? = some x := ⟨_, List.getElem?_eq_getElem (by have := HN.out; omega)⟩
        obtain ⟨vk, vn⟩ := v
        have l0 : wr.cell? ⟨lb, lo + k * 2 + 0, none⟩ = some (.int .i64 vk) := hlc k _ hv 0 _ rfl
        have l1 : wr.cell? ⟨lb, lo + k * 2 + 1, none⟩ = some (.int .i64 vn) := hlc k _ hv 1 _ rfl
        have l2 : wr.cell? ⟨lb, lo, none⟩ = some (.int .i64 κ) := by have h := hlc 0 _ HV0.out 0 _ rfl; simpa using h
        rw [Nat.add_zero] at l0
        have HTK := Lib.hid (show vs.take (k + 1) = vs.take k ++ [(vk, vn)] by rw [List.take_add_one, hv]; rfl)
        have HLL := Lib.hid hll
        have kk : (k : Int) < (N : Int) := by omega
        have kd : k < N := hlt
        have p3 : (0 : Int) < (N : Int) := by omega
        have p4 : 0 < N := by omega
        clear hv hlc hll
        by_cases hP : PossP vk vn
        · have HP := Lib.hid hP
          clear hP
          by_cases he : vk = κ
          · have he2 := he.symm
            subst he2
            have e1 : (κ != κ) = false := by simp
            go_wp2_with fail
            have HS0 := Lib.hid (show (wr.cell? ⟨lb, lo + k * 2, none⟩ = some (.int .i64 κ) ∧ wr.cell? ⟨lb, lo + k * 2 + 1, none⟩ = some (.int .i64 vn) ∧ wr.cell? ⟨lb, lo, none⟩ = some (.int .i64 κ)) from ⟨l0, l1, l2⟩)
            refine wp_region_held_drew (S := fun w => (w.cell? ⟨lb, lo + k * 2, none⟩ = some (.int .i64 κ) ∧ w.cell? ⟨lb, lo + k * 2 + 1, none⟩ = some (.int .i64 vn) ∧ w.cell? ⟨lb, lo, none⟩ = some (.int .i64 κ))) (by kernel_rfl) HS0.out (fun hHeld => ?_)
            have hdr : Below wr.heap.size wr wr.drew := (Below.refl _ _).drew
            obtain ⟨wx, hwx⟩ : ∃ x, x = wr.drew := ⟨_, rfl⟩
            have HX := Lib.hid (show Below wr.heap.size wr wx by rw [hwx]; exact hdr)
            have HLB := Lib.hid (Nat.lt_of_lt_of_le HLL.out HX.out.size)
            rw [← hwx] at hHeld ⊢
            clear hwx hdr HS0 l0 l1 l2
            refine' wpAnyH_take (i := 0) (v := _) rfl (by kernel_rfl) (by kernel_rfl) (by kernel_rfl) (fun _ _ _ h => h) (Or.inl ⟨by rfl, ?_⟩) hHeld ?_
            rotate_left
            · intro w hSw
              (try dsimp only at hSw)
              go_simp
              try with_reducible rfl
            (try simp only [Act.put, List.getElem_toArray, List.getElem_cons_zero, List.getElem_cons_succ, List.setIfInBounds_toArray, List.set_cons_zero, List.set_cons_succ])
            refine' wpAnyH_take (i := 1) (v := _) rfl (by kernel_rfl) (by kernel_rfl) (by kernel_rfl) (fun _ _ _ h => h) (Or.inl ⟨by rfl, ?_⟩) hHeld ?_
            rotate_left
            · intro w hSw
              (try dsimp only at hSw)
              go_simp
              try with_reducible rfl
            (try simp only [Act.put, List.getElem_toArray, List.getElem_cons_zero, List.getElem_cons_succ, List.setIfInBounds_toArray, List.set_cons_zero, List.set_cons_succ])
            refine' wpAnyH_take (i := 2) (v := _) rfl (by kernel_rfl) (by kernel_rfl) (by kernel_rfl) (fun _ _ _ h => h) (Or.inl ⟨by rfl, ?_⟩) hHeld ?_
            rotate_left
            · intro w hSw
              (try dsimp only at hSw)
              go_simp
              try with_reducible rfl
            (try simp only [Act.put, List.getElem_toArray, List.getElem_cons_zero, List.getElem_cons_succ, List.setIfInBounds_toArray, List.set_cons_zero, List.set_cons_succ])
            refine' wpAnyH_take (i := 3) (v := _) rfl (by kernel_rfl) (by kernel_rfl) (by kernel_rfl) (fun _ _ _ h => h) (Or.inl ⟨by rfl, ?_⟩) hHeld ?_
            rotate_left
            · intro w hSw
              (try dsimp only at hSw)
              go_simp
              try with_reducible rfl
            (try simp only [Act.put, List.getElem_toArray, List.getElem_cons_zero, List.getElem_cons_succ, List.setIfInBounds_toArray, List.set_cons_zero, List.set_cons_succ])
            have hh := hHeld
            refine wpAnyH_ready (rs := [4]) (by kernel_rfl) (by simp) ?_
            refine AllReadyH.cons rfl (fun K hK => ?_) AllReadyH.nil
            go_simp
            refine (plain_yes _ _ HP.out _).mono ?_
            rintro e wy ⟨rfl, hb⟩
            have HY := Lib.hid (HB.out.trans ((HX.out.trans (hb.mono HX.out.size)).mono HB.out.size))
            have hs2 : (wy.cell? ⟨lb, lo + k * 2, none⟩ = some (.int .i64 κ) ∧ wy.cell? ⟨lb, lo + k * 2 + 1, none⟩ = some (.int .i64 vn) ∧ wy.cell? ⟨lb, lo, none⟩ = some (.int .i64 κ)) := ⟨(hb.cell (p := ⟨lb, lo + k * 2, none⟩) HLB.out).trans hh.1, (hb.cell (p := ⟨lb, lo + k * 2 + 1, none⟩) HLB.out).trans hh.2.1, (hb.cell (p := ⟨lb, lo, none⟩) HLB.out).trans hh.2.2⟩
            clear hb hHeld hh HX HLB
            (try go_simp)
            refine hK.out _ _ hs2 (fun hHeld => ?_)
            clear hK K hs2
            (try simp only [Act.put, List.getElem_toArray, List.getElem_cons_zero, List.getElem_cons_succ, List.setIfInBounds_toArray, List.set_cons_zero, List.set_cons_succ])
            refine' wpAnyH_take (i := 5) (v := _) rfl (by kernel_rfl) (by kernel_rfl) (by kernel_rfl) (fun _ _ _ h => h) (Or.inl ⟨by rfl, ?_⟩) hHeld ?_
            rotate_left
            · intro w hSw
              (try dsimp only at hSw)
              go_simp
              try with_reducible rfl
            (try simp only [Act.put, List.getElem_toArray, List.getElem_cons_zero, List.getElem_cons_succ, List.setIfInBounds_toArray, List.set_cons_zero, List.set_cons_succ])
            refine' wpAnyH_take (i := 6) (v := _) rfl (by kernel_rfl) (by kernel_rfl) (by kernel_rfl) (fun _ _ _ h => h) (Or.inl ⟨by rfl, ?_⟩) hHeld ?_
            rotate_left
            · intro w hSw
              (try dsimp only at hSw)
              go_simp
              try with_reducible rfl
            (try simp only [Act.put, List.getElem_toArray, List.getElem_cons_zero, List.getElem_cons_succ, List.setIfInBounds_toArray, List.set_cons_zero, List.set_cons_succ])
            refine' wpAnyH_take (i := 7) (v := _) rfl (by kernel_rfl) (by kernel_rfl) (by kernel_rfl) (fun _ _ _ h => h) (Or.inl ⟨by rfl, ?_⟩) hHeld ?_
            rotate_left
            · intro w hSw
              (try dsimp only at hSw)
              go_simp
              try with_reducible rfl
            (try simp only [Act.put, List.getElem_toArray, List.getElem_cons_zero, List.getElem_cons_succ, List.setIfInBounds_toArray, List.set_cons_zero, List.set_cons_succ])
            refine' wpAnyH_take (i := 8) (v := _) rfl (by kernel_rfl) (by kernel_rfl) (by kernel_rfl) (fun _ _ _ h => h) (Or.inl ⟨by rfl, ?_⟩) hHeld ?_
            rotate_left
            · intro w hSw
              (try dsimp only at hSw)
              go_simp
              try with_reducible rfl
            (try simp only [Act.put, List.getElem_toArray, List.getElem_cons_zero, List.getElem_cons_succ, List.setIfInBounds_toArray, List.set_cons_zero, List.set_cons_succ])
            refine' wpAnyH_take (i := 9) (v := _) rfl (by kernel_rfl) (by kernel_rfl) (by kernel_rfl) (fun _ _ _ h => h) (Or.inl ⟨by rfl, ?_⟩) hHeld ?_
            rotate_left
            · intro w hSw
              (try dsimp only at hSw)
              go_simp
              try with_reducible rfl
            (try simp only [Act.put, List.getElem_toArray, List.getElem_cons_zero, List.getElem_cons_succ, List.setIfInBounds_toArray, List.set_cons_zero, List.set_cons_succ])
            refine' wpAnyH_take (i := 10) (v := _) rfl (by kernel_rfl) (by kernel_rfl) (by kernel_rfl) (fun _ _ _ h => h) (Or.inl ⟨by rfl, ?_⟩) hHeld ?_
            rotate_left
            · intro w hSw
              (try dsimp only at hSw)
              go_simp
              try with_reducible rfl
            (try simp only [Act.put, List.getElem_toArray, List.getElem_cons_zero, List.getElem_cons_succ, List.setIfInBounds_toArray, List.set_cons_zero, List.set_cons_succ])
            refine' wpAnyH_take (i := 11) (v := _) rfl (by kernel_rfl) (by kernel_rfl) (by kernel_rfl) (fun _ _ _ h => h) (Or.inl ⟨by rfl, ?_⟩) hHeld ?_
            rotate_left
            · intro w hSw
              (try dsimp only at hSw)
              go_simp
              try with_reducible rfl
            (try simp only [Act.put, List.getElem_toArray, List.getElem_cons_zero, List.getElem_cons_succ, List.setIfInBounds_toArray, List.set_cons_zero, List.set_cons_succ])
            refine' wpAnyH_take (i := 12) (v := _) rfl (by kernel_rfl) (by kernel_rfl) (by kernel_rfl) (fun _ _ _ h => h) (Or.inl ⟨by rfl, ?_⟩) hHeld ?_
            rotate_left
            · intro w hSw
              (try dsimp only at hSw)
              go_simp
              try with_reducible rfl
            (try simp only [Act.put, List.getElem_toArray, List.getElem_cons_zero, List.getElem_cons_succ, List.setIfInBounds_toArray, List.set_cons_zero, List.set_cons_succ])
            refine' wpAnyH_take (i := 13) (v := _) rfl (by kernel_rfl) (by kernel_rfl) (by kernel_rfl) (fun _ _ _ h => h) (Or.inl ⟨by rfl, ?_⟩) hHeld ?_
            rotate_left
            · intro w hSw
              (try dsimp only at hSw)
              go_simp
              try with_reducible rfl
            (try simp only [Act.put, List.getElem_toArray, List.getElem_cons_zero, List.getElem_cons_succ, List.setIfInBounds_toArray, List.set_cons_zero, List.set_cons_succ])
            refine' wpAnyH_take (i := 14) (v := _) rfl (by kernel_rfl) (by kernel_rfl) (by kernel_rfl) (fun _ _ _ h => h) (Or.inl ⟨by rfl, ?_⟩) hHeld ?_
            rotate_left
            · intro w hSw
              (try dsimp only at hSw)
              go_simp
              try with_reducible rfl
            (try simp only [Act.put, List.getElem_toArray, List.getElem_cons_zero, List.getElem_cons_succ, List.setIfInBounds_toArray, List.set_cons_zero, List.set_cons_succ])
            refine' wpAnyH_take (i := 15) (v := _) rfl (by kernel_rfl) (by kernel_rfl) (by kernel_rfl) (fun _ _ _ h => h) (Or.inl ⟨by rfl, ?_⟩) hHeld ?_
            rotate_left
            · intro w hSw
              (try dsimp only at hSw)
              go_simp
              try with_reducible rfl
            (try simp only [Act.put, List.getElem_toArray, List.getElem_cons_zero, List.getElem_cons_succ, List.setIfInBounds_toArray, List.set_cons_zero, List.set_cons_succ])
            refine' wpAnyH_take (i := 16) (v := _) rfl (by kernel_rfl) (by kernel_rfl) (by kernel_rfl) (fun _ _ _ h => h) (Or.inl ⟨by rfl, ?_⟩) hHeld ?_
            rotate_left
            · intro w hSw
              (try dsimp only at hSw)
              go_simp
              try with_reducible rfl
            (try simp only [Act.put, List.getElem_toArray, List.getElem_cons_zero, List.getElem_cons_succ, List.setIfInBounds_toArray, List.set_cons_zero, List.set_cons_succ])
            refine' wpAnyH_take (i := 17) (v := _) rfl (by kernel_rfl) (by kernel_rfl) (by kernel_rfl) (fun _ _ _ h => h) (Or.inl ⟨by rfl, ?_⟩) hHeld ?_
            rotate_left
            · intro w hSw
              (try dsimp only at hSw)
              go_simp
              try with_reducible rfl
            (try simp only [Act.put, List.getElem_toArray, List.getElem_cons_zero, List.getElem_cons_succ, List.setIfInBounds_toArray, List.set_cons_zero, List.set_cons_succ])
            refine wpAnyH_done (by kernel_rfl) ?_ _
            (try simp only [Act.put, List.getElem_toArray, List.getElem_cons_zero, List.getElem_cons_succ, List.setIfInBounds_toArray, List.set_cons_zero, List.set_cons_succ])
            clear hHeld
            have HK2 := Lib.hid (show ∀ v ∈ vs.take (k + 1), PossP v.1 v.2 ∧ v.1 = κ by
              intro v hv
              rw [HTK.out] at hv
              rcases List.mem_append.1 hv with h | h
              · exact HK.out v h
              · have e : v = (κ, vn) := by simpa using h
                rw [e]; exact ⟨HP.out, rfl⟩)
            go_wp2_with fail
            go_roundw
            case rel => exact ⟨k + 1, by omega, by go_num, Lib.hid ⟨HK2.out, HY.out⟩⟩
            case measure => (simp [intOf]) <;> omega
          · have e1 : (vk == κ) = false := beq_eq_false_iff_ne.2 he
            have e2 : (vk != κ) = true := bne_iff_ne.2 he
            clear he
            go_wp2_with fail
            have HS0 := Lib.hid (show (wr.cell? ⟨lb, lo + k * 2, none⟩ = some (.int .i64 vk) ∧ wr.cell? ⟨lb, lo + k * 2 + 1, none⟩ = some (.int .i64 vn) ∧ wr.cell? ⟨lb, lo, none⟩ = some (.int .i64 κ)) from ⟨l0, l1, l2⟩)
            refine wp_region_held_drew (S := fun w => (w.cell? ⟨lb, lo + k * 2, none⟩ = some (.int .i64 vk) ∧ w.cell? ⟨lb, lo + k * 2 + 1, none⟩ = some (.int .i64 vn) ∧ w.cell? ⟨lb, lo, none⟩ = some (.int .i64 κ))) (by kernel_rfl) HS0.out (fun hHeld => ?_)
            have hdr : Below wr.heap.size wr wr.drew := (Below.refl _ _).drew
            obtain ⟨wx, hwx⟩ : ∃ x, x = wr.drew := ⟨_, rfl⟩
            have HX := Lib.hid (show Below wr.heap.size wr wx by rw [hwx]; exact hdr)
            have HLB := Lib.hid (Nat.lt_of_lt_of_le HLL.out HX.out.size)
            rw [← hwx] at hHeld ⊢
            clear hwx hdr HS0 l0 l1 l2
            refine' wpAnyH_take (i := 0) (v := _) rfl (by kernel_rfl) (by kernel_rfl) (by kernel_rfl) (fun _ _ _ h => h) (Or.inl ⟨by rfl, ?_⟩) hHeld ?_
            rotate_left
            · intro w hSw
              (try dsimp only at hSw)
              go_simp
              try with_reducible rfl
            (try simp only [Act.put, List.getElem_toArray, List.getElem_cons_zero, List.getElem_cons_succ, List.setIfInBounds_toArray, List.set_cons_zero, List.set_cons_succ])
            refine' wpAnyH_take (i := 1) (v := _) rfl (by kernel_rfl) (by kernel_rfl) (by kernel_rfl) (fun _ _ _ h => h) (Or.inl ⟨by rfl, ?_⟩) hHeld ?_
            rotate_left
            · intro w hSw
              (try dsimp only at hSw)
              go_simp
              try with_reducible rfl
            (try simp only [Act.put, List.getElem_toArray, List.getElem_cons_zero, List.getElem_cons_succ, List.setIfInBounds_toArray, List.set_cons_zero, List.set_cons_succ])
            refine' wpAnyH_take (i := 2) (v := _) rfl (by kernel_rfl) (by kernel_rfl) (by kernel_rfl) (fun _ _ _ h => h) (Or.inl ⟨by rfl, ?_⟩) hHeld ?_
            rotate_left
            · intro w hSw
              (try dsimp only at hSw)
              go_simp
              try with_reducible rfl
            (try simp only [Act.put, List.getElem_toArray, List.getElem_cons_zero, List.getElem_cons_succ, List.setIfInBounds_toArray, List.set_cons_zero, List.set_cons_succ])
            refine' wpAnyH_take (i := 3) (v := _) rfl (by kernel_rfl) (by kernel_rfl) (by kernel_rfl) (fun _ _ _ h => h) (Or.inl ⟨by rfl, ?_⟩) hHeld ?_
            rotate_left
            · intro w hSw
              (try dsimp only at hSw)
              go_simp
              try with_reducible rfl
            (try simp only [Act.put, List.getElem_toArray, List.getElem_cons_zero, List.getElem_cons_succ, List.setIfInBounds_toArray, List.set_cons_zero, List.set_cons_succ])
            have hh := hHeld
            refine wpAnyH_ready (rs := [4]) (by kernel_rfl) (by simp) ?_
            refine AllReadyH.cons rfl (fun K hK => ?_) AllReadyH.nil
            go_simp
            refine (plain_yes _ _ HP.out _).mono ?_
            rintro e wy ⟨rfl, hb⟩
            have HY := Lib.hid (HB.out.trans ((HX.out.trans (hb.mono HX.out.size)).mono HB.out.size))
            have hs2 : (wy.cell? ⟨lb, lo + k * 2, none⟩ = some (.int .i64 vk) ∧ wy.cell? ⟨lb, lo + k * 2 + 1, none⟩ = some (.int .i64 vn) ∧ wy.cell? ⟨lb, lo, none⟩ = some (.int .i64 κ)) := ⟨(hb.cell (p := ⟨lb, lo + k * 2, none⟩) HLB.out).trans hh.1, (hb.cell (p := ⟨lb, lo + k * 2 + 1, none⟩) HLB.out).trans hh.2.1, (hb.cell (p := ⟨lb, lo, none⟩) HLB.out).trans hh.2.2⟩
            clear hb hHeld hh HX HLB
            (try go_simp)
            refine hK.out _ _ hs2 (fun hHeld => ?_)
            clear hK K hs2
            (try simp only [Act.put, List.getElem_toArray, List.getElem_cons_zero, List.getElem_cons_succ, List.setIfInBounds_toArray, List.set_cons_zero, List.set_cons_succ])
            refine' wpAnyH_take (i := 5) (v := _) rfl (by kernel_rfl) (by kernel_rfl) (by kernel_rfl) (fun _ _ _ h => h) (Or.inl ⟨by rfl, ?_⟩) hHeld ?_
            rotate_left
            · intro w hSw
              (try dsimp only at hSw)
              go_simp
              try with_reducible rfl
            (try simp only [Act.put, List.getElem_toArray, List.getElem_cons_zero, List.getElem_cons_succ, List.setIfInBounds_toArray, List.set_cons_zero, List.set_cons_succ])
            refine' wpAnyH_take (i := 6) (v := _) rfl (by kernel_rfl) (by kernel_rfl) (by kernel_rfl) (fun _ _ _ h => h) (Or.inl ⟨by rfl, ?_⟩) hHeld ?_
            rotate_left
            · intro w hSw
              (try dsimp only at hSw)
              go_simp
              try with_reducible rfl
            (try simp only [Act.put, List.getElem_toArray, List.getElem_cons_zero, List.getElem_cons_succ, List.setIfInBounds_toArray, List.set_cons_zero, List.set_cons_succ])
            refine' wpAnyH_take (i := 7) (v := _) rfl (by kernel_rfl) (by kernel_rfl) (by kernel_rfl) (fun _ _ _ h => h) (Or.inl ⟨by rfl, ?_⟩) hHeld ?_
            rotate_left
            · intro w hSw
              (try dsimp only at hSw)
              go_simp
              try with_reducible rfl
            (try simp only [Act.put, List.getElem_toArray, List.getElem_cons_zero, List.getElem_cons_succ, List.setIfInBounds_toArray, List.set_cons_zero, List.set_cons_succ])
            refine' wpAnyH_take (i := 8) (v := _) rfl (by kernel_rfl) (by kernel_rfl) (by kernel_rfl) (fun _ _ _ h => h) (Or.inl ⟨by rfl, ?_⟩) hHeld ?_
            rotate_left
            · intro w hSw
              (try dsimp only at hSw)
              go_simp
              try with_reducible rfl
            (try simp only [Act.put, List.getElem_toArray, List.getElem_cons_zero, List.getElem_cons_succ, List.setIfInBounds_toArray, List.set_cons_zero, List.set_cons_succ])
            refine' wpAnyH_take (i := 9) (v := _) rfl (by kernel_rfl) (by kernel_rfl) (by kernel_rfl) (fun _ _ _ h => h) (Or.inl ⟨by rfl, ?_⟩) hHeld ?_
            rotate_left
            · intro w hSw
              (try dsimp only at hSw)
              go_simp
              try with_reducible rfl
            (try simp only [Act.put, List.getElem_toArray, List.getElem_cons_zero, List.getElem_cons_succ, List.setIfInBounds_toArray, List.set_cons_zero, List.set_cons_succ])
            refine' wpAnyH_take (i := 10) (v := _) rfl (by kernel_rfl) (by kernel_rfl) (by kernel_rfl) (fun _ _ _ h => h) (Or.inl ⟨by rfl, ?_⟩) hHeld ?_
            rotate_left
            · intro w hSw
              (try dsimp only at hSw)
              go_simp
              try with_reducible rfl
            (try simp only [Act.put, List.getElem_toArray, List.getElem_cons_zero, List.getElem_cons_succ, List.setIfInBounds_toArray, List.set_cons_zero, List.set_cons_succ])
            refine' wpAnyH_take (i := 11) (v := _) rfl (by kernel_rfl) (by kernel_rfl) (by kernel_rfl) (fun _ _ _ h => h) (Or.inl ⟨by rfl, ?_⟩) hHeld ?_
            rotate_left
            · intro w hSw
              (try dsimp only at hSw)
              go_simp
              try with_reducible rfl
            (try simp only [Act.put, List.getElem_toArray, List.getElem_cons_zero, List.getElem_cons_succ, List.setIfInBounds_toArray, List.set_cons_zero, List.set_cons_succ])
            refine' wpAnyH_take (i := 12) (v := _) rfl (by kernel_rfl) (by kernel_rfl) (by kernel_rfl) (fun _ _ _ h => h) (Or.inl ⟨by rfl, ?_⟩) hHeld ?_
            rotate_left
            · intro w hSw
              (try dsimp only at hSw)
              go_simp
              try with_reducible rfl
            (try simp only [Act.put, List.getElem_toArray, List.getElem_cons_zero, List.getElem_cons_succ, List.setIfInBounds_toArray, List.set_cons_zero, List.set_cons_succ])
            refine' wpAnyH_take (i := 13) (v := _) rfl (by kernel_rfl) (by kernel_rfl) (by kernel_rfl) (fun _ _ _ h => h) (Or.inl ⟨by rfl, ?_⟩) hHeld ?_
            rotate_left
            · intro w hSw
              (try dsimp only at hSw)
              go_simp
              try with_reducible rfl
            (try simp only [Act.put, List.getElem_toArray, List.getElem_cons_zero, List.getElem_cons_succ, List.setIfInBounds_toArray, List.set_cons_zero, List.set_cons_succ])
            refine' wpAnyH_take (i := 14) (v := _) rfl (by kernel_rfl) (by kernel_rfl) (by kernel_rfl) (fun _ _ _ h => h) (Or.inl ⟨by rfl, ?_⟩) hHeld ?_
            rotate_left
            · intro w hSw
              (try dsimp only at hSw)
              go_simp
              try with_reducible rfl
            (try simp only [Act.put, List.getElem_toArray, List.getElem_cons_zero, List.getElem_cons_succ, List.setIfInBounds_toArray, List.set_cons_zero, List.set_cons_succ])
            refine' wpAnyH_take (i := 15) (v := _) rfl (by kernel_rfl) (by kernel_rfl) (by kernel_rfl) (fun _ _ _ h => h) (Or.inl ⟨by rfl, ?_⟩) hHeld ?_
            rotate_left
            · intro w hSw
              (try dsimp only at hSw)
              go_simp
              try with_reducible rfl
            (try simp only [Act.put, List.getElem_toArray, List.getElem_cons_zero, List.getElem_cons_succ, List.setIfInBounds_toArray, List.set_cons_zero, List.set_cons_succ])
            refine' wpAnyH_take (i := 16) (v := _) rfl (by kernel_rfl) (by kernel_rfl) (by kernel_rfl) (fun _ _ _ h => h) (Or.inl ⟨by rfl, ?_⟩) hHeld ?_
            rotate_left
            · intro w hSw
              (try dsimp only at hSw)
              go_simp
              try with_reducible rfl
            (try simp only [Act.put, List.getElem_toArray, List.getElem_cons_zero, List.getElem_cons_succ, List.setIfInBounds_toArray, List.set_cons_zero, List.set_cons_succ])
            refine' wpAnyH_take (i := 17) (v := _) rfl (by kernel_rfl) (by kernel_rfl) (by kernel_rfl) (fun _ _ _ h => h) (Or.inl ⟨by rfl, ?_⟩) hHeld ?_
            rotate_left
            · intro w hSw
              (try dsimp only at hSw)
              go_simp
              try with_reducible rfl
            (try simp only [Act.put, List.getElem_toArray, List.getElem_cons_zero, List.getElem_cons_succ, List.setIfInBounds_toArray, List.set_cons_zero, List.set_cons_succ])
            refine wpAnyH_done (by kernel_rfl) ?_ _
            (try simp only [Act.put, List.getElem_toArray, List.getElem_cons_zero, List.getElem_cons_succ, List.setIfInBounds_toArray, List.set_cons_zero, List.set_cons_succ])
            clear hHeld
            go_wp2_with fail
            go_ret
            exact ⟨rfl, HY.out⟩
        · have HP := Lib.hid hP
          clear hP
          go_wp2_with fail
          have HS0 := Lib.hid (show (wr.cell? ⟨lb, lo + k * 2, none⟩ = some (.int .i64 vk) ∧ wr.cell? ⟨lb, lo + k * 2 + 1, none⟩ = some (.int .i64 vn) ∧ wr.cell? ⟨lb, lo, none⟩ = some (.int .i64 κ)) from ⟨l0, l1, l2⟩)
          refine wp_region_held_drew (S := fun w => (w.cell? ⟨lb, lo + k * 2, none⟩ = some (.int .i64 vk) ∧ w.cell? ⟨lb, lo + k * 2 + 1, none⟩ = some (.int .i64 vn) ∧ w.cell? ⟨lb, lo, none⟩ = some (.int .i64 κ))) (by kernel_rfl) HS0.out (fun hHeld => ?_)
          have hdr : Below wr.heap.size wr wr.drew := (Below.refl _ _).drew
          obtain ⟨wx, hwx⟩ : ∃ x, x = wr.drew := ⟨_, rfl⟩
          have HX := Lib.hid (show Below wr.heap.size wr wx by rw [hwx]; exact hdr)
          have HLB := Lib.hid (Nat.lt_of_lt_of_le HLL.out HX.out.size)
          rw [← hwx] at hHeld ⊢
          clear hwx hdr HS0 l0 l1 l2
          refine' wpAnyH_take (i := 0) (v := _) rfl (by kernel_rfl) (by kernel_rfl) (by kernel_rfl) (fun _ _ _ h => h) (Or.inl ⟨by rfl, ?_⟩) hHeld ?_
          rotate_left
          · intro w hSw
            (try dsimp only at hSw)
            go_simp
            try with_reducible rfl
          (try simp only [Act.put, List.getElem_toArray, List.getElem_cons_zero, List.getElem_cons_succ, List.setIfInBounds_toArray, List.set_cons_zero, List.set_cons_succ])
          refine' wpAnyH_take (i := 1) (v := _) rfl (by kernel_rfl) (by kernel_rfl) (by kernel_rfl) (fun _ _ _ h => h) (Or.inl ⟨by rfl, ?_⟩) hHeld ?_
          rotate_left
          · intro w hSw
            (try dsimp only at hSw)
            go_simp
            try with_reducible rfl
          (try simp only [Act.put, List.getElem_toArray, List.getElem_cons_zero, List.getElem_cons_succ, List.setIfInBounds_toArray, List.set_cons_zero, List.set_cons_succ])
          refine' wpAnyH_take (i := 2) (v := _) rfl (by kernel_rfl) (by kernel_rfl) (by kernel_rfl) (fun _ _ _ h => h) (Or.inl ⟨by rfl, ?_⟩) hHeld ?_
          rotate_left
          · intro w hSw
            (try dsimp only at hSw)
            go_simp
            try with_reducible rfl
          (try simp only [Act.put, List.getElem_toArray, List.getElem_cons_zero, List.getElem_cons_succ, List.setIfInBounds_toArray, List.set_cons_zero, List.set_cons_succ])
          refine' wpAnyH_take (i := 3) (v := _) rfl (by kernel_rfl) (by kernel_rfl) (by kernel_rfl) (fun _ _ _ h => h) (Or.inl ⟨by rfl, ?_⟩) hHeld ?_
          rotate_left
          · intro w hSw
            (try dsimp only at hSw)
            go_simp
            try with_reducible rfl
          (try simp only [Act.put, List.getElem_toArray, List.getElem_cons_zero, List.getElem_cons_succ, List.setIfInBounds_toArray, List.set_cons_zero, List.set_cons_succ])
          have hh := hHeld
          refine wpAnyH_ready (rs := [4]) (by kernel_rfl) (by simp) ?_
          refine AllReadyH.cons rfl (fun K hK => ?_) AllReadyH.nil
          go_simp
          refine (plain_no _ _ HP.out _).mono ?_
          rintro e wy ⟨rfl, hb⟩
          have HY := Lib.hid (HB.out.trans ((HX.out.trans (hb.mono HX.out.size)).mono HB.out.size))
          have hs2 : (wy.cell? ⟨lb, lo + k * 2, none⟩ = some (.int .i64 vk) ∧ wy.cell? ⟨lb, lo + k * 2 + 1, none⟩ = some (.int .i64 vn) ∧ wy.cell? ⟨lb, lo, none⟩ = some (.int .i64 κ)) := ⟨(hb.cell (p := ⟨lb, lo + k * 2, none⟩) HLB.out).trans hh.1, (hb.cell (p := ⟨lb, lo + k * 2 + 1, none⟩) HLB.out).trans hh.2.1, (hb.cell (p := ⟨lb, lo, none⟩) HLB.out).trans hh.2.2⟩
          clear hb hHeld hh HX HLB
          (try go_simp)
          refine hK.out _ _ hs2 (fun hHeld => ?_)
          clear hK K hs2
          (try simp only [Act.put, List.getElem_toArray, List.getElem_cons_zero, List.getElem_cons_succ, List.setIfInBounds_toArray, List.set_cons_zero, List.set_cons_succ])
          refine' wpAnyH_take (i := 5) (v := _) rfl (by kernel_rfl) (by kernel_rfl) (by kernel_rfl) (fun _ _ _ h => h) (Or.inl ⟨by rfl, ?_⟩) hHeld ?_
          rotate_left
          · intro w hSw
            (try dsimp only at hSw)
            go_simp
            try with_reducible rfl
          (try simp only [Act.put, List.getElem_toArray, List.getElem_cons_zero, List.getElem_cons_succ, List.setIfInBounds_toArray, List.set_cons_zero, List.set_cons_succ])
          refine' wpAnyH_take (i := 6) (v := _) rfl (by kernel_rfl) (by kernel_rfl) (by kernel_rfl) (fun _ _ _ h => h) (Or.inl ⟨by rfl, ?_⟩) hHeld ?_
          rotate_left
          · intro w hSw
            (try dsimp only at hSw)
            go_simp
            try with_reducible rfl
          (try simp only [Act.put, List.getElem_toArray, List.getElem_cons_zero, List.getElem_cons_succ, List.setIfInBounds_toArray, List.set_cons_zero, List.set_cons_succ])
          refine wpAnyH_take (i := 7) (v := undef) rfl (by kernel_rfl) (by kernel_rfl) (by kernel_rfl) (fun _ _ _ h => h) (Or.inr ⟨by kernel_rfl, rfl⟩) hHeld ?_
          (try simp only [Act.put, List.getElem_toArray, List.getElem_cons_zero, List.getElem_cons_succ, List.setIfInBounds_toArray, List.set_cons_zero, List.set_cons_succ])
          refine wpAnyH_take (i := 8) (v := undef) rfl (by kernel_rfl) (by kernel_rfl) (by kernel_rfl) (fun _ _ _ h => h) (Or.inr ⟨by kernel_rfl, rfl⟩) hHeld ?_
          (try simp only [Act.put, List.getElem_toArray, List.getElem_cons_zero, List.getElem_cons_succ, List.setIfInBounds_toArray, List.set_cons_zero, List.set_cons_succ])
          refine wpAnyH_take (i := 9) (v := undef) rfl (by kernel_rfl) (by kernel_rfl) (by kernel_rfl) (fun _ _ _ h => h) (Or.inr ⟨by kernel_rfl, rfl⟩) hHeld ?_
          (try simp only [Act.put, List.getElem_toArray, List.getElem_cons_zero, List.getElem_cons_succ, List.setIfInBounds_toArray, List.set_cons_zero, List.set_cons_succ])
          refine wpAnyH_take (i := 10) (v := undef) rfl (by kernel_rfl) (by kernel_rfl) (by kernel_rfl) (fun _ _ _ h => h) (Or.inr ⟨by kernel_rfl, rfl⟩) hHeld ?_
          (try simp only [Act.put, List.getElem_toArray, List.getElem_cons_zero, List.getElem_cons_succ, List.setIfInBounds_toArray, List.set_cons_zero, List.set_cons_succ])
          refine wpAnyH_take (i := 11) (v := undef) rfl (by kernel_rfl) (by kernel_rfl) (by kernel_rfl) (fun _ _ _ h => h) (Or.inr ⟨by kernel_rfl, rfl⟩) hHeld ?_
          (try simp only [Act.put, List.getElem_toArray, List.getElem_cons_zero, List.getElem_cons_succ, List.setIfInBounds_toArray, List.set_cons_zero, List.set_cons_succ])
          refine wpAnyH_take (i := 12) (v := undef) rfl (by kernel_rfl) (by kernel_rfl) (by kernel_rfl) (fun _ _ _ h => h) (Or.inr ⟨by kernel_rfl, rfl⟩) hHeld ?_
          (try simp only [Act.put, List.getElem_toArray, List.getElem_cons_zero, List.getElem_cons_succ, List.setIfInBounds_toArray, List.set_cons_zero, List.set_cons_succ])
          refine wpAnyH_take (i := 13) (v := undef) rfl (by kernel_rfl) (by kernel_rfl) (by kernel_rfl) (fun _ _ _ h => h) (Or.inr ⟨by kernel_rfl, rfl⟩) hHeld ?_
          (try simp only [Act.put, List.getElem_toArray, List.getElem_cons_zero, List.getElem_cons_succ, List.setIfInBounds_toArray, List.set_cons_zero, List.set_cons_succ])
          refine wpAnyH_take (i := 14) (v := undef) rfl (by kernel_rfl) (by kernel_rfl) (by kernel_rfl) (fun _ _ _ h => h) (Or.inr ⟨by kernel_rfl, rfl⟩) hHeld ?_
          (try simp only [Act.put, List.getElem_toArray, List.getElem_cons_zero, List.getElem_cons_succ, List.setIfInBounds_toArray, List.set_cons_zero, List.set_cons_succ])
          refine wpAnyH_take (i := 15) (v := undef) rfl (by kernel_rfl) (by kernel_rfl) (by kernel_rfl) (fun _ _ _ h => h) (Or.inr ⟨by kernel_rfl, rfl⟩) hHeld ?_
          (try simp only [Act.put, List.getElem_toArray, List.getElem_cons_zero, List.getElem_cons_succ, List.setIfInBounds_toArray, List.set_cons_zero, List.set_cons_succ])
          refine wpAnyH_take (i := 16) (v := undef) rfl (by kernel_rfl) (by kernel_rfl) (by kernel_rfl) (fun _ _ _ h => h) (Or.inr ⟨by kernel_rfl, rfl⟩) hHeld ?_
          (try simp only [Act.put, List.getElem_toArray, List.getElem_cons_zero, List.getElem_cons_succ, List.setIfInBounds_toArray, List.set_cons_zero, List.set_cons_succ])
          refine' wpAnyH_take (i := 17) (v := _) rfl (by kernel_rfl) (by kernel_rfl) (by kernel_rfl) (fun _ _ _ h => h) (Or.inl ⟨by rfl, ?_⟩) hHeld ?_
          rotate_left
          · intro w hSw
            (try dsimp only at hSw)
            go_simp
            try with_reducible rfl
          (try simp only [Act.put, List.getElem_toArray, List.getElem_cons_zero, List.getElem_cons_succ, List.setIfInBounds_toArray, List.set_cons_zero, List.set_cons_succ])
          refine wpAnyH_done (by kernel_rfl) ?_ _
          (try simp only [Act.put, List.getElem_toArray, List.getElem_cons_zero, List.getElem_cons_succ, List.setIfInBounds_toArray, List.set_cons_zero, List.set_cons_succ])
          clear hHeld
          go_wp2_with fail
          go_ret
          exact ⟨rfl, HY.out⟩
      · obtain rfl : k = N := by omega
        have hall : ∀ v ∈ vs, PossP v.1 v.2 ∧ v.1 = κ := by have h := HK.out; rw [HN.out, List.take_length] at h; exact h
        have hvs := all_kind hall
        obtain ⟨xs, hxs⟩ : ∃ xs : List Int, xs = vs.map Prod.snd := ⟨_, rfl⟩
        rw [← hxs] at hvs
        have hxl : xs.length = k := by rw [hxs, List.length_map, HN.out]
        have hxp : ∀ x ∈ xs, PossP κ x := by
          intro x hx
          rw [hxs] at hx
          obtain ⟨v, hv, rfl⟩ := List.mem_map.1 hx
          have h := hall v hv
          rw [← h.2]; exact h.1
        have hx0 : xs[0]? = some x0 := by rw [hxs, List.getElem?_map, HV0.out]; rfl
        have hκ : ¬ κ = 0 := poss_ne (hxp x0 (List.mem_of_getElem? hx0))
        obtain ⟨q, hq⟩ : ∃ q : Nat, q + 1 = k := ⟨k - 1, by omega⟩
        obtain ⟨xl, hxq⟩ : ∃ x, xs[q]? = some x := ⟨_, List.getElem?_eq_getElem (by omega)⟩
        obtain ⟨jt, hjt⟩ : ∃ j : Nat, (j : Int) = min st xs.length := ⟨(min st xs.length).toNat, by omega⟩
        obtain ⟨r, hr⟩ : ∃ r, xs[jt - 1]? = some r := ⟨_, List.getElem?_eq_getElem (by omega)⟩
        have KCH := Lib.hid (fun ia ic w (hm : MaxAt w) (hv : InS w ia (k + 1) 2 (flat valL ((3, st) :: xs.map fun x => (κ, x)))) => show Calls Tryd.prog 23 #[.string ⟨#[99, 104, 111, 111, 115, 101]⟩, .slice none 0 0, .slice ia (k + 1) ic] w fun e w' => e = .returned (.tuple #[.agg #[.int .i64 κ, .int .i64 r], .int .i64 0]) ∧ Below w.heap.size w w' by have h := ev_choose st κ s1 s16 hκ xs (by omega) (by omega) hxp jt r hjt hr none 0 ia ic w hm (nil_ins _) (by rw [hxl]; exact hv); rw [hxl] at h; exact h)
        have HXS := Lib.hid hvs
        have HXL := Lib.hid hxl
        have HX0 := Lib.hid hx0
        have HXQ := Lib.hid hxq
        have HQ := Lib.hid hq
        have HR := Lib.hid (show r = if st ≤ (q : Int) then xs.getD (st.toNat - 1) 0 else xl by
          by_cases h : st ≤ (q : Int)
          · rw [if_pos h]
            have e : jt = st.toNat := by omega
            rw [e] at hr
            rw [List.getD_eq_getElem?_getD, hr]; rfl
          · rw [if_neg h]
            have e : jt - 1 = q := by omega
            rw [e, hxq] at hr
            exact (Option.some.inj hr).symm)
        have hpx : PossP κ x0 := hxp x0 (List.mem_of_getElem? hx0)
        have hpl : PossP κ xl := hxp xl (List.mem_of_getElem? hxq)
        obtain ⟨PV, hPV⟩ : ∃ p, p = if sb = true then x0 else xl := ⟨_, rfl⟩
        have HPV := Lib.hid hPV
        obtain ⟨SB, hSB⟩ : ∃ p, p = bI sb := ⟨_, rfl⟩
        have KBI := Lib.hid (fun w => show Calls Tryd.prog 22 #[.bool sb] w fun e w' => e = .returned (.agg #[.int .i64 2, .int .i64 SB]) ∧ Below w.heap.size w w' by rw [hSB]; exact binary_any sb w)
        have KPI := Lib.hid (fun g ic w hm hv => show Calls Tryd.prog 23 #[.string ⟨#[112, 105, 99, 107]⟩, .slice none 0 0, .slice (some ⟨g, 0, none⟩) 3 ic] w fun e w' => e = .returned (.tuple #[.agg #[.int .i64 κ, .int .i64 PV], .int .i64 0]) ∧ Below w.heap.size w w' by
          have h := ev_pick SB κ x0 xl (by rw [hSB]; cases sb <;> simp [bI]) hκ hpx hpl none 0 (some ⟨g, 0, none⟩) ic w hm (nil_ins _) (row_ins1 (show RowAt w g [.int .i64 2, .int .i64 SB, .int .i64 κ, .int .i64 x0, .int .i64 κ, .int .i64 xl] from hv) rfl (by decide))
          rw [show PV = if SB = 1 then x0 else xl by rw [hPV, hSB]; cases sb <;> rfl]
          exact h)
        have HLEN := Lib.hid (show (flat valL vs).length = k * 2 by rw [flat_len valL_len, HN.out])
        clear hall hvs hxs hxl hxp hx0 hκ hxq hjt hr hpx hpl hPV hSB hq HK
        obtain ⟨lb, lo, rfl, hll, hlc⟩ := (show InS wr la vs.length 2 (flat valL vs) from HLI.out _ HB.out).at valL_len (by have := HN.out; omega)
        have HNEW := Lib.hid (show ∀ j u, (flat valL vs)[j]? = some u → wr.cell? ((⟨lb, lo, none⟩ : Addr).add j) = some u by
          intro j u hu
          obtain ⟨_, _, h0 | ⟨b', o', hbo, _, hc⟩⟩ := HLI.out _ HB.out
          · have := HN.out; omega
          · injection hbo with hbo; injection hbo with hb1 hb2
            subst hb1 hb2
            rw [add_plain]
            exact hc j u hu)
        have HLL := Lib.hid hll
        have HE := Lib.hid (World.ownsRow_lit (base := wr.heap.size) (e := 51) (size := 2) wr #[.int .i64 3, .int .i64 st] 1 (Nat.le_refl _) (by unfold maxLen; decide) rfl)
        have nal0 : Below wr.heap.size wr (wr.alloc (Obj.cells #[.int .i64 3, .int .i64 st] 51)) := (Below.refl _ _).alloc (Nat.le_refl _) _
        have hif := HIF.out
        have hz0 := HZ0.out
        have hz1 := HZ1.out
        have hz2 := HZ2.out
        clear hlc hll
        go_wp2_with (at_builtin; refine wpList_append_own _ rfl _ _ 49 rfl wr.heap.size 51 i0 (.agg #[.int .i64 0, .int .i64 0]) 2 16 Tryd.underlying49 hif hz0 hz1 hz2 rfl (by decide) _ _ _ rfl HE.out ⟨lb, lo, none⟩ k lc (flat valL vs) rfl HLEN.out ?d1 (val_one vs) ?d3 ?d4 ?d5 ?_)
        case d1 => exact fun j u hu => by (try rw [add_plain]); exact (nal0.cell (p := ⟨lb, lo + j, none⟩) HLL.out).trans (by have := HNEW.out j u hu; rwa [add_plain] at this)
        case d3 => unfold maxLen; omega
        case d4 => omega
        try (case d5 => rw [World.size_alloc]; omega)
        intro v5 w5 hown hgrow _
        have hk1 : 1 + k = k + 1 := by omega
        rw [hk1] at hown
        obtain ⟨a5, c5, rfl, hi5⟩ := ins_own hown
        have HB5w := Lib.hid (nal0.grown hgrow (by rw [World.size_alloc]; omega) (fun q e => by simp [Value.ownBlock] at e; omega))
        have HB5 := Lib.hid (HB.out.trans (HB5w.out.mono HB.out.size))
        have HI5 := Lib.hid (show InS w5 a5 (k + 1) 2 (flat valL ((3, st) :: xs.map fun x => (κ, x))) by rw [← HXS.out]; exact hi5)
        clear hown hgrow nal0 hif hz0 hz1 hz2 hk1 hi5 HE
        go_wp2_with fail
        refine (KCH.out _ _ _ (HMX.out _ HB5.out) HI5.out).mono ?_
        rintro e w6 ⟨rfl, hb⟩
        obtain ⟨w7, gc, hW7, hgc, R7, B7, sz7⟩ := box1 w6 #[.int .i64 κ, .int .i64 r] 51
        have HC7 := Lib.hid R7
        have hb7 := hb.trans (B7.mono hb.size)
        have HB7 := Lib.hid (HB5.out.trans (hb7.mono HB5.out.size))
        clear hb R7 B7 sz7 hb7 HI5 HB5w
        go_upto_region 11 with fail
        rw [← hW7]
        rw [← hgc]
        clear hW7 hgc
        obtain ⟨lb2, lo2, hla, hll, hlc⟩ := (show InS w7 (some ⟨lb, lo, none⟩) vs.length 2 (flat valL vs) from HLI.out _ HB7.out).at valL_len (by have := HN.out; omega)
        injection hla with hla
        injection hla with hla1 hla2
        subst hla1 hla2
        have hvq : vs[q]? = some (κ, xl) := by rw [HXS.out, List.getElem?_map, HXQ.out]; rfl
        have q0 : w7.cell? ⟨lb, lo + q * 2 + 0, none⟩ = some (.int .i64 κ) := hlc q _ hvq 0 _ rfl
        have q1 : w7.cell? ⟨lb, lo + q * 2 + 1, none⟩ = some (.int .i64 xl) := hlc q _ hvq 1 _ rfl
        rw [Nat.add_zero] at q0
        have l0 : w7.cell? ⟨lb, lo, none⟩ = some (.int .i64 κ) := by have h := hlc 0 _ HV0.out 0 _ rfl; simpa using h
        have l1 : w7.cell? ⟨lb, lo + 1, none⟩ = some (.int .i64 x0) := by have h := hlc 0 _ HV0.out 1 _ rfl; simpa using h
        have s1q : IntKind.i64.wrap ((k : Int) - 1) = (q : Int) := by
          have h : (k : Int) - 1 = q := by have := HQ.out; omega
          rw [h]
          exact IntWalk.i64_in _ (by omega)
        have s2q : (q : Int).toNat = q := by omega
        have s3q : (0 : Int) ≤ (q : Int) := by omega
        have s4q : (q : Int) < (k : Int) := by have := HQ.out; omega
        have s5q : (k : Int) - 1 = (q : Int) := by have := HQ.out; omega
        have s6q : q < k := by have := HQ.out; omega
        obtain ⟨w8, gl, hW8, hgl, R8, B8, sz8⟩ := box1 w7 #[.int .i64 κ, .int .i64 xl] 51
        have HL8 := Lib.hid R8
        have HC8 := Lib.hid (HC7.out.keep B8)
        have HB8 := Lib.hid (HB7.out.trans (B8.mono HB7.out.size))
        have HM0 := Lib.hid ((B8.cell (p := ⟨lb, lo, none⟩) hll).trans l0)
        have HM1 := Lib.hid ((B8.cell (p := ⟨lb, lo + 1, none⟩) hll).trans l1)
        have HML := Lib.hid (Nat.lt_of_lt_of_le hll B8.size)
        clear R8 B8 sz8 hlc hll hvq l0 l1 HC7 HB7
        go_upto_region 12 with fail
        rw [← hW8]
        rw [← hgl]
        clear hW8 hgl q0 q1 s1q s2q s3q s4q s5q s6q
        have l0 := HM0.out
        have l1 := HM1.out
        have t_0 := HL8.out.c 0 _ rfl
        have t_1 := HL8.out.c 1 _ rfl
        have p3 : (0 : Int) < (k : Int) := by omega
        have p4 : 0 < k := by omega
        go_wp2_with fail
        have HC := Lib.hid (show C4 w8 lb lo gl κ x0 xl w8 from ⟨l0, l1, t_0, t_1, Below.refl _ _⟩)
        go_cut [11, 12] from 73 to 84 (fun q o wx => ∃ NB : Nat, q = .pointer (some ⟨NB, 0, none⟩) ∧ o = .int .i64 0 ∧ Hid (RowAt wx NB [.int .i64 κ, .int .i64 PV] ∧ Below w8.heap.size w8 wx))
        case first =>
          go_region_held3 (fun w' => w'.cell? ⟨lb, lo, none⟩ = some (.int .i64 κ) ∧ w'.cell? ⟨lb, lo + 1, none⟩ = some (.int .i64 x0) ∧ w'.cell? ⟨gl, 0, none⟩ = some (.int .i64 κ) ∧ w'.cell? ⟨gl, 1, none⟩ = some (.int .i64 xl) ∧ Below w8.heap.size w8 w')
            (first | (with_reducible exact HC.out) | (with_reducible exact HS1.out) | (with_reducible exact HS2.out) | (refine c4_of HC.out ?_; (repeat (first | with_reducible exact (c4_bel HS2.out) | with_reducible exact (c4_bel HS1.out) | with_reducible exact Below.refl _ _ | apply belM_drew | apply belM_alloc)); done) | (refine c4_of HC.out (set_below (c4_bel HS2.out) ?_ [.int .i64 κ, .int .i64 PV]); have sz1 := (c4_bel HS1.out).size; have sz2 := (c4_bel HS2.out).size; omega) | (go_keep))
            (first | (go_at_call 22; refine (KBI.out _).mono ?_; rintro e x1 ⟨rfl, hb2⟩; have HS1 : Hid (C4 w8 lb lo gl κ x0 xl x1) := c4_keep HC.out hb2 (by first | assumption | (refine c4_of HC.out ?_; (repeat (first | with_reducible exact (c4_bel HS2.out) | with_reducible exact (c4_bel HS1.out) | with_reducible exact Below.refl _ _ | apply belM_drew | apply belM_alloc)))); (first | (with_reducible have nn := rf_kept (A := #[.int .i64 0, .int .i64 0]) hb2) | (with_reducible have nn := rf_kept_drew (A := #[.int .i64 0, .int .i64 0]) hb2) | (have nn := nn.keep hb2) | (have nn := row_keep_drew nn hb2) | skip)) | (go_at_call 23; refine (KPI.out _ _ _ ?_ ?_).mono ?_; (refine HMX.out _ (HB8.out.trans (Below.mono ?_ HB8.out.size)); (repeat (first | with_reducible exact (c4_bel HS2.out) | with_reducible exact (c4_bel HS1.out) | with_reducible exact Below.refl _ _ | apply belM_drew | apply belM_alloc))); (repeat (first | with_reducible exact row_fresh _ _ _ | with_reducible exact row_fresh1 _ _ _ _ | with_reducible exact row_fresh1d _ _ _ _ | apply RowAt.drew | apply rowM_alloc)); rintro e x2 ⟨rfl, hb2⟩; have HS2 : Hid (C4 w8 lb lo gl κ x0 xl x2) := c4_keep HC.out hb2 (by first | assumption | (refine c4_of HC.out ?_; (repeat (first | with_reducible exact (c4_bel HS2.out) | with_reducible exact (c4_bel HS1.out) | with_reducible exact Below.refl _ _ | apply belM_drew | apply belM_alloc)))); (first | (with_reducible have nn := rf_kept (A := #[.int .i64 0, .int .i64 0]) hb2) | (with_reducible have nn := rf_kept_drew (A := #[.int .i64 0, .int .i64 0]) hb2) | (with_reducible have nn := (rowM_alloc (row_fresh _ #[.int .i64 0, .int .i64 0] _) _).keep hb2) | (with_reducible have nn := (rowM_alloc (row_fresh _ #[.int .i64 0, .int .i64 0] _).drew _).keep hb2) | (with_reducible have nn := (rowM_alloc (row_fresh _ #[.int .i64 0, .int .i64 0] _) _).drew.keep hb2) | (with_reducible have nn := (rowM_alloc (row_fresh _ #[.int .i64 0, .int .i64 0] _).drew _).drew.keep hb2) | (with_reducible have nn := (rowM_alloc nn _).keep hb2) | (with_reducible have nn := (rowM_alloc nn.drew _).keep hb2) | (with_reducible have nn := (rowM_alloc nn _).drew.keep hb2) | (with_reducible have nn := (rowM_alloc nn.drew _).drew.keep hb2) | (with_reducible have nn := nn.keep hb2) | skip); (try rw [World.size_alloc] at nn); (try (have n0 := nn.c 0 _ rfl; have n1 := nn.c 1 _ rfl; have nz := nn.fz))) | (fail))
          all_goals
            rename_i hHeld
            clear hHeld
            go_wp2_with fail
            go_meet
          all_goals first
            | exact ⟨_, rfl, rfl, Lib.hid ⟨row_fresh _ _ _, (c4_bel HS2.out).alloc (c4_bel HS2.out).size _⟩⟩
            | exact ⟨_, rfl, rfl, Lib.hid ⟨(row_fresh _ _ _).drew, ((c4_bel HS2.out).alloc (c4_bel HS2.out).size _).drew⟩⟩
            | (refine ⟨_, rfl, rfl, Lib.hid ⟨nn.setRow [.int .i64 κ, .int .i64 PV] rfl, set_below (c4_bel HS2.out) ?_ [.int .i64 κ, .int .i64 PV]⟩⟩; have sz1 := (c4_bel HS1.out).size; have sz2 := (c4_bel HS2.out).size; omega)
        case rest =>
          obtain ⟨NB, rfl, rfl, hcc⟩ := hcut
          obtain ⟨w10, hwn⟩ : ∃ v, v = wc := ⟨_, rfl⟩
          have HPa := Lib.hid hcc.out.1
          have hb := hcc.out.2
          rw [← hwn] at HPa hb ⊢
          have HCa := Lib.hid (HC8.out.keep hb)
          have HLa := Lib.hid (HL8.out.keep hb)
          have HBa := Lib.hid (HB8.out.trans (hb.mono HB8.out.size))
          have HM0a := Lib.hid ((hb.cell (p := ⟨lb, lo, none⟩) HML.out).trans HM0.out)
          have HM1a := Lib.hid ((hb.cell (p := ⟨lb, lo + 1, none⟩) HML.out).trans HM1.out)
          have HMLa := Lib.hid (Nat.lt_of_lt_of_le HML.out hb.size)
          clear hcc hb hwn HC HC8 HL8 HB8 HM0 HM1 HML l0 l1 t_0 t_1
          cases sb
          · obtain ⟨w11, gw, hW, hgw, RW, BW, szw⟩ := box1 w10 #[.int .i64 κ, .int .i64 xl] 51
            have HW := Lib.hid RW
            have HCc := Lib.hid (HCa.out.keep BW)
            have HPc := Lib.hid (HPa.out.keep BW)
            have HLc := Lib.hid (HLa.out.keep BW)
            have HBc := Lib.hid (HBa.out.trans (BW.mono HBa.out.size))
            have l0 := (BW.cell (p := ⟨lb, lo, none⟩) HMLa.out).trans HM0a.out
            have l1 := (BW.cell (p := ⟨lb, lo + 1, none⟩) HMLa.out).trans HM1a.out
            have HMLc := Lib.hid (Nat.lt_of_lt_of_le HMLa.out BW.size)
            have HNEW := Lib.hid (show gw ≠ lb by have := HMLa.out; omega)
            have HNEC := Lib.hid (show gw ≠ gc by have := HCa.out.lt; omega)
            have HNEP := Lib.hid (show gw ≠ NB by have := HPa.out.lt; omega)
            have HNEL := Lib.hid (show gw ≠ gl by have := HLa.out.lt; omega)
            have HWB := Lib.hid (show w.heap.size ≤ gw by have := HBa.out.size; omega)
            have t_0 := HLa.out.c 0 _ rfl
            have t_1 := HLa.out.c 1 _ rfl
            go_upto_region 14 with fail
            rw [← hW]
            rw [← hgw]
            clear hW hgw RW BW szw HCa HPa HLa HBa HMLa HM0a HM1a t_0 t_1
            go_upto_region 16 with fail
            obtain ⟨w12, rfl⟩ : ∃ x, x = w11 := ⟨_, rfl⟩
            clear l0 l1
            have HW2 := HW
            have HC2 := HCc
            have HP2 := HPc
            have HL2 := HLc
            have HB2 := HBc
            clear HW HCc HPc HLc HBc
            obtain ⟨w13, gh, hW, hgh, RH, BH, szh⟩ := box1 w12 #[.int .i64 κ, .int .i64 xl] 51
            have HH := Lib.hid RH
            have HW3 := Lib.hid (HW2.out.keep BH)
            have HC3 := Lib.hid (HC2.out.keep BH)
            have HP3 := Lib.hid (HP2.out.keep BH)
            have HB3 := Lib.hid (HB2.out.trans (BH.mono HB2.out.size))
            have HHB := Lib.hid (show w12.heap.size ≤ gh by omega)
            have HHW := Lib.hid (show w.heap.size ≤ gh by have := HB2.out.size; omega)
            have HNW := Lib.hid (show gh ≠ gw by have := HW2.out.lt; omega)
            have HNC := Lib.hid (show gh ≠ gc by have := HC2.out.lt; omega)
            have HNP := Lib.hid (show gh ≠ NB by have := HP2.out.lt; omega)
            have t_0 := HL2.out.c 0 _ rfl
            have t_1 := HL2.out.c 1 _ rfl
            go_upto_region 17 with fail
            rw [← hW]
            rw [← hgh]
            clear hW hgh RH BH szh HW2 HC2 HP2 HB2 HL2 t_0 t_1
            go_wp2_with fail
            go_loopw [15] (fun i wr => ∃ m : Nat, m ≤ q ∧ i = .int .i64 m ∧ Hid (RowAt wr gh [.int .i64 κ, .int .i64 (if st ≤ (m : Int) then xs.getD (st.toNat - 1) 0 else xl)] ∧ RowAt wr gw [.int .i64 κ, .int .i64 xl] ∧ RowAt wr gc [.int .i64 κ, .int .i64 r] ∧ RowAt wr NB [.int .i64 κ, .int .i64 PV] ∧ Below w.heap.size w wr)) (fun i _ => q - (intOf i).toNat)
            case atStart => exact ⟨0, Nat.zero_le _, rfl, Lib.hid ⟨by rw [if_neg (by omega)]; exact HH.out, HW3.out, HC3.out, HP3.out, HB3.out⟩⟩
            case round =>
              obtain ⟨m, hm, rfl, hH⟩ := hrel
              have HH := Lib.hid hH.out.1
              have HW := Lib.hid hH.out.2.1
              have HCz := Lib.hid hH.out.2.2.1
              have HPz := Lib.hid hH.out.2.2.2.1
              have HBz := Lib.hid hH.out.2.2.2.2
              clear hH HW3 HC3 HP3 HB3
              have e5 : (k : Int) - 1 = (q : Int) := by have := HQ.out; omega
              have e6 : IntKind.i64.wrap ((k : Int) - 1) = (q : Int) := by rw [e5]; exact IntWalk.i64_in _ (by omega)
              by_cases hlt : m < q
              · have mk1 : (m : Int) < (q : Int) := by omega
                have mk2 : (m : Int) < (k : Int) := by omega
                have mk3 : m < k := by omega
                have d1 : decide ((m : Int) < (q : Int)) = true := decide_eq_true mk1
                have d2 : decide ((m : Int) < (k : Int) - 1) = true := decide_eq_true (by omega)
                have d3 : (m : Int) < (k : Int) - 1 := by omega
                have d4 : (m : Int) + 1 < (k : Int) := by omega
                obtain ⟨v, hv⟩ : ∃ x, xs[m]? = some x := ⟨_, List.getElem?_eq_getElem (by have := HXL.out; omega)⟩
                obtain ⟨lb2, lo2, hla, hll, hlc⟩ := (show InS wr (some ⟨lb, lo, none⟩) vs.length 2 (flat valL vs) from HLI.out _ HBz.out).at valL_len (by have := HN.out; omega)
                injection hla with hla
                injection hla with hla1 hla2
                subst hla1 hla2
                have hvm : vs[m]? = some (κ, v) := by rw [HXS.out, List.getElem?_map, hv]; rfl
                have q0 : wr.cell? ⟨lb, lo + m * 2 + 0, none⟩ = some (.int .i64 κ) := hlc m _ hvm 0 _ rfl
                have q1 : wr.cell? ⟨lb, lo + m * 2 + 1, none⟩ = some (.int .i64 v) := hlc m _ hvm 1 _ rfl
                rw [Nat.add_zero] at q0
                have HVM := Lib.hid hv
                clear hlc hll hvm hv
                by_cases hs : st = (m : Int) + 1
                · have es : (st == (m : Int) + 1) = true := by rw [hs]; simp
                  have HS2 := Lib.hid (show (if st ≤ ((m + 1 : Nat) : Int) then xs.getD (st.toNat - 1) 0 else xl) = v by
                    rw [if_pos (by omega), show st.toNat - 1 = m by omega, List.getD_eq_getElem?_getD, HVM.out]; rfl)
                  have h_0 := HH.out.c 0 _ rfl
                  have h_1 := HH.out.c 1 _ rfl
                  have h_z := HH.out.fz
                  clear hs
                  go_wp2_with fail
                  obtain ⟨wz, hwz⟩ : ∃ x, x = ((wr.setCell ⟨gh, 0, none⟩ (.int .i64 κ)).setCell ⟨gh, 1, none⟩ (.int .i64 v)) := ⟨_, rfl⟩
                  have hcs : wz = wr.setCells gh 0 [.int .i64 κ, .int .i64 v] := hwz
                  have Z1 := Lib.hid (show RowAt wz gh [.int .i64 κ, .int .i64 (if st ≤ ((m + 1 : Nat) : Int) then xs.getD (st.toNat - 1) 0 else xl)] by rw [HS2.out, hcs]; exact HH.out.setRow _ rfl)
                  have Z2 := Lib.hid (show RowAt wz gw [.int .i64 κ, .int .i64 xl] by rw [hcs]; exact HW.out.other HNW.out _)
                  have Z3 := Lib.hid (show RowAt wz gc [.int .i64 κ, .int .i64 r] by rw [hcs]; exact HCz.out.other HNC.out _)
                  have Z4 := Lib.hid (show RowAt wz NB [.int .i64 κ, .int .i64 PV] by rw [hcs]; exact HPz.out.other HNP.out _)
                  have Z5 := Lib.hid (show Below w.heap.size w wz by rw [hcs]; exact set_below HBz.out HHW.out _)
                  rw [← hwz]
                  clear hwz hcs h_0 h_1 h_z q0 q1
                  go_roundw
                  case rel => exact ⟨m + 1, by omega, by go_num, Lib.hid ⟨Z1.out, Z2.out, Z3.out, Z4.out, Z5.out⟩⟩
                  case measure => (simp [intOf]) <;> omega
                · have es : (st == (m : Int) + 1) = false := beq_eq_false_iff_ne.2 hs
                  have HS2 := Lib.hid (show (if st ≤ ((m + 1 : Nat) : Int) then xs.getD (st.toNat - 1) 0 else xl) = (if st ≤ (m : Int) then xs.getD (st.toNat - 1) 0 else xl) by
                    by_cases h : st ≤ (m : Int)
                    · rw [if_pos h, if_pos (by omega)]
                    · rw [if_neg h, if_neg (by omega)])
                  clear hs
                  go_wp2_with fail
                  go_roundw
                  case rel => exact ⟨m + 1, by omega, by go_num, Lib.hid ⟨by rw [HS2.out]; exact HH.out, HW.out, HCz.out, HPz.out, HBz.out⟩⟩
                  case measure => (simp [intOf]) <;> omega
              · obtain rfl : m = q := by omega
                have d1 : decide ((m : Int) < (m : Int)) = false := by simp
                have hr := HR.out
                have hp : PV = xl := by rw [HPV.out]; simp
                rw [← hr] at HH
                rw [hp] at HPz
                have h_0 := HH.out.c 0 _ rfl
                have h_1 := HH.out.c 1 _ rfl
                have c_0 := HCz.out.c 0 _ rfl
                have c_1 := HCz.out.c 1 _ rfl
                have p_0 := HPz.out.c 0 _ rfl
                have p_1 := HPz.out.c 1 _ rfl
                have w_0 := HW.out.c 0 _ rfl
                have w_1 := HW.out.c 1 _ rfl
                clear hr hp
                go_wp2_with fail
                go_ret
                exact ⟨rfl, HBz.out⟩
          · obtain ⟨w11, gw, hW, hgw, RW, BW, szw⟩ := box1 w10 #[.int .i64 κ, .int .i64 xl] 51
            have HW := Lib.hid RW
            have HCc := Lib.hid (HCa.out.keep BW)
            have HPc := Lib.hid (HPa.out.keep BW)
            have HLc := Lib.hid (HLa.out.keep BW)
            have HBc := Lib.hid (HBa.out.trans (BW.mono HBa.out.size))
            have l0 := (BW.cell (p := ⟨lb, lo, none⟩) HMLa.out).trans HM0a.out
            have l1 := (BW.cell (p := ⟨lb, lo + 1, none⟩) HMLa.out).trans HM1a.out
            have HMLc := Lib.hid (Nat.lt_of_lt_of_le HMLa.out BW.size)
            have HNEW := Lib.hid (show gw ≠ lb by have := HMLa.out; omega)
            have HNEC := Lib.hid (show gw ≠ gc by have := HCa.out.lt; omega)
            have HNEP := Lib.hid (show gw ≠ NB by have := HPa.out.lt; omega)
            have HNEL := Lib.hid (show gw ≠ gl by have := HLa.out.lt; omega)
            have HWB := Lib.hid (show w.heap.size ≤ gw by have := HBa.out.size; omega)
            have t_0 := HLa.out.c 0 _ rfl
            have t_1 := HLa.out.c 1 _ rfl
            go_upto_region 14 with fail
            rw [← hW]
            rw [← hgw]
            clear hW hgw RW BW szw HCa HPa HLa HBa HMLa HM0a HM1a t_0 t_1
            have u_0 := HW.out.c 0 _ rfl
            have u_1 := HW.out.c 1 _ rfl
            have u_z := HW.out.fz
            go_upto_region 16 with fail
            obtain ⟨w12, hw12⟩ : ∃ x, x = ((w11.setCell ⟨gw, 0, none⟩ (.int .i64 κ)).setCell ⟨gw, 1, none⟩ (.int .i64 x0)) := ⟨_, rfl⟩
            have hcs : w12 = w11.setCells gw 0 [.int .i64 κ, .int .i64 x0] := hw12
            have HW2 := Lib.hid (show RowAt w12 gw [.int .i64 κ, .int .i64 x0] by rw [hcs]; exact HW.out.setRow _ rfl)
            have HC2 := Lib.hid (show RowAt w12 gc [.int .i64 κ, .int .i64 r] by rw [hcs]; exact HCc.out.other HNEC.out _)
            have HP2 := Lib.hid (show RowAt w12 NB [.int .i64 κ, .int .i64 PV] by rw [hcs]; exact HPc.out.other HNEP.out _)
            have HL2 := Lib.hid (show RowAt w12 gl [.int .i64 κ, .int .i64 xl] by rw [hcs]; exact HLc.out.other HNEL.out _)
            have HB2 := Lib.hid (show Below w.heap.size w w12 by rw [hcs]; exact set_below HBc.out HWB.out _)
            rw [← hw12]
            clear hw12 hcs HW HCc HPc HLc HBc l0 l1 u_0 u_1 u_z
            obtain ⟨w13, gh, hW, hgh, RH, BH, szh⟩ := box1 w12 #[.int .i64 κ, .int .i64 xl] 51
            have HH := Lib.hid RH
            have HW3 := Lib.hid (HW2.out.keep BH)
            have HC3 := Lib.hid (HC2.out.keep BH)
            have HP3 := Lib.hid (HP2.out.keep BH)
            have HB3 := Lib.hid (HB2.out.trans (BH.mono HB2.out.size))
            have HHB := Lib.hid (show w12.heap.size ≤ gh by omega)
            have HHW := Lib.hid (show w.heap.size ≤ gh by have := HB2.out.size; omega)
            have HNW := Lib.hid (show gh ≠ gw by have := HW2.out.lt; omega)
            have HNC := Lib.hid (show gh ≠ gc by have := HC2.out.lt; omega)
            have HNP := Lib.hid (show gh ≠ NB by have := HP2.out.lt; omega)
            have t_0 := HL2.out.c 0 _ rfl
            have t_1 := HL2.out.c 1 _ rfl
            go_upto_region 17 with fail
            rw [← hW]
            rw [← hgh]
            clear hW hgh RH BH szh HW2 HC2 HP2 HB2 HL2 t_0 t_1
            go_wp2_with fail
            go_loopw [15] (fun i wr => ∃ m : Nat, m ≤ q ∧ i = .int .i64 m ∧ Hid (RowAt wr gh [.int .i64 κ, .int .i64 (if st ≤ (m : Int) then xs.getD (st.toNat - 1) 0 else xl)] ∧ RowAt wr gw [.int .i64 κ, .int .i64 x0] ∧ RowAt wr gc [.int .i64 κ, .int .i64 r] ∧ RowAt wr NB [.int .i64 κ, .int .i64 PV] ∧ Below w.heap.size w wr)) (fun i _ => q - (intOf i).toNat)
            case atStart => exact ⟨0, Nat.zero_le _, rfl, Lib.hid ⟨by rw [if_neg (by omega)]; exact HH.out, HW3.out, HC3.out, HP3.out, HB3.out⟩⟩
            case round =>
              obtain ⟨m, hm, rfl, hH⟩ := hrel
              have HH := Lib.hid hH.out.1
              have HW := Lib.hid hH.out.2.1
              have HCz := Lib.hid hH.out.2.2.1
              have HPz := Lib.hid hH.out.2.2.2.1
              have HBz := Lib.hid hH.out.2.2.2.2
              clear hH HW3 HC3 HP3 HB3
              have e5 : (k : Int) - 1 = (q : Int) := by have := HQ.out; omega
              have e6 : IntKind.i64.wrap ((k : Int) - 1) = (q : Int) := by rw [e5]; exact IntWalk.i64_in _ (by omega)
              by_cases hlt : m < q
              · have mk1 : (m : Int) < (q : Int) := by omega
                have mk2 : (m : Int) < (k : Int) := by omega
                have mk3 : m < k := by omega
                have d1 : decide ((m : Int) < (q : Int)) = true := decide_eq_true mk1
                have d2 : decide ((m : Int) < (k : Int) - 1) = true := decide_eq_true (by omega)
                have d3 : (m : Int) < (k : Int) - 1 := by omega
                have d4 : (m : Int) + 1 < (k : Int) := by omega
                obtain ⟨v, hv⟩ : ∃ x, xs[m]? = some x := ⟨_, List.getElem?_eq_getElem (by have := HXL.out; omega)⟩
                obtain ⟨lb2, lo2, hla, hll, hlc⟩ := (show InS wr (some ⟨lb, lo, none⟩) vs.length 2 (flat valL vs) from HLI.out _ HBz.out).at valL_len (by have := HN.out; omega)
                injection hla with hla
                injection hla with hla1 hla2
                subst hla1 hla2
                have hvm : vs[m]? = some (κ, v) := by rw [HXS.out, List.getElem?_map, hv]; rfl
                have q0 : wr.cell? ⟨lb, lo + m * 2 + 0, none⟩ = some (.int .i64 κ) := hlc m _ hvm 0 _ rfl
                have q1 : wr.cell? ⟨lb, lo + m * 2 + 1, none⟩ = some (.int .i64 v) := hlc m _ hvm 1 _ rfl
                rw [Nat.add_zero] at q0
                have HVM := Lib.hid hv
                clear hlc hll hvm hv
                by_cases hs : st = (m : Int) + 1
                · have es : (st == (m : Int) + 1) = true := by rw [hs]; simp
                  have HS2 := Lib.hid (show (if st ≤ ((m + 1 : Nat) : Int) then xs.getD (st.toNat - 1) 0 else xl) = v by
                    rw [if_pos (by omega), show st.toNat - 1 = m by omega, List.getD_eq_getElem?_getD, HVM.out]; rfl)
                  have h_0 := HH.out.c 0 _ rfl
                  have h_1 := HH.out.c 1 _ rfl
                  have h_z := HH.out.fz
                  clear hs
                  go_wp2_with fail
                  obtain ⟨wz, hwz⟩ : ∃ x, x = ((wr.setCell ⟨gh, 0, none⟩ (.int .i64 κ)).setCell ⟨gh, 1, none⟩ (.int .i64 v)) := ⟨_, rfl⟩
                  have hcs : wz = wr.setCells gh 0 [.int .i64 κ, .int .i64 v] := hwz
                  have Z1 := Lib.hid (show RowAt wz gh [.int .i64 κ, .int .i64 (if st ≤ ((m + 1 : Nat) : Int) then xs.getD (st.toNat - 1) 0 else xl)] by rw [HS2.out, hcs]; exact HH.out.setRow _ rfl)
                  have Z2 := Lib.hid (show RowAt wz gw [.int .i64 κ, .int .i64 x0] by rw [hcs]; exact HW.out.other HNW.out _)
                  have Z3 := Lib.hid (show RowAt wz gc [.int .i64 κ, .int .i64 r] by rw [hcs]; exact HCz.out.other HNC.out _)
                  have Z4 := Lib.hid (show RowAt wz NB [.int .i64 κ, .int .i64 PV] by rw [hcs]; exact HPz.out.other HNP.out _)
                  have Z5 := Lib.hid (show Below w.heap.size w wz by rw [hcs]; exact set_below HBz.out HHW.out _)
                  rw [← hwz]
                  clear hwz hcs h_0 h_1 h_z q0 q1
                  go_roundw
                  case rel => exact ⟨m + 1, by omega, by go_num, Lib.hid ⟨Z1.out, Z2.out, Z3.out, Z4.out, Z5.out⟩⟩
                  case measure => (simp [intOf]) <;> omega
                · have es : (st == (m : Int) + 1) = false := beq_eq_false_iff_ne.2 hs
                  have HS2 := Lib.hid (show (if st ≤ ((m + 1 : Nat) : Int) then xs.getD (st.toNat - 1) 0 else xl) = (if st ≤ (m : Int) then xs.getD (st.toNat - 1) 0 else xl) by
                    by_cases h : st ≤ (m : Int)
                    · rw [if_pos h, if_pos (by omega)]
                    · rw [if_neg h, if_neg (by omega)])
                  clear hs
                  go_wp2_with fail
                  go_roundw
                  case rel => exact ⟨m + 1, by omega, by go_num, Lib.hid ⟨by rw [HS2.out]; exact HH.out, HW.out, HCz.out, HPz.out, HBz.out⟩⟩
                  case measure => (simp [intOf]) <;> omega
              · obtain rfl : m = q := by omega
                have d1 : decide ((m : Int) < (m : Int)) = false := by simp
                have hr := HR.out
                have hp : PV = x0 := by rw [HPV.out]; simp
                rw [← hr] at HH
                rw [hp] at HPz
                have h_0 := HH.out.c 0 _ rfl
                have h_1 := HH.out.c 1 _ rfl
                have c_0 := HCz.out.c 0 _ rfl
                have c_1 := HCz.out.c 1 _ rfl
                have p_0 := HPz.out.c 0 _ rfl
                have p_1 := HPz.out.c 1 _ rfl
                have w_0 := HW.out.c 0 _ rfl
                have w_1 := HW.out.c 1 _ rfl
                clear hr hp
                go_wp2_with fail
                go_ret
                exact ⟨rfl, HBz.out⟩
end Go.Proofs.YtaobbedajgkmiaaDoor
