/- Contract of begin at stage and steps. -/
import Derived.Test.YthaigchklogjlaaDoorQd
namespace Go.Proofs.YthaigchklogjlaaDoor
open Go.RowKit Go.Shelf

set_option linter.unusedVariables false
set_option linter.unusedSimpArgs false
/-- a sequence newly made -/
def SeqOk (w0 : World) (s : ByteArray) (il : List PortD) (pa : Option Addr) (n pc : Nat) (R : Value) (w' : World) : Prop :=
  ∃ (q : Nat) (v1 v3 v5 : Value) (a2 : Option Addr) (c2 : Nat), R = .pointer (some ⟨q, 0, none⟩) ∧ w0.heap.size ≤ q ∧ RowAt w' q [.string s, v1, .slice a2 il.length c2, v3, .int .i64 2, v5, .slice pa n pc, .int .i64 0, .int .i64 0] ∧ InS w' a2 il.length 2 (flat portL il)
/-- the error of parameters: their number, their ranges -/
def begE (pl : List BndD) (ps : List Int) (F : Bool) : Int := if ps.length = pl.length then (if F = true then 0 else 6) else 1
theorem begE_len {pl : List BndD} {ps : List Int} {F : Bool} (h : ¬ ps.length = pl.length) : begE pl ps F = 1 := if_neg h
theorem begE_no {pl : List BndD} {ps : List Int} {F : Bool} (h : ps.length = pl.length) (hF : F = false) : begE pl ps F = 6 := by unfold begE; rw [if_pos h, hF]; rfl
theorem begE_yes {pl : List BndD} {ps : List Int} {F : Bool} (h : ps.length = pl.length) (hF : F = true) : begE pl ps F = 0 := by unfold begE; rw [if_pos h, hF]; rfl
theorem from_is2 (n lo hi : Int) (B : Bool) (h : B = inR lo n hi) (w : World) : Calls Tryd.prog 39 #[.int .i64 n, .int .i64 lo, .int .i64 hi] w fun e w' => e = .returned (.bool B) ∧ w = w' := by
  rw [h]; exact from_any n lo hi w
set_option maxHeartbeats 8000000 in
set_option maxRecDepth 100000 in
theorem begin_stage (pa : Option Addr) (pc : Nat) (ps : List Int) (F : Bool) (w : World) (hm : MaxAt w) (hq : InS w pa ps.length 1 (flat iL ps)) (hF : F = true ↔ ∀ (k : Nat) (x : BndD) (y : Int), ([⟨⟨#[115, 116, 97, 103, 101, 115]⟩, 1, 15, 1⟩, ⟨⟨#[117, 112]⟩, (-1000000000000), 1000000000000, 0⟩, ⟨⟨#[100, 111, 119, 110]⟩, (-1000000000000), 1000000000000, 0⟩, ⟨⟨#[117, 112, 100, 101, 108, 97, 121]⟩, 0, 86400, 0⟩, ⟨⟨#[100, 111, 119, 110, 100, 101, 108, 97, 121]⟩, 0, 86400, 0⟩] : List BndD)[k]? = some x → ps[k]? = some y → inR x.lo y x.hi = true) :
    Calls Tryd.prog 23 #[.string ⟨#[115, 116, 97, 103, 101]⟩, .slice pa ps.length pc] w fun e w' => ∃ R, e = .returned (.tuple #[R, .int .i64 (begE [⟨⟨#[115, 116, 97, 103, 101, 115]⟩, 1, 15, 1⟩, ⟨⟨#[117, 112]⟩, (-1000000000000), 1000000000000, 0⟩, ⟨⟨#[100, 111, 119, 110]⟩, (-1000000000000), 1000000000000, 0⟩, ⟨⟨#[117, 112, 100, 101, 108, 97, 121]⟩, 0, 86400, 0⟩, ⟨⟨#[100, 111, 119, 110, 100, 101, 108, 97, 121]⟩, 0, 86400, 0⟩] ps F)]) ∧ (begE [⟨⟨#[115, 116, 97, 103, 101, 115]⟩, 1, 15, 1⟩, ⟨⟨#[117, 112]⟩, (-1000000000000), 1000000000000, 0⟩, ⟨⟨#[100, 111, 119, 110]⟩, (-1000000000000), 1000000000000, 0⟩, ⟨⟨#[117, 112, 100, 101, 108, 97, 121]⟩, 0, 86400, 0⟩, ⟨⟨#[100, 111, 119, 110, 100, 101, 108, 97, 121]⟩, 0, 86400, 0⟩] ps F = 0 → SeqOk w ⟨#[115, 116, 97, 103, 101]⟩ [⟨⟨#[97]⟩, ⟨#[85]⟩⟩] pa 5 pc R w') ∧ Below w.heap.size w w' := by
  have KF := Lib.hid (find_stage w hm)
  have HQ := Lib.hid hq
  have HF := Lib.hid hF
  obtain ⟨M, hM⟩ : ∃ M, M = ps.length := ⟨_, rfl⟩
  have HM0 := Lib.hid hM
  rw [← hM]
  clear hm hq hF hM
  go_enter Tryd.func23, Tryd.ntmps23
  go_wp2_with fail
  refine KF.out.mono ?_
  rintro e w3 ⟨D, rfl, ⟨v1, v2, ob, rfl, p1, p2, p3, p4⟩, hb⟩
  obtain ⟨a1, c1, rfl, i1⟩ := ins_own p1
  obtain ⟨a2, c2, rfl, i2⟩ := ins_own p2
  obtain ⟨W4, g, hW4, hg, RG, B4, sz4⟩ := box1 w3 #[.string ⟨#[115, 116, 97, 103, 101]⟩, .slice a1 5 c1, .slice a2 1 c2, .slice (some ⟨ob, 0, none⟩) 1 1, .int .i64 2, .int .i64 1] 57
  have HG4 := Lib.hid RG
  have HB4 := Lib.hid (hb.trans (B4.mono hb.size))
  have HI1 := Lib.hid (i1.keep B4)
  have HI2 := Lib.hid (i2.keep B4)
  clear p1 p2 p3 p4 i1 i2 hb RG sz4 KF
  go_upto_region 4 with fail
  rw [← hW4]
  try rw [← hg]
  clear hW4 hg B4
  have g_0 := HG4.out.c 0 _ rfl
  have g_1 := HG4.out.c 1 _ rfl
  have g_2 := HG4.out.c 2 _ rfl
  have g_3 := HG4.out.c 3 _ rfl
  have g_4 := HG4.out.c 4 _ rfl
  have g_5 := HG4.out.c 5 _ rfl
  by_cases hmn : M = 5
  · subst hmn
    have HM := Lib.hid (show 5 = ps.length from HM0.out)
    go_wp2_with fail
    go_loopw [30] (fun i wr => ∃ j : Nat, j ≤ 5 ∧ i = .int .i64 j ∧ Hid (Below W4.heap.size W4 wr ∧ ∀ k, k < j → ∀ (x : BndD) (y : Int), ([⟨⟨#[115, 116, 97, 103, 101, 115]⟩, 1, 15, 1⟩, ⟨⟨#[117, 112]⟩, (-1000000000000), 1000000000000, 0⟩, ⟨⟨#[100, 111, 119, 110]⟩, (-1000000000000), 1000000000000, 0⟩, ⟨⟨#[117, 112, 100, 101, 108, 97, 121]⟩, 0, 86400, 0⟩, ⟨⟨#[100, 111, 119, 110, 100, 101, 108, 97, 121]⟩, 0, 86400, 0⟩] : List BndD)[k]? = some x → ps[k]? = some y → inR x.lo y x.hi = true)) (fun i _ => 5 - (intOf i).toNat)
    case atStart => exact ⟨0, Nat.zero_le _, rfl, Lib.hid ⟨Below.refl _ _, fun k hk => by omega⟩⟩
    case round =>
      obtain ⟨j, hj, rfl, hH⟩ := hrel
      have HBR := Lib.hid hH.out.1
      have HPR := Lib.hid hH.out.2
      clear hH
      by_cases hlt : j < 5
      · obtain ⟨ab, ao, rfl, hal, hac⟩ := (show InS wr a1 ([⟨⟨#[115, 116, 97, 103, 101, 115]⟩, 1, 15, 1⟩, ⟨⟨#[117, 112]⟩, (-1000000000000), 1000000000000, 0⟩, ⟨⟨#[100, 111, 119, 110]⟩, (-1000000000000), 1000000000000, 0⟩, ⟨⟨#[117, 112, 100, 101, 108, 97, 121]⟩, 0, 86400, 0⟩, ⟨⟨#[100, 111, 119, 110, 100, 101, 108, 97, 121]⟩, 0, 86400, 0⟩]).length 4 (flat bndL [⟨⟨#[115, 116, 97, 103, 101, 115]⟩, 1, 15, 1⟩, ⟨⟨#[117, 112]⟩, (-1000000000000), 1000000000000, 0⟩, ⟨⟨#[100, 111, 119, 110]⟩, (-1000000000000), 1000000000000, 0⟩, ⟨⟨#[117, 112, 100, 101, 108, 97, 121]⟩, 0, 86400, 0⟩, ⟨⟨#[100, 111, 119, 110, 100, 101, 108, 97, 121]⟩, 0, 86400, 0⟩]) from HI1.out.keep HBR.out).at bndL_len (by decide)
        obtain ⟨pb, po, rfl, hpl, hpc⟩ := (show InS wr pa ps.length 1 (flat iL ps) from (HQ.out.keep HB4.out).keep HBR.out).at iL_len (by have := HM.out; omega)
        obtain ⟨x, hx⟩ : ∃ x, ([⟨⟨#[115, 116, 97, 103, 101, 115]⟩, 1, 15, 1⟩, ⟨⟨#[117, 112]⟩, (-1000000000000), 1000000000000, 0⟩, ⟨⟨#[100, 111, 119, 110]⟩, (-1000000000000), 1000000000000, 0⟩, ⟨⟨#[117, 112, 100, 101, 108, 97, 121]⟩, 0, 86400, 0⟩, ⟨⟨#[100, 111, 119, 110, 100, 101, 108, 97, 121]⟩, 0, 86400, 0⟩] : List BndD)[j]? = some x := ⟨_, List.getElem?_eq_getElem (by show j < 5; omega)⟩
        obtain ⟨y, hy⟩ : ∃ x, ps[j]? = some x := ⟨_, List.getElem?_eq_getElem (by have := HM.out; omega)⟩
        have m0 := hac j _ hx 0 _ rfl
        have m1 := hac j _ hx 1 _ rfl
        have m2 := hac j _ hx 2 _ rfl
        have m3 := hac j _ hx 3 _ rfl
        have l0 := hpc j _ hy 0 _ rfl
        simp only [Nat.mul_one, Nat.add_zero] at l0
        rw [Nat.add_zero] at m0
        have HFJ := Lib.hid (show F = true → inR x.lo y x.hi = true from fun h => (HF.out.1 h) j x y hx hy)
        have HNF := Lib.hid (show (∀ k, k < j → ∀ x y, ([⟨⟨#[115, 116, 97, 103, 101, 115]⟩, 1, 15, 1⟩, ⟨⟨#[117, 112]⟩, (-1000000000000), 1000000000000, 0⟩, ⟨⟨#[100, 111, 119, 110]⟩, (-1000000000000), 1000000000000, 0⟩, ⟨⟨#[117, 112, 100, 101, 108, 97, 121]⟩, 0, 86400, 0⟩, ⟨⟨#[100, 111, 119, 110, 100, 101, 108, 97, 121]⟩, 0, 86400, 0⟩] : List BndD)[k]? = some x → ps[k]? = some y → inR x.lo y x.hi = true) → inR x.lo y x.hi = true → ∀ k, k < j + 1 → ∀ x y, ([⟨⟨#[115, 116, 97, 103, 101, 115]⟩, 1, 15, 1⟩, ⟨⟨#[117, 112]⟩, (-1000000000000), 1000000000000, 0⟩, ⟨⟨#[100, 111, 119, 110]⟩, (-1000000000000), 1000000000000, 0⟩, ⟨⟨#[117, 112, 100, 101, 108, 97, 121]⟩, 0, 86400, 0⟩, ⟨⟨#[100, 111, 119, 110, 100, 101, 108, 97, 121]⟩, 0, 86400, 0⟩] : List BndD)[k]? = some x → ps[k]? = some y → inR x.lo y x.hi = true from fun h0 h1 k hk x' y' hx' hy' => by
          by_cases h : k = j
          · subst h; rw [hx] at hx'; rw [hy] at hy'; cases hx'; cases hy'; exact h1
          · exact h0 k (by omega) x' y' hx' hy')
        obtain ⟨bn, bl, bh, bd⟩ := x
        have k1 : (0 : Int) ≤ (j : Int) := by omega
        have k2 : (j : Int) < (5 : Int) := by omega
        obtain ⟨W5, t, hW5, ht, R5, B5, sz5⟩ := box1 wr #[.string bn, .int .i64 bl, .int .i64 bh, .int .i64 bd] 69
        have HB5 := Lib.hid (HBR.out.trans (B5.mono HBR.out.size))
        have HC := Lib.hid (show W5.cell? ⟨pb, po + j, none⟩ = some (.int .i64 y) ∧ W5.cell? ⟨t, 1, none⟩ = some (.int .i64 bl) ∧ W5.cell? ⟨t, 2, none⟩ = some (.int .i64 bh) from ⟨cell_below l0 B5, R5.c 1 _ rfl, R5.c 2 _ rfl⟩)
        obtain ⟨FB, hFB⟩ : ∃ x, x = inR bl y bh := ⟨_, rfl⟩
        have KF1 := Lib.hid (from_is2 y bl bh FB hFB W5.drew)
        have HFB := Lib.hid hFB
        clear hx hy hac hpc R5 sz5 l0 hFB
        go_upto_region 9 with fail
        rw [← hW5]
        try rw [← ht]
        clear hW5 ht B5 m0 m1 m2 m3
        refine wp_region_held_drew (S := fun w' => w'.cell? ⟨pb, po + j, none⟩ = some (.int .i64 y) ∧ w'.cell? ⟨t, 1, none⟩ = some (.int .i64 bl) ∧ w'.cell? ⟨t, 2, none⟩ = some (.int .i64 bh)) (by kernel_rfl) HC.out (fun hHeld => ?_)
        refine' wpAnyH_take (i := 0) (v := _) rfl (by kernel_rfl) (by kernel_rfl) (by kernel_rfl) (fun _ _ _ h => h) (Or.inl ⟨by rfl, ?_⟩) hHeld ?_
        rotate_left
        · intro w hSw
          (try dsimp only at hSw)
          go_simp
          try with_reducible rfl
        (try simp only [Act.put, List.getElem_toArray, List.getElem_cons_zero, List.getElem_cons_succ, List.setIfInBounds_toArray, List.set_cons_zero, List.set_cons_succ])
        refine' wpAnyH_take (i := 1) (v := _) rfl (by kernel_rfl) (by kernel_rfl) (by kernel_rfl) (fun _ _ _ h => h) (Or.inl ⟨by rfl, ?_⟩) hHeld ?_
        rotate_left
        · intro w hSw
          (try dsimp only at hSw)
          go_simp
          try with_reducible rfl
        (try simp only [Act.put, List.getElem_toArray, List.getElem_cons_zero, List.getElem_cons_succ, List.setIfInBounds_toArray, List.set_cons_zero, List.set_cons_succ])
        refine' wpAnyH_take (i := 2) (v := _) rfl (by kernel_rfl) (by kernel_rfl) (by kernel_rfl) (fun _ _ _ h => h) (Or.inl ⟨by rfl, ?_⟩) hHeld ?_
        rotate_left
        · intro w hSw
          (try dsimp only at hSw)
          go_simp
          try with_reducible rfl
        (try simp only [Act.put, List.getElem_toArray, List.getElem_cons_zero, List.getElem_cons_succ, List.setIfInBounds_toArray, List.set_cons_zero, List.set_cons_succ])
        refine' wpAnyH_take (i := 3) (v := _) rfl (by kernel_rfl) (by kernel_rfl) (by kernel_rfl) (fun _ _ _ h => h) (Or.inl ⟨by rfl, ?_⟩) hHeld ?_
        rotate_left
        · intro w hSw
          (try dsimp only at hSw)
          go_simp
          try with_reducible rfl
        (try simp only [Act.put, List.getElem_toArray, List.getElem_cons_zero, List.getElem_cons_succ, List.setIfInBounds_toArray, List.set_cons_zero, List.set_cons_succ])
        refine' wpAnyH_take (i := 4) (v := _) rfl (by kernel_rfl) (by kernel_rfl) (by kernel_rfl) (fun _ _ _ h => h) (Or.inl ⟨by rfl, ?_⟩) hHeld ?_
        rotate_left
        · intro w hSw
          (try dsimp only at hSw)
          go_simp
          try with_reducible rfl
        (try simp only [Act.put, List.getElem_toArray, List.getElem_cons_zero, List.getElem_cons_succ, List.setIfInBounds_toArray, List.set_cons_zero, List.set_cons_succ])
        refine' wpAnyH_take (i := 5) (v := _) rfl (by kernel_rfl) (by kernel_rfl) (by kernel_rfl) (fun _ _ _ h => h) (Or.inl ⟨by rfl, ?_⟩) hHeld ?_
        rotate_left
        · intro w hSw
          (try dsimp only at hSw)
          go_simp
          try with_reducible rfl
        (try simp only [Act.put, List.getElem_toArray, List.getElem_cons_zero, List.getElem_cons_succ, List.setIfInBounds_toArray, List.set_cons_zero, List.set_cons_succ])
        refine' wpAnyH_take (i := 6) (v := _) rfl (by kernel_rfl) (by kernel_rfl) (by kernel_rfl) (fun _ _ _ h => h) (Or.inl ⟨by rfl, ?_⟩) hHeld ?_
        rotate_left
        · intro w hSw
          (try dsimp only at hSw)
          go_simp
          try with_reducible rfl
        (try simp only [Act.put, List.getElem_toArray, List.getElem_cons_zero, List.getElem_cons_succ, List.setIfInBounds_toArray, List.set_cons_zero, List.set_cons_succ])
        refine' wpAnyH_take (i := 7) (v := _) rfl (by kernel_rfl) (by kernel_rfl) (by kernel_rfl) (fun _ _ _ h => h) (Or.inl ⟨by rfl, ?_⟩) hHeld ?_
        rotate_left
        · intro w hSw
          (try dsimp only at hSw)
          go_simp
          try with_reducible rfl
        (try simp only [Act.put, List.getElem_toArray, List.getElem_cons_zero, List.getElem_cons_succ, List.setIfInBounds_toArray, List.set_cons_zero, List.set_cons_succ])
        refine wpAnyH_ready (rs := [8]) (by kernel_rfl) (by simp) ?_
        refine AllReadyH.cons rfl (fun K hK => ?_) AllReadyH.nil
        go_simp
        refine KF1.out.mono ?_
        rintro e x1 ⟨rfl, rfl⟩
        (try go_simp)
        refine hK.out _ _ hHeld (fun hHeld => ?_)
        clear hK K
        (try simp only [Act.put, List.getElem_toArray, List.getElem_cons_zero, List.getElem_cons_succ, List.setIfInBounds_toArray, List.set_cons_zero, List.set_cons_succ])
        refine' wpAnyH_take (i := 9) (v := _) rfl (by kernel_rfl) (by kernel_rfl) (by kernel_rfl) (fun _ _ _ h => h) (Or.inl ⟨by rfl, ?_⟩) hHeld ?_
        rotate_left
        · intro w hSw
          (try dsimp only at hSw)
          go_simp
          try with_reducible rfl
        (try simp only [Act.put, List.getElem_toArray, List.getElem_cons_zero, List.getElem_cons_succ, List.setIfInBounds_toArray, List.set_cons_zero, List.set_cons_succ])
        refine wpAnyH_done (by kernel_rfl) ?_ _
        (try simp only [Act.put, List.getElem_toArray, List.getElem_cons_zero, List.getElem_cons_succ, List.setIfInBounds_toArray, List.set_cons_zero, List.set_cons_succ])
        clear hHeld HC
        have HB6 := Lib.hid (HB5.out.trans ((Below.refl W5.heap.size W5).drew.mono HB5.out.size))
        cases FB
        · have HE := Lib.hid (show begE [⟨⟨#[115, 116, 97, 103, 101, 115]⟩, 1, 15, 1⟩, ⟨⟨#[117, 112]⟩, (-1000000000000), 1000000000000, 0⟩, ⟨⟨#[100, 111, 119, 110]⟩, (-1000000000000), 1000000000000, 0⟩, ⟨⟨#[117, 112, 100, 101, 108, 97, 121]⟩, 0, 86400, 0⟩, ⟨⟨#[100, 111, 119, 110, 100, 101, 108, 97, 121]⟩, 0, 86400, 0⟩] ps F = 6 from begE_no (by have := HM.out; exact this.symm) (by
            cases h : F
            · rfl
            · have h1 := HFJ.out h
              have h2 := HFB.out
              rw [show inR bl y bh = true from h1] at h2
              cases h2))
          go_wp2_with fail
          go_ret2
          exact ⟨_, by rw [HE.out]; rfl, (fun h => absurd (h.symm.trans HE.out) (by decide)), HB4.out.trans (HB6.out.mono HB4.out.size)⟩
        · have HP6 := Lib.hid (HNF.out HPR.out HFB.out.symm)
          go_wp2_with fail
          go_roundw
          case rel => exact ⟨j + 1, by omega, by go_num, Lib.hid ⟨HB6.out, HP6.out⟩⟩
          case measure => (simp [intOf]) <;> omega
      · obtain rfl : j = 5 := by omega
        have HE := Lib.hid (show begE [⟨⟨#[115, 116, 97, 103, 101, 115]⟩, 1, 15, 1⟩, ⟨⟨#[117, 112]⟩, (-1000000000000), 1000000000000, 0⟩, ⟨⟨#[100, 111, 119, 110]⟩, (-1000000000000), 1000000000000, 0⟩, ⟨⟨#[117, 112, 100, 101, 108, 97, 121]⟩, 0, 86400, 0⟩, ⟨⟨#[100, 111, 119, 110, 100, 101, 108, 97, 121]⟩, 0, 86400, 0⟩] ps F = 0 from begE_yes HM.out.symm (HF.out.2 (fun k x y hx hy => HPR.out k (by have := (List.getElem?_eq_some_iff.1 hx).1; exact this) x y hx hy)))
        have HG5 := Lib.hid (HG4.out.keep HBR.out)
        have g_0 := HG5.out.c 0 _ rfl
        have g_1 := HG5.out.c 1 _ rfl
        have g_2 := HG5.out.c 2 _ rfl
        have g_3 := HG5.out.c 3 _ rfl
        have g_4 := HG5.out.c 4 _ rfl
        have g_5 := HG5.out.c 5 _ rfl
        obtain ⟨W, q, hW, hq, RQ, BQ, sz⟩ := box1 wr #[.string ⟨#[115, 116, 97, 103, 101]⟩, .slice a1 5 c1, .slice a2 1 c2, .slice (some ⟨ob, 0, none⟩) 1 1, .int .i64 2, .int .i64 1, .slice pa 5 pc, .int .i64 0, .int .i64 0] 59
        have HSO := Lib.hid (show SeqOk w ⟨#[115, 116, 97, 103, 101]⟩ [⟨⟨#[97]⟩, ⟨#[85]⟩⟩] pa 5 pc (.pointer (some ⟨q, 0, none⟩)) W from ⟨q, _, _, _, a2, c2, rfl, by have := HBR.out.size; have := HB4.out.size; omega, RQ, (HI2.out.keep HBR.out).keep BQ⟩)
        have HBW := Lib.hid (HB4.out.trans ((HBR.out.trans (BQ.mono HBR.out.size)).mono HB4.out.size))
        clear RQ BQ sz
        go_wp2_with fail
        rw [← hW]
        try rw [← hq]
        go_ret2
        exact ⟨_, by rw [HE.out]; rfl, (fun _ => HSO.out), HBW.out⟩
  · have e1 : ((M : Int) == 5) = false := by rw [beq_eq_false_iff_ne]; omega
    have HE := Lib.hid (show begE [⟨⟨#[115, 116, 97, 103, 101, 115]⟩, 1, 15, 1⟩, ⟨⟨#[117, 112]⟩, (-1000000000000), 1000000000000, 0⟩, ⟨⟨#[100, 111, 119, 110]⟩, (-1000000000000), 1000000000000, 0⟩, ⟨⟨#[117, 112, 100, 101, 108, 97, 121]⟩, 0, 86400, 0⟩, ⟨⟨#[100, 111, 119, 110, 100, 101, 108, 97, 121]⟩, 0, 86400, 0⟩] ps F = 1 from begE_len (by rw [← HM0.out]; exact hmn))
    clear hmn
    go_wp2_with fail
    go_ret2
    exact ⟨_, by rw [HE.out]; rfl, (fun h => absurd (h.symm.trans HE.out) (by decide)), HB4.out⟩
set_option maxHeartbeats 8000000 in
set_option maxRecDepth 100000 in
theorem begin_steps (pa : Option Addr) (pc : Nat) (ps : List Int) (F : Bool) (w : World) (hm : MaxAt w) (hq : InS w pa ps.length 1 (flat iL ps)) (hF : F = true ↔ ∀ (k : Nat) (x : BndD) (y : Int), ([⟨⟨#[99, 111, 117, 110, 116]⟩, 1, 15, 1⟩, ⟨⟨#[108, 101, 97, 115, 116]⟩, 0, 86400, 0⟩] : List BndD)[k]? = some x → ps[k]? = some y → inR x.lo y x.hi = true) :
    Calls Tryd.prog 23 #[.string ⟨#[115, 116, 101, 112, 115]⟩, .slice pa ps.length pc] w fun e w' => ∃ R, e = .returned (.tuple #[R, .int .i64 (begE [⟨⟨#[99, 111, 117, 110, 116]⟩, 1, 15, 1⟩, ⟨⟨#[108, 101, 97, 115, 116]⟩, 0, 86400, 0⟩] ps F)]) ∧ (begE [⟨⟨#[99, 111, 117, 110, 116]⟩, 1, 15, 1⟩, ⟨⟨#[108, 101, 97, 115, 116]⟩, 0, 86400, 0⟩] ps F = 0 → SeqOk w ⟨#[115, 116, 101, 112, 115]⟩ [⟨⟨#[103, 111]⟩, ⟨#[98, 105, 110, 97, 114, 121]⟩⟩, ⟨⟨#[110, 101, 120, 116]⟩, ⟨#[98, 105, 110, 97, 114, 121]⟩⟩] pa 2 pc R w') ∧ Below w.heap.size w w' := by
  have KF := Lib.hid (find_steps w hm)
  have HQ := Lib.hid hq
  have HF := Lib.hid hF
  obtain ⟨M, hM⟩ : ∃ M, M = ps.length := ⟨_, rfl⟩
  have HM0 := Lib.hid hM
  rw [← hM]
  clear hm hq hF hM
  go_enter Tryd.func23, Tryd.ntmps23
  go_wp2_with fail
  refine KF.out.mono ?_
  rintro e w3 ⟨D, rfl, ⟨v1, v2, ob, rfl, p1, p2, p3, p4⟩, hb⟩
  obtain ⟨a1, c1, rfl, i1⟩ := ins_own p1
  obtain ⟨a2, c2, rfl, i2⟩ := ins_own p2
  obtain ⟨W4, g, hW4, hg, RG, B4, sz4⟩ := box1 w3 #[.string ⟨#[115, 116, 101, 112, 115]⟩, .slice a1 2 c1, .slice a2 2 c2, .slice (some ⟨ob, 0, none⟩) 1 1, .int .i64 2, .int .i64 1] 57
  have HG4 := Lib.hid RG
  have HB4 := Lib.hid (hb.trans (B4.mono hb.size))
  have HI1 := Lib.hid (i1.keep B4)
  have HI2 := Lib.hid (i2.keep B4)
  clear p1 p2 p3 p4 i1 i2 hb RG sz4 KF
  go_upto_region 4 with fail
  rw [← hW4]
  try rw [← hg]
  clear hW4 hg B4
  have g_0 := HG4.out.c 0 _ rfl
  have g_1 := HG4.out.c 1 _ rfl
  have g_2 := HG4.out.c 2 _ rfl
  have g_3 := HG4.out.c 3 _ rfl
  have g_4 := HG4.out.c 4 _ rfl
  have g_5 := HG4.out.c 5 _ rfl
  by_cases hmn : M = 2
  · subst hmn
    have HM := Lib.hid (show 2 = ps.length from HM0.out)
    go_wp2_with fail
    go_loopw [30] (fun i wr => ∃ j : Nat, j ≤ 2 ∧ i = .int .i64 j ∧ Hid (Below W4.heap.size W4 wr ∧ ∀ k, k < j → ∀ (x : BndD) (y : Int), ([⟨⟨#[99, 111, 117, 110, 116]⟩, 1, 15, 1⟩, ⟨⟨#[108, 101, 97, 115, 116]⟩, 0, 86400, 0⟩] : List BndD)[k]? = some x → ps[k]? = some y → inR x.lo y x.hi = true)) (fun i _ => 2 - (intOf i).toNat)
    case atStart => exact ⟨0, Nat.zero_le _, rfl, Lib.hid ⟨Below.refl _ _, fun k hk => by omega⟩⟩
    case round =>
      obtain ⟨j, hj, rfl, hH⟩ := hrel
      have HBR := Lib.hid hH.out.1
      have HPR := Lib.hid hH.out.2
      clear hH
      by_cases hlt : j < 2
      · obtain ⟨ab, ao, rfl, hal, hac⟩ := (show InS wr a1 ([⟨⟨#[99, 111, 117, 110, 116]⟩, 1, 15, 1⟩, ⟨⟨#[108, 101, 97, 115, 116]⟩, 0, 86400, 0⟩]).length 4 (flat bndL [⟨⟨#[99, 111, 117, 110, 116]⟩, 1, 15, 1⟩, ⟨⟨#[108, 101, 97, 115, 116]⟩, 0, 86400, 0⟩]) from HI1.out.keep HBR.out).at bndL_len (by decide)
        obtain ⟨pb, po, rfl, hpl, hpc⟩ := (show InS wr pa ps.length 1 (flat iL ps) from (HQ.out.keep HB4.out).keep HBR.out).at iL_len (by have := HM.out; omega)
        obtain ⟨x, hx⟩ : ∃ x, ([⟨⟨#[99, 111, 117, 110, 116]⟩, 1, 15, 1⟩, ⟨⟨#[108, 101, 97, 115, 116]⟩, 0, 86400, 0⟩] : List BndD)[j]? = some x := ⟨_, List.getElem?_eq_getElem (by show j < 2; omega)⟩
        obtain ⟨y, hy⟩ : ∃ x, ps[j]? = some x := ⟨_, List.getElem?_eq_getElem (by have := HM.out; omega)⟩
        have m0 := hac j _ hx 0 _ rfl
        have m1 := hac j _ hx 1 _ rfl
        have m2 := hac j _ hx 2 _ rfl
        have m3 := hac j _ hx 3 _ rfl
        have l0 := hpc j _ hy 0 _ rfl
        simp only [Nat.mul_one, Nat.add_zero] at l0
        rw [Nat.add_zero] at m0
        have HFJ := Lib.hid (show F = true → inR x.lo y x.hi = true from fun h => (HF.out.1 h) j x y hx hy)
        have HNF := Lib.hid (show (∀ k, k < j → ∀ x y, ([⟨⟨#[99, 111, 117, 110, 116]⟩, 1, 15, 1⟩, ⟨⟨#[108, 101, 97, 115, 116]⟩, 0, 86400, 0⟩] : List BndD)[k]? = some x → ps[k]? = some y → inR x.lo y x.hi = true) → inR x.lo y x.hi = true → ∀ k, k < j + 1 → ∀ x y, ([⟨⟨#[99, 111, 117, 110, 116]⟩, 1, 15, 1⟩, ⟨⟨#[108, 101, 97, 115, 116]⟩, 0, 86400, 0⟩] : List BndD)[k]? = some x → ps[k]? = some y → inR x.lo y x.hi = true from fun h0 h1 k hk x' y' hx' hy' => by
          by_cases h : k = j
          · subst h; rw [hx] at hx'; rw [hy] at hy'; cases hx'; cases hy'; exact h1
          · exact h0 k (by omega) x' y' hx' hy')
        obtain ⟨bn, bl, bh, bd⟩ := x
        have k1 : (0 : Int) ≤ (j : Int) := by omega
        have k2 : (j : Int) < (2 : Int) := by omega
        obtain ⟨W5, t, hW5, ht, R5, B5, sz5⟩ := box1 wr #[.string bn, .int .i64 bl, .int .i64 bh, .int .i64 bd] 69
        have HB5 := Lib.hid (HBR.out.trans (B5.mono HBR.out.size))
        have HC := Lib.hid (show W5.cell? ⟨pb, po + j, none⟩ = some (.int .i64 y) ∧ W5.cell? ⟨t, 1, none⟩ = some (.int .i64 bl) ∧ W5.cell? ⟨t, 2, none⟩ = some (.int .i64 bh) from ⟨cell_below l0 B5, R5.c 1 _ rfl, R5.c 2 _ rfl⟩)
        obtain ⟨FB, hFB⟩ : ∃ x, x = inR bl y bh := ⟨_, rfl⟩
        have KF1 := Lib.hid (from_is2 y bl bh FB hFB W5.drew)
        have HFB := Lib.hid hFB
        clear hx hy hac hpc R5 sz5 l0 hFB
        go_upto_region 9 with fail
        rw [← hW5]
        try rw [← ht]
        clear hW5 ht B5 m0 m1 m2 m3
        refine wp_region_held_drew (S := fun w' => w'.cell? ⟨pb, po + j, none⟩ = some (.int .i64 y) ∧ w'.cell? ⟨t, 1, none⟩ = some (.int .i64 bl) ∧ w'.cell? ⟨t, 2, none⟩ = some (.int .i64 bh)) (by kernel_rfl) HC.out (fun hHeld => ?_)
        refine' wpAnyH_take (i := 0) (v := _) rfl (by kernel_rfl) (by kernel_rfl) (by kernel_rfl) (fun _ _ _ h => h) (Or.inl ⟨by rfl, ?_⟩) hHeld ?_
        rotate_left
        · intro w hSw
          (try dsimp only at hSw)
          go_simp
          try with_reducible rfl
        (try simp only [Act.put, List.getElem_toArray, List.getElem_cons_zero, List.getElem_cons_succ, List.setIfInBounds_toArray, List.set_cons_zero, List.set_cons_succ])
        refine' wpAnyH_take (i := 1) (v := _) rfl (by kernel_rfl) (by kernel_rfl) (by kernel_rfl) (fun _ _ _ h => h) (Or.inl ⟨by rfl, ?_⟩) hHeld ?_
        rotate_left
        · intro w hSw
          (try dsimp only at hSw)
          go_simp
          try with_reducible rfl
        (try simp only [Act.put, List.getElem_toArray, List.getElem_cons_zero, List.getElem_cons_succ, List.setIfInBounds_toArray, List.set_cons_zero, List.set_cons_succ])
        refine' wpAnyH_take (i := 2) (v := _) rfl (by kernel_rfl) (by kernel_rfl) (by kernel_rfl) (fun _ _ _ h => h) (Or.inl ⟨by rfl, ?_⟩) hHeld ?_
        rotate_left
        · intro w hSw
          (try dsimp only at hSw)
          go_simp
          try with_reducible rfl
        (try simp only [Act.put, List.getElem_toArray, List.getElem_cons_zero, List.getElem_cons_succ, List.setIfInBounds_toArray, List.set_cons_zero, List.set_cons_succ])
        refine' wpAnyH_take (i := 3) (v := _) rfl (by kernel_rfl) (by kernel_rfl) (by kernel_rfl) (fun _ _ _ h => h) (Or.inl ⟨by rfl, ?_⟩) hHeld ?_
        rotate_left
        · intro w hSw
          (try dsimp only at hSw)
          go_simp
          try with_reducible rfl
        (try simp only [Act.put, List.getElem_toArray, List.getElem_cons_zero, List.getElem_cons_succ, List.setIfInBounds_toArray, List.set_cons_zero, List.set_cons_succ])
        refine' wpAnyH_take (i := 4) (v := _) rfl (by kernel_rfl) (by kernel_rfl) (by kernel_rfl) (fun _ _ _ h => h) (Or.inl ⟨by rfl, ?_⟩) hHeld ?_
        rotate_left
        · intro w hSw
          (try dsimp only at hSw)
          go_simp
          try with_reducible rfl
        (try simp only [Act.put, List.getElem_toArray, List.getElem_cons_zero, List.getElem_cons_succ, List.setIfInBounds_toArray, List.set_cons_zero, List.set_cons_succ])
        refine' wpAnyH_take (i := 5) (v := _) rfl (by kernel_rfl) (by kernel_rfl) (by kernel_rfl) (fun _ _ _ h => h) (Or.inl ⟨by rfl, ?_⟩) hHeld ?_
        rotate_left
        · intro w hSw
          (try dsimp only at hSw)
          go_simp
          try with_reducible rfl
        (try simp only [Act.put, List.getElem_toArray, List.getElem_cons_zero, List.getElem_cons_succ, List.setIfInBounds_toArray, List.set_cons_zero, List.set_cons_succ])
        refine' wpAnyH_take (i := 6) (v := _) rfl (by kernel_rfl) (by kernel_rfl) (by kernel_rfl) (fun _ _ _ h => h) (Or.inl ⟨by rfl, ?_⟩) hHeld ?_
        rotate_left
        · intro w hSw
          (try dsimp only at hSw)
          go_simp
          try with_reducible rfl
        (try simp only [Act.put, List.getElem_toArray, List.getElem_cons_zero, List.getElem_cons_succ, List.setIfInBounds_toArray, List.set_cons_zero, List.set_cons_succ])
        refine' wpAnyH_take (i := 7) (v := _) rfl (by kernel_rfl) (by kernel_rfl) (by kernel_rfl) (fun _ _ _ h => h) (Or.inl ⟨by rfl, ?_⟩) hHeld ?_
        rotate_left
        · intro w hSw
          (try dsimp only at hSw)
          go_simp
          try with_reducible rfl
        (try simp only [Act.put, List.getElem_toArray, List.getElem_cons_zero, List.getElem_cons_succ, List.setIfInBounds_toArray, List.set_cons_zero, List.set_cons_succ])
        refine wpAnyH_ready (rs := [8]) (by kernel_rfl) (by simp) ?_
        refine AllReadyH.cons rfl (fun K hK => ?_) AllReadyH.nil
        go_simp
        refine KF1.out.mono ?_
        rintro e x1 ⟨rfl, rfl⟩
        (try go_simp)
        refine hK.out _ _ hHeld (fun hHeld => ?_)
        clear hK K
        (try simp only [Act.put, List.getElem_toArray, List.getElem_cons_zero, List.getElem_cons_succ, List.setIfInBounds_toArray, List.set_cons_zero, List.set_cons_succ])
        refine' wpAnyH_take (i := 9) (v := _) rfl (by kernel_rfl) (by kernel_rfl) (by kernel_rfl) (fun _ _ _ h => h) (Or.inl ⟨by rfl, ?_⟩) hHeld ?_
        rotate_left
        · intro w hSw
          (try dsimp only at hSw)
          go_simp
          try with_reducible rfl
        (try simp only [Act.put, List.getElem_toArray, List.getElem_cons_zero, List.getElem_cons_succ, List.setIfInBounds_toArray, List.set_cons_zero, List.set_cons_succ])
        refine wpAnyH_done (by kernel_rfl) ?_ _
        (try simp only [Act.put, List.getElem_toArray, List.getElem_cons_zero, List.getElem_cons_succ, List.setIfInBounds_toArray, List.set_cons_zero, List.set_cons_succ])
        clear hHeld HC
        have HB6 := Lib.hid (HB5.out.trans ((Below.refl W5.heap.size W5).drew.mono HB5.out.size))
        cases FB
        · have HE := Lib.hid (show begE [⟨⟨#[99, 111, 117, 110, 116]⟩, 1, 15, 1⟩, ⟨⟨#[108, 101, 97, 115, 116]⟩, 0, 86400, 0⟩] ps F = 6 from begE_no (by have := HM.out; exact this.symm) (by
            cases h : F
            · rfl
            · have h1 := HFJ.out h
              have h2 := HFB.out
              rw [show inR bl y bh = true from h1] at h2
              cases h2))
          go_wp2_with fail
          go_ret2
          exact ⟨_, by rw [HE.out]; rfl, (fun h => absurd (h.symm.trans HE.out) (by decide)), HB4.out.trans (HB6.out.mono HB4.out.size)⟩
        · have HP6 := Lib.hid (HNF.out HPR.out HFB.out.symm)
          go_wp2_with fail
          go_roundw
          case rel => exact ⟨j + 1, by omega, by go_num, Lib.hid ⟨HB6.out, HP6.out⟩⟩
          case measure => (simp [intOf]) <;> omega
      · obtain rfl : j = 2 := by omega
        have HE := Lib.hid (show begE [⟨⟨#[99, 111, 117, 110, 116]⟩, 1, 15, 1⟩, ⟨⟨#[108, 101, 97, 115, 116]⟩, 0, 86400, 0⟩] ps F = 0 from begE_yes HM.out.symm (HF.out.2 (fun k x y hx hy => HPR.out k (by have := (List.getElem?_eq_some_iff.1 hx).1; exact this) x y hx hy)))
        have HG5 := Lib.hid (HG4.out.keep HBR.out)
        have g_0 := HG5.out.c 0 _ rfl
        have g_1 := HG5.out.c 1 _ rfl
        have g_2 := HG5.out.c 2 _ rfl
        have g_3 := HG5.out.c 3 _ rfl
        have g_4 := HG5.out.c 4 _ rfl
        have g_5 := HG5.out.c 5 _ rfl
        obtain ⟨W, q, hW, hq, RQ, BQ, sz⟩ := box1 wr #[.string ⟨#[115, 116, 101, 112, 115]⟩, .slice a1 2 c1, .slice a2 2 c2, .slice (some ⟨ob, 0, none⟩) 1 1, .int .i64 2, .int .i64 1, .slice pa 2 pc, .int .i64 0, .int .i64 0] 59
        have HSO := Lib.hid (show SeqOk w ⟨#[115, 116, 101, 112, 115]⟩ [⟨⟨#[103, 111]⟩, ⟨#[98, 105, 110, 97, 114, 121]⟩⟩, ⟨⟨#[110, 101, 120, 116]⟩, ⟨#[98, 105, 110, 97, 114, 121]⟩⟩] pa 2 pc (.pointer (some ⟨q, 0, none⟩)) W from ⟨q, _, _, _, a2, c2, rfl, by have := HBR.out.size; have := HB4.out.size; omega, RQ, (HI2.out.keep HBR.out).keep BQ⟩)
        have HBW := Lib.hid (HB4.out.trans ((HBR.out.trans (BQ.mono HBR.out.size)).mono HB4.out.size))
        clear RQ BQ sz
        go_wp2_with fail
        rw [← hW]
        try rw [← hq]
        go_ret2
        exact ⟨_, by rw [HE.out]; rfl, (fun _ => HSO.out), HBW.out⟩
  · have e1 : ((M : Int) == 2) = false := by rw [beq_eq_false_iff_ne]; omega
    have HE := Lib.hid (show begE [⟨⟨#[99, 111, 117, 110, 116]⟩, 1, 15, 1⟩, ⟨⟨#[108, 101, 97, 115, 116]⟩, 0, 86400, 0⟩] ps F = 1 from begE_len (by rw [← HM0.out]; exact hmn))
    clear hmn
    go_wp2_with fail
    go_ret2
    exact ⟨_, by rw [HE.out]; rfl, (fun h => absurd (h.symm.trans HE.out) (by decide)), HB4.out⟩
end Go.Proofs.YthaigchklogjlaaDoor
