/- Contracts of fits and numbersOf. -/
import Derived.Test.YthaigchklogjlaaDoorQb
namespace Go.Proofs.YthaigchklogjlaaDoor
open Go.RowKit Go.Shelf

set_option linter.unusedVariables false
set_option linter.unusedSimpArgs false
/-- a value -/
structure VD where
  k : Int
  n : Int
def vdL (x : VD) : List Value := [.int .i64 x.k, .int .i64 x.n]
theorem vdL_len (x : VD) : (vdL x).length = 2 := rfl
def iL (x : Int) : List Value := [.int .i64 x]
theorem iL_len (x : Int) : (iL x).length = 1 := rfl
theorem flat_iL (xs : List Int) (j : Nat) (x : Int) (h : xs[j]? = some x) : flat iL (xs.take (j + 1)) = flat iL (xs.take j) ++ [.int .i64 x] := by
  rw [List.take_add_one, h, flat_append]
  rfl
theorem infoI64 : (Tryd.prog.info? 2).map (fun i => (i.zero, i.size, i.bytes)) = some (some (.int .i64 0), 1, 8) := by kernel_rfl
def fitQ (ty : ByteArray) (k n : Int) : Bool := if ty = ⟨#[98, 105, 110, 97, 114, 121]⟩ then decide (k = 2) && inR 0 n 1 else decide (k = 1) && inR (-1000000000000) n 1000000000000
theorem fitQ_bin (k n : Int) : fitQ ⟨#[98, 105, 110, 97, 114, 121]⟩ k n = (decide (k = 2) && inR 0 n 1) := if_pos rfl
theorem fitQ_u (k n : Int) : fitQ ⟨#[85]⟩ k n = (decide (k = 1) && inR (-1000000000000) n 1000000000000) := if_neg (by decide +kernel)
set_option maxHeartbeats 4000000 in
theorem fits_bin (k n : Int) (nm : ByteArray) (w : World) : Calls Tryd.prog 40 #[.agg #[.int .i64 k, .int .i64 n], .agg #[.string nm, .string ⟨#[98, 105, 110, 97, 114, 121]⟩]] w fun e w' => e = .returned (.bool (fitQ ⟨#[98, 105, 110, 97, 114, 121]⟩ k n)) ∧ Below w.heap.size w w' := by
  obtain ⟨W, b, b1, hW, hb0, hb1, R1, R2, BB, sz⟩ := box2 w #[.int .i64 k, .int .i64 n] 27 #[.string nm, .string ⟨#[98, 105, 110, 97, 114, 121]⟩] 80
  have y0 := R1.c 0 _ rfl
  have y1 := R1.c 1 _ rfl
  have z0 := R2.c 0 _ rfl
  have z1 := R2.c 1 _ rfl
  have HBB := Lib.hid BB
  clear R1 R2 BB sz
  by_cases hk : k = 2
  · have HE := Lib.hid (show fitQ ⟨#[98, 105, 110, 97, 114, 121]⟩ k n = inR 0 n 1 by rw [fitQ_bin, decide_eq_true hk, Bool.true_and])
    have hbk : (k == 2) = true := by rw [beq_iff_eq]; exact hk
    clear hk
    go_enter Tryd.func40, Tryd.ntmps40
    go_upto_region 1 with fail
    rw [← hW]
    try rw [← hb1]
    try rw [← hb0]
    clear hW hb0 hb1
    go_wp2_with fail
    refine (from_any _ _ _ _).mono ?_
    rintro e w1 ⟨rfl, rfl⟩
    go_wp2_with fail
    go_ret
    exact ⟨by rw [HE.out]; first | done | rfl, HBB.out⟩
  · have HE := Lib.hid (show fitQ ⟨#[98, 105, 110, 97, 114, 121]⟩ k n = false by rw [fitQ_bin, decide_eq_false hk, Bool.false_and])
    have hbk : (k == 2) = false := by rw [beq_eq_false_iff_ne]; exact hk
    clear hk
    go_enter Tryd.func40, Tryd.ntmps40
    go_upto_region 1 with fail
    rw [← hW]
    try rw [← hb1]
    try rw [← hb0]
    clear hW hb0 hb1
    go_wp2_with fail
    go_ret
    exact ⟨by rw [HE.out]; first | done | rfl, HBB.out⟩
set_option maxHeartbeats 4000000 in
theorem fits_u (k n : Int) (nm : ByteArray) (w : World) : Calls Tryd.prog 40 #[.agg #[.int .i64 k, .int .i64 n], .agg #[.string nm, .string ⟨#[85]⟩]] w fun e w' => e = .returned (.bool (fitQ ⟨#[85]⟩ k n)) ∧ Below w.heap.size w w' := by
  obtain ⟨W, b, b1, hW, hb0, hb1, R1, R2, BB, sz⟩ := box2 w #[.int .i64 k, .int .i64 n] 27 #[.string nm, .string ⟨#[85]⟩] 80
  have y0 := R1.c 0 _ rfl
  have y1 := R1.c 1 _ rfl
  have z0 := R2.c 0 _ rfl
  have z1 := R2.c 1 _ rfl
  have HBB := Lib.hid BB
  clear R1 R2 BB sz
  by_cases hk : k = 1
  · have HE := Lib.hid (show fitQ ⟨#[85]⟩ k n = inR (-1000000000000) n 1000000000000 by rw [fitQ_u, decide_eq_true hk, Bool.true_and])
    have hbk : (k == 1) = true := by rw [beq_iff_eq]; exact hk
    clear hk
    go_enter Tryd.func40, Tryd.ntmps40
    go_upto_region 1 with fail
    rw [← hW]
    try rw [← hb1]
    try rw [← hb0]
    clear hW hb0 hb1
    go_wp2_with fail
    refine (number_yes _ _).mono ?_
    rintro e w1 ⟨rfl, rfl⟩
    go_wp2_with fail
    go_ret
    exact ⟨by rw [HE.out]; first | done | rfl, HBB.out⟩
  · have HE := Lib.hid (show fitQ ⟨#[85]⟩ k n = false by rw [fitQ_u, decide_eq_false hk, Bool.false_and])
    have hbk : (k == 1) = false := by rw [beq_eq_false_iff_ne]; exact hk
    clear hk
    go_enter Tryd.func40, Tryd.ntmps40
    go_upto_region 1 with fail
    rw [← hW]
    try rw [← hb1]
    try rw [← hb0]
    clear hW hb0 hb1
    go_wp2_with fail
    go_ret
    exact ⟨by rw [HE.out]; first | done | rfl, HBB.out⟩
theorem fits_any (k n : Int) (nm ty : ByteArray) (ht : ty = ⟨#[98, 105, 110, 97, 114, 121]⟩ ∨ ty = ⟨#[85]⟩) (w : World) : Calls Tryd.prog 40 #[.agg #[.int .i64 k, .int .i64 n], .agg #[.string nm, .string ty]] w fun e w' => e = .returned (.bool (fitQ ty k n)) ∧ Below w.heap.size w w' := by
  rcases ht with rfl | rfl
  · exact fits_bin k n nm w
  · exact fits_u k n nm w
set_option maxHeartbeats 8000000 in
set_option maxRecDepth 100000 in
theorem numbers_any (q : Nat) (v0 v1 v3 v4 v5 v6 v7 v8 : Value) (a2 : Option Addr) (c2 : Nat) (il : List PortD) (vs : List VD) (va0 : Option Addr) (vc : Nat) (F : Bool) (w : World) (hq : RowAt w q [v0, v1, .slice a2 il.length c2, v3, v4, v5, v6, v7, v8]) (hil : InS w a2 il.length 2 (flat portL il)) (hin : InS w va0 vs.length 2 (flat vdL vs)) (hlen : vs.length = il.length) (h16 : vs.length ≤ 16) (hty : ∀ x ∈ il, x.ty = ⟨#[98, 105, 110, 97, 114, 121]⟩ ∨ x.ty = ⟨#[85]⟩)
    (hF : F = true ↔ ∀ (k : Nat) (x : PortD) (y : VD), il[k]? = some x → vs[k]? = some y → fitQ x.ty y.k y.n = true) :
    Calls Tryd.prog 25 #[.pointer (some ⟨q, 0, none⟩), .slice va0 vs.length vc] w fun e w' => ∃ v, e = .returned (.tuple #[v, .bool F]) ∧ (F = true → w'.ownsRow w.heap.size 2 1 v vs.length (flat iL (vs.map VD.n))) ∧ Below w.heap.size w w' := by
  have HQ := Lib.hid hq
  have HI := Lib.hid hil
  have HV := Lib.hid hin
  have HF := Lib.hid hF
  have HTT := Lib.hid hty
  obtain ⟨M, hM⟩ : ∃ M, M = vs.length := ⟨_, rfl⟩
  have HM := Lib.hid hM
  have HL := Lib.hid (show M = il.length by omega)
  have m16 : M ≤ 16 := by omega
  rw [← hM]
  rw [← hlen, ← hM] at HQ
  obtain ⟨i0, hif, hz0, hz1, hz2⟩ := info_parts infoI64
  have HIF := Lib.hid hif
  have HZ0 := Lib.hid hz0
  have HZ1 := Lib.hid hz1
  have HZ2 := Lib.hid hz2
  clear hq hil hin hF hty hlen h16 hM hif hz0 hz1 hz2
  go_enter Tryd.func25, Tryd.ntmps25
  go_wp2_with fail
  go_loopw [6, 11] (fun v i wr => ∃ j : Nat, j ≤ M ∧ i = .int .i64 j ∧ Hid (RowAt wr q [v0, v1, .slice a2 M c2, v3, v4, v5, v6, v7, v8] ∧ wr.ownsRow w.heap.size 2 1 v j (flat iL ((vs.map VD.n).take j)) ∧ Below w.heap.size w wr ∧ ∀ k, k < j → ∀ x y, il[k]? = some x → vs[k]? = some y → fitQ x.ty y.k y.n = true)) (fun _ i _ => M - (intOf i).toNat)
  case atStart => exact ⟨0, Nat.zero_le _, rfl, Lib.hid ⟨HQ.out, World.ownsRow_nil _ _ _ _, Below.refl _ _, fun k hk => by omega⟩⟩
  case round =>
    obtain ⟨j, hj, rfl, hH⟩ := hrel
    have HQR := Lib.hid hH.out.1
    have HOR := Lib.hid hH.out.2.1
    have HBR := Lib.hid hH.out.2.2.1
    have HPR := Lib.hid hH.out.2.2.2
    clear hH
    by_cases hlt : j < M
    · obtain ⟨va, vo, rfl, hvl, hvc⟩ := (show InS wr va0 vs.length 2 (flat vdL vs) from HV.out.keep HBR.out).at vdL_len (by have := HM.out; omega)
      obtain ⟨ab, ao, rfl, hal, hac⟩ := (show InS wr a2 il.length 2 (flat portL il) from HI.out.keep HBR.out).at portL_len (by have := HL.out; omega)
      obtain ⟨y, hy⟩ : ∃ x, vs[j]? = some x := ⟨_, List.getElem?_eq_getElem (by have := HM.out; omega)⟩
      obtain ⟨x, hx⟩ : ∃ x, il[j]? = some x := ⟨_, List.getElem?_eq_getElem (by have := HL.out; omega)⟩
      have l0 := hvc j _ hy 0 _ rfl
      have l1 := hvc j _ hy 1 _ rfl
      have m0 := hac j _ hx 0 _ rfl
      have m1 := hac j _ hx 1 _ rfl
      rw [Nat.add_zero] at l0 m0
      have HFJ := Lib.hid (show F = true → fitQ x.ty y.k y.n = true from fun h => (HF.out.1 h) j x y hx hy)
      have HNF := Lib.hid (show (∀ k, k < j → ∀ x y, il[k]? = some x → vs[k]? = some y → fitQ x.ty y.k y.n = true) → fitQ x.ty y.k y.n = true → ∀ k, k < j + 1 → ∀ x y, il[k]? = some x → vs[k]? = some y → fitQ x.ty y.k y.n = true from fun h0 h1 k hk x' y' hx' hy' => by
        by_cases h : k = j
        · subst h; rw [hx] at hx'; rw [hy] at hy'; cases hx'; cases hy'; exact h1
        · exact h0 k (by omega) x' y' hx' hy')
      have HTY := Lib.hid (HTT.out x (List.mem_of_getElem? hx))
      have HNJ := Lib.hid (show (vs.map VD.n)[j]? = some y.n by rw [List.getElem?_map, hy]; rfl)
      obtain ⟨yk, yn⟩ := y
      obtain ⟨xn, xt⟩ := x
      have k1 : (0 : Int) ≤ (j : Int) := by omega
      have k2 : (j : Int) < (M : Int) := by omega
      obtain ⟨W4, t, hW4, ht, R4, B4, sz4⟩ := box1 wr #[.int .i64 yk, .int .i64 yn] 27
      have HR4 := Lib.hid R4
      have HQ4 := Lib.hid (HQR.out.keep B4)
      have HO4 := Lib.hid (own_keep HOR.out B4)
      have HB4 := Lib.hid (HBR.out.trans (B4.mono HBR.out.size))
      have HC := Lib.hid (show W4.cell? ⟨t, 0, none⟩ = some (.int .i64 yk) ∧ W4.cell? ⟨t, 1, none⟩ = some (.int .i64 yn) ∧ W4.cell? ⟨q, 2, none⟩ = some (.slice (some ⟨ab, ao, none⟩) M c2) ∧ W4.cell? ⟨ab, ao + j * 2, none⟩ = some (.string xn) ∧ W4.cell? ⟨ab, ao + j * 2 + 1, none⟩ = some (.string xt) from ⟨R4.c 0 _ rfl, R4.c 1 _ rfl, HQ4.out.c 2 _ rfl, cell_below m0 B4, cell_below m1 B4⟩)
      clear hx hy hvc hac R4 sz4 m0 m1
      go_upto_region 5 with fail
      rw [← hW4]
      try rw [← ht]
      clear hW4 ht B4
      refine wp_region_held_drew (S := fun w' => w'.cell? ⟨t, 0, none⟩ = some (.int .i64 yk) ∧ w'.cell? ⟨t, 1, none⟩ = some (.int .i64 yn) ∧ w'.cell? ⟨q, 2, none⟩ = some (.slice (some ⟨ab, ao, none⟩) M c2) ∧ w'.cell? ⟨ab, ao + j * 2, none⟩ = some (.string xn) ∧ w'.cell? ⟨ab, ao + j * 2 + 1, none⟩ = some (.string xt)) (by kernel_rfl) HC.out (fun hHeld => ?_)
      refine' wpAnyH_take (i := 0) (v := _) rfl (by kernel_rfl) (by kernel_rfl) (by kernel_rfl) (fun _ _ _ h => h) (Or.inl ⟨by rfl, ?_⟩) hHeld ?_
      rotate_left
      · intro w hSw
        (try dsimp only at hSw)
        go_simp
        try with_reducible rfl
      (try simp only [Act.put, List.getElem_toArray, List.getElem_cons_zero, List.getElem_cons_succ, List.setIfInBounds_toArray, List.set_cons_zero, List.set_cons_succ])
      refine' wpAnyH_take (i := 1) (v := _) rfl (by kernel_rfl) (by kernel_rfl) (by kernel_rfl) (fun _ _ _ h => h) (Or.inl ⟨by rfl, ?_⟩) hHeld ?_
      rotate_left
      · intro w hSw
        (try dsimp only at hSw)
        go_simp
        try with_reducible rfl
      (try simp only [Act.put, List.getElem_toArray, List.getElem_cons_zero, List.getElem_cons_succ, List.setIfInBounds_toArray, List.set_cons_zero, List.set_cons_succ])
      refine' wpAnyH_take (i := 2) (v := _) rfl (by kernel_rfl) (by kernel_rfl) (by kernel_rfl) (fun _ _ _ h => h) (Or.inl ⟨by rfl, ?_⟩) hHeld ?_
      rotate_left
      · intro w hSw
        (try dsimp only at hSw)
        go_simp
        try with_reducible rfl
      (try simp only [Act.put, List.getElem_toArray, List.getElem_cons_zero, List.getElem_cons_succ, List.setIfInBounds_toArray, List.set_cons_zero, List.set_cons_succ])
      refine' wpAnyH_take (i := 3) (v := _) rfl (by kernel_rfl) (by kernel_rfl) (by kernel_rfl) (fun _ _ _ h => h) (Or.inl ⟨by rfl, ?_⟩) hHeld ?_
      rotate_left
      · intro w hSw
        (try dsimp only at hSw)
        go_simp
        try with_reducible rfl
      (try simp only [Act.put, List.getElem_toArray, List.getElem_cons_zero, List.getElem_cons_succ, List.setIfInBounds_toArray, List.set_cons_zero, List.set_cons_succ])
      refine' wpAnyH_take (i := 4) (v := _) rfl (by kernel_rfl) (by kernel_rfl) (by kernel_rfl) (fun _ _ _ h => h) (Or.inl ⟨by rfl, ?_⟩) hHeld ?_
      rotate_left
      · intro w hSw
        (try dsimp only at hSw)
        go_simp
        try with_reducible rfl
      (try simp only [Act.put, List.getElem_toArray, List.getElem_cons_zero, List.getElem_cons_succ, List.setIfInBounds_toArray, List.set_cons_zero, List.set_cons_succ])
      refine' wpAnyH_take (i := 5) (v := _) rfl (by kernel_rfl) (by kernel_rfl) (by kernel_rfl) (fun _ _ _ h => h) (Or.inl ⟨by rfl, ?_⟩) hHeld ?_
      rotate_left
      · intro w hSw
        (try dsimp only at hSw)
        go_simp
        try with_reducible rfl
      (try simp only [Act.put, List.getElem_toArray, List.getElem_cons_zero, List.getElem_cons_succ, List.setIfInBounds_toArray, List.set_cons_zero, List.set_cons_succ])
      refine' wpAnyH_take (i := 6) (v := _) rfl (by kernel_rfl) (by kernel_rfl) (by kernel_rfl) (fun _ _ _ h => h) (Or.inl ⟨by rfl, ?_⟩) hHeld ?_
      rotate_left
      · intro w hSw
        (try dsimp only at hSw)
        go_simp
        try with_reducible rfl
      (try simp only [Act.put, List.getElem_toArray, List.getElem_cons_zero, List.getElem_cons_succ, List.setIfInBounds_toArray, List.set_cons_zero, List.set_cons_succ])
      refine' wpAnyH_take (i := 7) (v := _) rfl (by kernel_rfl) (by kernel_rfl) (by kernel_rfl) (fun _ _ _ h => h) (Or.inl ⟨by rfl, ?_⟩) hHeld ?_
      rotate_left
      · intro w hSw
        (try dsimp only at hSw)
        go_simp
        try with_reducible rfl
      (try simp only [Act.put, List.getElem_toArray, List.getElem_cons_zero, List.getElem_cons_succ, List.setIfInBounds_toArray, List.set_cons_zero, List.set_cons_succ])
      refine' wpAnyH_take (i := 8) (v := _) rfl (by kernel_rfl) (by kernel_rfl) (by kernel_rfl) (fun _ _ _ h => h) (Or.inl ⟨by rfl, ?_⟩) hHeld ?_
      rotate_left
      · intro w hSw
        (try dsimp only at hSw)
        go_simp
        try with_reducible rfl
      (try simp only [Act.put, List.getElem_toArray, List.getElem_cons_zero, List.getElem_cons_succ, List.setIfInBounds_toArray, List.set_cons_zero, List.set_cons_succ])
      refine wpAnyH_ready (rs := [9]) (by kernel_rfl) (by simp) ?_
      refine AllReadyH.cons rfl (fun K hK => ?_) AllReadyH.nil
      go_simp
      refine (fits_any _ _ _ _ HTY.out _).mono ?_
      rintro e x1 ⟨rfl, hb2⟩
      have hbx : Below W4.heap.size W4 x1 := (by first | exact hb2 | exact (Below.refl W4.heap.size W4).drew.trans hb2)
      have HSX : x1.cell? ⟨t, 0, none⟩ = some (.int .i64 yk) ∧ x1.cell? ⟨t, 1, none⟩ = some (.int .i64 yn) ∧ x1.cell? ⟨q, 2, none⟩ = some (.slice (some ⟨ab, ao, none⟩) M c2) ∧ x1.cell? ⟨ab, ao + j * 2, none⟩ = some (.string xn) ∧ x1.cell? ⟨ab, ao + j * 2 + 1, none⟩ = some (.string xt) := ⟨cell_below HC.out.1 hbx, cell_below HC.out.2.1 hbx, cell_below HC.out.2.2.1 hbx, cell_below HC.out.2.2.2.1 hbx, cell_below HC.out.2.2.2.2 hbx⟩
      clear hb2
      (try go_simp)
      clear hHeld
      refine hK.out _ _ HSX (fun hHeld => ?_)
      clear hK K HSX
      (try simp only [Act.put, List.getElem_toArray, List.getElem_cons_zero, List.getElem_cons_succ, List.setIfInBounds_toArray, List.set_cons_zero, List.set_cons_succ])
      refine' wpAnyH_take (i := 10) (v := _) rfl (by kernel_rfl) (by kernel_rfl) (by kernel_rfl) (fun _ _ _ h => h) (Or.inl ⟨by rfl, ?_⟩) hHeld ?_
      rotate_left
      · intro w hSw
        (try dsimp only at hSw)
        go_simp
        try with_reducible rfl
      (try simp only [Act.put, List.getElem_toArray, List.getElem_cons_zero, List.getElem_cons_succ, List.setIfInBounds_toArray, List.set_cons_zero, List.set_cons_succ])
      refine wpAnyH_done (by kernel_rfl) ?_ _
      (try simp only [Act.put, List.getElem_toArray, List.getElem_cons_zero, List.getElem_cons_succ, List.setIfInBounds_toArray, List.set_cons_zero, List.set_cons_succ])
      clear hHeld HC
      obtain ⟨FB, hFB⟩ : ∃ x, x = fitQ xt yk yn := ⟨_, rfl⟩
      rw [← hFB]
      have HFB := Lib.hid hFB
      clear hFB l0 l1
      cases FB
      · have HFF := Lib.hid (show F = false by
          cases h : F
          · rfl
          · have h1 := HFJ.out h
            have h2 := HFB.out
            rw [show fitQ xt yk yn = true from h1] at h2
            cases h2)
        have HBX := Lib.hid (HB4.out.trans (hbx.mono HB4.out.size))
        go_wp2_with fail
        go_ret2
        exact ⟨_, by rw [HFF.out]; rfl, (fun h => by rw [HFF.out] at h; cases h), HBX.out⟩
      · have HR5 := Lib.hid (HR4.out.keep hbx)
        have HQ5 := Lib.hid (HQ4.out.keep hbx)
        have HO5 := Lib.hid (own_keep HO4.out hbx)
        have HB5 := Lib.hid (HB4.out.trans (hbx.mono HB4.out.size))
        have t_0 := HR5.out.c 0 _ rfl
        have t_1 := HR5.out.c 1 _ rfl
        have hif := HIF.out
        have hz0 := HZ0.out
        have hz1 := HZ1.out
        have hz2 := HZ2.out
        clear hbx
        go_wp2_with (at_builtin; refine wpList_append_own _ rfl _ _ 22 rfl w.heap.size 2 i0 (.int .i64 0) 1 8 Tryd.underlying22 hif hz0 hz1 hz2 rfl (by decide) _ _ _ rfl (own_at HO5.out _) ⟨x1.heap.size, 0, none⟩ 1 1 [.int .i64 yn] rfl rfl ?a1 ?a2 ?a3 ?a4 ?a5 ?_)
        try
          case a1 =>
            intro q u hu
            rw [add_plain, Nat.zero_add]
            exact (row_fresh x1 #[.int .i64 yn] 2).c q u hu
        try
          case a2 =>
            first
              | rfl
              | (intro u hu; simp at hu; subst hu; rfl)
        case a3 => unfold maxLen; omega
        case a4 => omega
        case a5 => have := HB5.out.size; (try rw [World.size_alloc]); omega
        intro v5 w7 hown hgrow _
        have nal : Below x1.heap.size x1 (x1.alloc (Obj.cells #[.int .i64 yn] 2)) := (Below.refl _ _).alloc (Nat.le_refl _) _
        have vlt := fun q e => (HO5.out.lt q e).1
        have Q6 := Lib.hid (row_grown (HQ5.out.keep nal) hgrow (fun e => by have h1 := vlt q e.symm; have h2 := HQ.out.lt; omega))
        have B6 := Lib.hid ((HB5.out.trans (nal.mono HB5.out.size)).grown hgrow (by have := HB5.out.size; rw [World.size_alloc]; omega) (fun q e => vlt q e))
        have V6 := Lib.hid (show w7.ownsRow w.heap.size 2 1 v5 (j + 1) (flat iL ((vs.map VD.n).take (j + 1))) by rw [flat_iL _ _ _ HNJ.out]; exact hown)
        have HP6 := Lib.hid (HNF.out HPR.out HFB.out.symm)
        clear hown hgrow nal vlt hif hz0 hz1 hz2 t_0 t_1
        go_wp2_with fail
        go_roundw
        case rel => exact ⟨j + 1, by omega, by go_num, Lib.hid ⟨Q6.out, V6.out, B6.out, HP6.out⟩⟩
        case measure => (simp [intOf]) <;> omega
    · obtain rfl : j = M := by omega
      have HFT := Lib.hid (show F = true from HF.out.2 (fun k x y hx hy => HPR.out k (by have := (List.getElem?_eq_some_iff.1 hx).1; have := HL.out; omega) x y hx hy))
      have HO7 := Lib.hid (show wr.ownsRow w.heap.size 2 1 _ j (flat iL (vs.map VD.n)) by have h := HOR.out; rw [List.take_of_length_le (by rw [List.length_map]; have := HM.out; omega)] at h; exact h)
      go_wp2_with fail
      go_ret2
      exact ⟨_, by rw [HFT.out]; rfl, (fun _ => HO7.out), HBR.out⟩
end Go.Proofs.YthaigchklogjlaaDoor
