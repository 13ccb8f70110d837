/- timer.Step, generic over the block. -/
import Derived.Test.YtmhfkdnblemfdaaDoorDc
import Derived.Test.YtmhfkdnblemfdaaDoorCi
namespace Go.Proofs.YtmhfkdnblemfdaaDoor
open Go.RowKit Go.Shelf

set_option linter.unusedVariables false
set_option linter.unusedSimpArgs false
/-- the error of Step at a block of the layer -/
def tmE (FP : Bool) (il : List PortD) (vs : List ValD) (V : Bool) (dt : Int) : Int :=
  if FP = false ∨ inZ 1 dt 86400 = false ∨ vs.length ≠ il.length then 1 else if V = false then 11 else 0
/-- the answer of Step -/
def TmA (w' : World) (E : Int) (ko o : Int) (S : List Int) (v : Value) (k n : Int) : Prop :=
  (E ≠ 0 → v = .slice none 0 0 ∧ k = 0 ∧ n = 0) ∧ (E = 0 → k = ko ∧ n = o ∧ ∃ a c, v = .slice a S.length c ∧ InS w' a S.length 1 (flat iL S))
theorem cell_grown {w w' : World} {o : Option Nat} {a : Addr} {v : Value} (hc : w.cell? a = some v) (hg : w.grownBy w' o) (hne : some a.block ≠ o) : w'.cell? a = some v := by
  obtain ⟨b, q, p⟩ := a
  exact (World.cell?_of_block (hg.block b (World.block_lt_of_cell? _ _ hc) hne)).trans hc
set_option maxHeartbeats 8000000 in
set_option maxRecDepth 100000 in
theorem tstep (s ro : ByteArray) (rm : Int) (st : Nat) (hst : st = 1 ∨ st = 2) (pl : List BndD) (il : List PortD) (K ko : Int) (pa sa va : Option Addr) (P pc Q sc vc : Nat) (stt : List Int) (vs : List ValD) (dt : Int) (FP V : Bool) (S : List Int) (o : Int) (w : World)
    (h0 : 0 < il.length) (h10 : il.length ≤ 10) (hk : ∀ p ∈ il, KindOk p.ty K) (hko : KindOk ro ko) (hin : InS w va vs.length 2 (flat valL vs)) (hV : V = true ↔ ∀ v ∈ vs, fitsB v.k v.n K = true) (hsl : S.length = st)
    (KR : Hid (∀ W, Below w.heap.size w W → Calls Tryd.prog 21 #[.string s, .slice pa P pc, .slice sa Q sc] W fun e w' => ∃ R, e = .returned (.tuple #[R, .int .i64 (if FP = true then 0 else 1)]) ∧ (FP = true → ResOk W s ro rm st pl il pa P pc stt R w') ∧ Below W.heap.size W w'))
    (HEV : Hid (FP = true → V = true → (1 ≤ dt ∧ dt ≤ 86400 ∧ vs.length = il.length) → ∀ (w5 : World) (rb : Nat) (a1 : Option Addr) (c1 : Nat) (a2 : Option Addr) (c2 ob : Nat), w5.heap.size < rb → Below w.heap.size w w5 →
      ∀ (w : World) (ib io ic' : Nat), Below w5.heap.size w5 w → RowAt w rb [.string s, .slice a1 pl.length c1, .slice a2 il.length c2, .slice (some ⟨ob, 0, none⟩) 1 1, .int .i64 (st : Int), .int .i64 rm, .slice pa P pc, .slice (some ⟨w5.heap.size, 0, none⟩) st st] → RowAt w w5.heap.size (flat iL stt) → (∀ k x, vs[k]? = some x → w.cell? ⟨ib, io + k, none⟩ = some (.int .i64 x.n)) → ib ≠ w5.heap.size →
      Calls Tryd.prog 33 #[.pointer (some ⟨rb, 0, none⟩), .slice (some ⟨ib, io, none⟩) vs.length ic', .int .i64 dt] w fun e w' => e = .returned (.int .i64 o) ∧ RowAt w' w5.heap.size (flat iL S) ∧ w.grownBy w' (some w5.heap.size))) :
    Calls Tryd.prog 11 #[.string s, .slice pa P pc, .slice sa Q sc, .slice va vs.length vc, .int .i64 dt] w fun e w' => ∃ v k n, e = .returned (.tuple #[v, .agg #[.int .i64 k, .int .i64 n], .int .i64 (tmE FP il vs V dt)]) ∧ TmA w' (tmE FP il vs V dt) ko o S v k n ∧ Below w.heap.size w w' := by
  have HK := Lib.hid hk
  have HKO := Lib.hid hko
  have HIN := Lib.hid hin
  have HV := Lib.hid hV
  have HSL := Lib.hid hsl
  have HST := Lib.hid hst
  obtain ⟨K0, hK0⟩ : ∃ M, M = vs.length := ⟨_, rfl⟩
  have HKL := Lib.hid hK0
  have k63 : K0 ≤ 9223372036854775807 := by rw [hK0]; exact hin.2.1
  rw [← hK0]
  clear hk hko hin hV hsl hst hK0
  obtain ⟨W1, g, hW1, hg, RG, B1, sz1⟩ := box1 w #[.int .i64 0, .int .i64 0] 26
  have HG1 := Lib.hid RG
  have HB1 := Lib.hid B1
  have HWG := Lib.hid (show w.heap.size ≤ g by omega)
  have HWL := Lib.hid (show g < W1.heap.size from RG.lt)
  clear RG B1 sz1
  go_enter Tryd.func11, Tryd.ntmps11
  go_upto_region 1 with fail
  rw [← hW1]
  try rw [← hg]
  clear hW1 hg
  go_wp2_with fail
  refine (KR.out W1 HB1.out).mono ?_
  rintro e w2 ⟨R, rfl, hres, hb⟩
  have HB2 := Lib.hid (HB1.out.trans (hb.mono HB1.out.size))
  have HG2 := Lib.hid (HG1.out.keep hb)
  have HB12 := Lib.hid hb
  cases FP
  · clear hres hb
    have g_0 := HG2.out.c 0 _ rfl
    have g_1 := HG2.out.c 1 _ rfl
    have g_z := HG2.out.fz
    go_wp2_with fail
    have hs := HG2.out.setRow [.int .i64 0, .int .i64 0] rfl
    have hB := set_below HB2.out HWG.out [.int .i64 0, .int .i64 0]
    have y0 : ((w2.setCell ⟨g, 0, none⟩ (.int .i64 0)).setCell ⟨g, 1, none⟩ (.int .i64 0)).cell? ⟨g, 0, none⟩ = some (.int .i64 0) := hs.c 0 _ rfl
    have y1 : ((w2.setCell ⟨g, 0, none⟩ (.int .i64 0)).setCell ⟨g, 1, none⟩ (.int .i64 0)).cell? ⟨g, 1, none⟩ = some (.int .i64 0) := hs.c 1 _ rfl
    (try simp only [Exit.inBlock, Exit.then])
    refine bodyPost_ret (by simp [results, Tryd.results11, go_sem, y0, y1]; try rfl) rfl ?_
    have hEE : (1 : Int) = tmE false il vs V dt := by unfold tmE; rw [if_pos (.inl rfl)]
    rw [← hEE]
    exact ⟨_, _, _, rfl, ⟨fun _ => ⟨rfl, rfl, rfl⟩, fun h => absurd h (by decide)⟩, hB⟩
  · obtain ⟨w5, rb, a1, c1, a2, c2, ob, rfl, hb5, hrb, hR, hS, hI2, hI3, hb52⟩ := hres (by first | rfl | trivial)
    have HRB := Lib.hid hrb
    have HR2 := Lib.hid hR
    have HS2 := Lib.hid hS
    have HI2 := Lib.hid hI2
    have HI3 := Lib.hid hI3
    have HB52 := Lib.hid hb52
    have HB51 := Lib.hid hb5
    have HB15 := Lib.hid (HB1.out.trans (hb5.mono HB1.out.size))
    clear hres hb hb5 hrb hR hS hI2 hI3 hb52
    by_cases hok : 1 ≤ dt ∧ dt ≤ 86400 ∧ K0 = il.length
    · have HDT := Lib.hid hok
      clear hok
      cases V
      · have hbadv : ∃ v ∈ vs, fitsB v.k v.n K = false := by
          by_cases h : ∃ v ∈ vs, fitsB v.k v.n K = false
          · exact h
          · refine absurd (HV.out.2 (fun v hv => ?_)) (by decide)
            cases hf : fitsB v.k v.n K with
            | true => rfl
            | false => exact absurd ⟨v, hv, hf⟩ h
        have ks := step_type w5 rb s a1 pl.length c1 a2 c2 ob rm st st pa P pc il K vs va vc dt HDT.out.1 HDT.out.2.1 (by rw [← HKL.out]; exact HDT.out.2.2) h0 h10 HK.out hbadv HI2.out (HIN.out.keep HB15.out) w2 HB52.out HR2.out
        rw [← HKL.out] at ks
        have KS := Lib.hid ks
        clear ks hbadv
        go_wp2_with fail
        refine KS.out.mono ?_
        rintro e w3 ⟨rfl, hb3⟩
        have HB3 := Lib.hid (HB2.out.trans (hb3.mono HB2.out.size))
        have HG3 := Lib.hid (HG2.out.keep hb3)
        obtain ⟨W6, t, hW6, ht, R6, B6, sz6⟩ := box1 w3 #[.int .i64 0, .int .i64 0] 26
        have HG6 := Lib.hid (HG3.out.keep B6)
        have HB6 := Lib.hid (HB3.out.trans (B6.mono HB3.out.size))
        clear R6 B6 sz6 hb3
        go_upto_region 5 with fail
        rw [← hW6]
        try rw [← ht]
        clear hW6 ht
        have g_0 := HG6.out.c 0 _ rfl
        have g_1 := HG6.out.c 1 _ rfl
        have g_z := HG6.out.fz
        go_wp2_with fail
        have hs := HG6.out.setRow [.int .i64 0, .int .i64 0] rfl
        have hB := set_below HB6.out HWG.out [.int .i64 0, .int .i64 0]
        have y0 : ((W6.setCell ⟨g, 0, none⟩ (.int .i64 0)).setCell ⟨g, 1, none⟩ (.int .i64 0)).cell? ⟨g, 0, none⟩ = some (.int .i64 0) := hs.c 0 _ rfl
        have y1 : ((W6.setCell ⟨g, 0, none⟩ (.int .i64 0)).setCell ⟨g, 1, none⟩ (.int .i64 0)).cell? ⟨g, 1, none⟩ = some (.int .i64 0) := hs.c 1 _ rfl
        (try simp only [Exit.inBlock, Exit.then])
        refine bodyPost_ret (by simp [results, Tryd.results11, go_sem, y0, y1]; try rfl) rfl ?_
        have hEE : (11 : Int) = tmE true il vs false dt := by unfold tmE; rw [if_neg (fun h => by rcases h with h | h | h; exact absurd h (by decide); rw [inZ_yes HDT.out.1 HDT.out.2.1] at h; cases h; exact h (by rw [← HKL.out]; exact HDT.out.2.2)), if_pos rfl]
        rw [← hEE]
        exact ⟨_, _, _, rfl, ⟨fun _ => ⟨rfl, rfl, rfl⟩, fun h => absurd h (by decide)⟩, hB⟩
      · have ks := step_any w5 rb s ro a1 pl.length c1 a2 c2 ob rm st st pa P pc il K ko vs va vc dt (flat iL stt) (flat iL S) o HRB.out HDT.out.1 HDT.out.2.1 (by rw [← HKL.out]; exact HDT.out.2.2) h0 h10 HK.out (HV.out.1 rfl) HKO.out HI2.out HI3.out (HIN.out.keep HB15.out) (HEV.out rfl rfl ⟨HDT.out.1, HDT.out.2.1, by rw [← HKL.out]; exact HDT.out.2.2⟩ w5 rb a1 c1 a2 c2 ob HRB.out HB15.out) w2 HB52.out HR2.out HS2.out
        rw [← HKL.out] at ks
        have KS := Lib.hid ks
        clear ks
        go_wp2_with fail
        refine KS.out.mono ?_
        rintro e w3 ⟨rfl, hS3, hg3⟩
        have hws : w5.heap.size < w2.heap.size := HS2.out.lt
        have HR3 := Lib.hid (row_grown HR2.out hg3 (fun e => by injection e with e; have := HRB.out; omega))
        have HG3 := Lib.hid (row_grown HG2.out hg3 (fun e => by injection e with e; have h1 := HWL.out; have h2 := HB51.out.size; omega))
        have HB3 := Lib.hid (HB2.out.grown hg3 (by have := HB2.out.size; omega) (fun z e => by cases e; have h1 := HB15.out.size; omega))
        have HS3 := Lib.hid hS3
        clear hS3 hg3 hws KS
        obtain ⟨W6, t, hW6, ht, R6, B6, sz6⟩ := box1 w3 #[.int .i64 ko, .int .i64 o] 26
        have HG6 := Lib.hid (HG3.out.keep B6)
        have HB6 := Lib.hid (HB3.out.trans (B6.mono HB3.out.size))
        have HR6 := Lib.hid (HR3.out.keep B6)
        have HS6 := Lib.hid (HS3.out.keep B6)
        have HT6 := Lib.hid R6
        have HGT := Lib.hid (show g ≠ t by have h1 := HG3.out.lt; omega)
        have HGR := Lib.hid (show g ≠ rb by have h1 := HWL.out; have h2 := HB51.out.size; have h3 := HRB.out; omega)
        have HGS := Lib.hid (show g ≠ w5.heap.size by have h1 := HWL.out; have h2 := HB51.out.size; omega)
        clear R6 B6 sz6
        go_upto_region 7 with fail
        rw [← hW6]
        try rw [← ht]
        clear hW6 ht
        have HC := Lib.hid (show W6.cell? ⟨rb, 7, none⟩ = some (.slice (some ⟨w5.heap.size, 0, none⟩) st st) ∧ W6.cell? ⟨t, 0, none⟩ = some (.int .i64 ko) ∧ W6.cell? ⟨t, 1, none⟩ = some (.int .i64 o) from ⟨HR6.out.c 7 _ rfl, HT6.out.c 0 _ rfl, HT6.out.c 1 _ rfl⟩)
        refine wp_region_held_drew (S := fun w' => w'.cell? ⟨rb, 7, none⟩ = some (.slice (some ⟨w5.heap.size, 0, none⟩) st st) ∧ w'.cell? ⟨t, 0, none⟩ = some (.int .i64 ko) ∧ w'.cell? ⟨t, 1, none⟩ = some (.int .i64 o)) (by kernel_rfl) HC.out (fun hHeld => ?_)
        have hdr : Below W6.heap.size W6 W6.drew := (Below.refl _ _).drew
        have HG9 := Lib.hid (HG6.out.keep hdr)
        have HS9 := Lib.hid (HS6.out.keep hdr)
        have HB9 := Lib.hid (HB6.out.trans (hdr.mono HB6.out.size))
        obtain ⟨W9, hW9⟩ : ∃ x, x = W6.drew := ⟨_, rfl⟩
        rw [← hW9] at HG9 HS9 HB9 hHeld ⊢
        clear hW9 hdr HC
        refine' wpAnyH_take (i := 0) (v := _) rfl (by kernel_rfl) (by kernel_rfl) (by kernel_rfl) (fun _ _ _ h => h) (Or.inl ⟨by rfl, ?_⟩) hHeld ?_
        rotate_left
        · intro w hSw
          (try dsimp only at hSw)
          go_simp
          try with_reducible rfl
        (try simp only [Act.put, List.getElem_toArray, List.getElem_cons_zero, List.getElem_cons_succ, List.setIfInBounds_toArray, List.set_cons_zero, List.set_cons_succ])
        refine' wpAnyH_take (i := 1) (v := _) rfl (by kernel_rfl) (by kernel_rfl) (by kernel_rfl) (fun _ _ _ h => h) (Or.inl ⟨by rfl, ?_⟩) hHeld ?_
        rotate_left
        · intro w hSw
          (try dsimp only at hSw)
          go_simp
          try with_reducible rfl
        (try simp only [Act.put, List.getElem_toArray, List.getElem_cons_zero, List.getElem_cons_succ, List.setIfInBounds_toArray, List.set_cons_zero, List.set_cons_succ])
        refine' wpAnyH_take (i := 2) (v := _) rfl (by kernel_rfl) (by kernel_rfl) (by kernel_rfl) (fun _ _ _ h => h) (Or.inl ⟨by rfl, ?_⟩) hHeld ?_
        rotate_left
        · intro w hSw
          (try dsimp only at hSw)
          go_simp
          try with_reducible rfl
        (try simp only [Act.put, List.getElem_toArray, List.getElem_cons_zero, List.getElem_cons_succ, List.setIfInBounds_toArray, List.set_cons_zero, List.set_cons_succ])
        refine' wpAnyH_take (i := 3) (v := _) rfl (by kernel_rfl) (by kernel_rfl) (by kernel_rfl) (fun _ _ _ h => h) (Or.inl ⟨by rfl, ?_⟩) hHeld ?_
        rotate_left
        · intro w hSw
          (try dsimp only at hSw)
          go_simp
          try with_reducible rfl
        (try simp only [Act.put, List.getElem_toArray, List.getElem_cons_zero, List.getElem_cons_succ, List.setIfInBounds_toArray, List.set_cons_zero, List.set_cons_succ])
        refine' wpAnyH_take (i := 4) (v := _) rfl (by kernel_rfl) (by kernel_rfl) (by kernel_rfl) (fun _ _ _ h => h) (Or.inl ⟨by rfl, ?_⟩) hHeld ?_
        rotate_left
        · intro w hSw
          (try dsimp only at hSw)
          go_simp
          try with_reducible rfl
        (try simp only [Act.put, List.getElem_toArray, List.getElem_cons_zero, List.getElem_cons_succ, List.setIfInBounds_toArray, List.set_cons_zero, List.set_cons_succ])
        refine' wpAnyH_take (i := 5) (v := _) rfl (by kernel_rfl) (by kernel_rfl) (by kernel_rfl) (fun _ _ _ h => h) (Or.inl ⟨by rfl, ?_⟩) hHeld ?_
        rotate_left
        · intro w hSw
          (try dsimp only at hSw)
          go_simp
          try with_reducible rfl
        (try simp only [Act.put, List.getElem_toArray, List.getElem_cons_zero, List.getElem_cons_succ, List.setIfInBounds_toArray, List.set_cons_zero, List.set_cons_succ])
        have g_0 := HG9.out.c 0 _ rfl
        have hs0 := row_set HG9.out 0 (by simp) (.int .i64 ko)
        have g_1 : (W9.setCell ⟨g, 0, none⟩ (.int .i64 ko)).cell? ⟨g, 1, none⟩ = some (.int .i64 0) := hs0.c 1 _ rfl
        have g_1' := HG9.out.c 1 _ rfl
        have g_z := HG9.out.fz
        have gg : W9.grownBy ((W9.setCell ⟨g, 0, none⟩ (.int .i64 ko)).setCell ⟨g, 1, none⟩ (.int .i64 o)) (some g) := grown_trans (grown_cell _ g 0 (.int .i64 ko)) (grown_cell _ g 1 (.int .i64 o))
        have HSX : ((W9.setCell ⟨g, 0, none⟩ (.int .i64 ko)).setCell ⟨g, 1, none⟩ (.int .i64 o)).cell? ⟨rb, 7, none⟩ = some (.slice (some ⟨w5.heap.size, 0, none⟩) st st) ∧ ((W9.setCell ⟨g, 0, none⟩ (.int .i64 ko)).setCell ⟨g, 1, none⟩ (.int .i64 o)).cell? ⟨t, 0, none⟩ = some (.int .i64 ko) ∧ ((W9.setCell ⟨g, 0, none⟩ (.int .i64 ko)).setCell ⟨g, 1, none⟩ (.int .i64 o)).cell? ⟨t, 1, none⟩ = some (.int .i64 o) := ⟨cell_grown hHeld.1 gg (fun e => HGR.out (Option.some.inj e).symm), cell_grown hHeld.2.1 gg (fun e => HGT.out (Option.some.inj e).symm), cell_grown hHeld.2.2 gg (fun e => HGT.out (Option.some.inj e).symm)⟩
        have HGG := Lib.hid gg
        clear gg
        refine wpAnyH_ready (rs := [6]) (by kernel_rfl) (by simp) ?_
        refine AllReadyH.cons rfl (fun K hK => ?_) AllReadyH.nil
        go_simp
        clear hHeld
        refine hK.out _ _ HSX (fun hHeld => ?_)
        clear hK K HSX
        (try simp only [Act.put, List.getElem_toArray, List.getElem_cons_zero, List.getElem_cons_succ, List.setIfInBounds_toArray, List.set_cons_zero, List.set_cons_succ])
        refine' wpAnyH_take (i := 7) (v := _) rfl (by kernel_rfl) (by kernel_rfl) (by kernel_rfl) (fun _ _ _ h => h) (Or.inl ⟨by rfl, ?_⟩) hHeld ?_
        rotate_left
        · intro w hSw
          (try dsimp only at hSw)
          go_simp
          try with_reducible rfl
        (try simp only [Act.put, List.getElem_toArray, List.getElem_cons_zero, List.getElem_cons_succ, List.setIfInBounds_toArray, List.set_cons_zero, List.set_cons_succ])
        refine wpAnyH_done (by kernel_rfl) ?_ _
        (try simp only [Act.put, List.getElem_toArray, List.getElem_cons_zero, List.getElem_cons_succ, List.setIfInBounds_toArray, List.set_cons_zero, List.set_cons_succ])
        clear hHeld g_0 g_1 g_1' g_z hs0
        go_wp2_with fail
        have hs := HG9.out.setRow [.int .i64 ko, .int .i64 o] rfl
        have y0 : ((W9.setCell ⟨g, 0, none⟩ (.int .i64 ko)).setCell ⟨g, 1, none⟩ (.int .i64 o)).cell? ⟨g, 0, none⟩ = some (.int .i64 ko) := hs.c 0 _ rfl
        have y1 : ((W9.setCell ⟨g, 0, none⟩ (.int .i64 ko)).setCell ⟨g, 1, none⟩ (.int .i64 o)).cell? ⟨g, 1, none⟩ = some (.int .i64 o) := hs.c 1 _ rfl
        (try simp only [Exit.inBlock, Exit.then])
        refine bodyPost_ret (by simp [results, Tryd.results11, go_sem, y0, y1]; try rfl) rfl ?_
        have hEE : (0 : Int) = tmE true il vs true dt := by unfold tmE; rw [if_neg (fun h => by rcases h with h | h | h; exact absurd h (by decide); rw [inZ_yes HDT.out.1 HDT.out.2.1] at h; cases h; exact h (by rw [← HKL.out]; exact HDT.out.2.2)), if_neg (by decide)]
        rw [← hEE]
        have hrow := row_grown HS9.out HGG.out (fun e => HGS.out (Option.some.inj e).symm)
        refine ⟨_, _, _, rfl, ⟨fun h => absurd rfl h, fun _ => ⟨rfl, rfl, _, st, by rw [HSL.out], ?_⟩⟩, HB9.out.grown HGG.out (by have := HB9.out.size; omega) (fun z e => by cases e; exact HWG.out)⟩
        exact ⟨by rw [flat_len iL_len], by rw [HSL.out]; rcases HST.out with h | h <;> rw [h] <;> decide, .inr ⟨w5.heap.size, 0, rfl, hrow.lt, fun j u hu => by rw [Nat.zero_add]; exact hrow.c j u hu⟩⟩
    · have HNK := Lib.hid hok
      have ks := step_bad w5 rb s a1 pl.length c1 a2 c2 ob rm st st pa P pc il K0 va vc dt k63 w2 HR2.out (by rcases Int.lt_or_le dt 1 with h | h; exact .inl h; rcases Int.lt_or_le 86400 dt with h2 | h2; exact .inr (.inl h2); exact .inr (.inr (fun h3 => hok ⟨h, h2, h3⟩)))
      have KS := Lib.hid ks
      clear ks hok
      go_wp2_with fail
      refine KS.out.mono ?_
      rintro e w3 ⟨rfl, hb3⟩
      have HB3 := Lib.hid (HB2.out.trans (hb3.mono HB2.out.size))
      have HG3 := Lib.hid (HG2.out.keep hb3)
      obtain ⟨W6, t, hW6, ht, R6, B6, sz6⟩ := box1 w3 #[.int .i64 0, .int .i64 0] 26
      have HG6 := Lib.hid (HG3.out.keep B6)
      have HB6 := Lib.hid (HB3.out.trans (B6.mono HB3.out.size))
      clear R6 B6 sz6 hb3
      go_upto_region 5 with fail
      rw [← hW6]
      try rw [← ht]
      clear hW6 ht
      have g_0 := HG6.out.c 0 _ rfl
      have g_1 := HG6.out.c 1 _ rfl
      have g_z := HG6.out.fz
      go_wp2_with fail
      have hs := HG6.out.setRow [.int .i64 0, .int .i64 0] rfl
      have hB := set_below HB6.out HWG.out [.int .i64 0, .int .i64 0]
      have y0 : ((W6.setCell ⟨g, 0, none⟩ (.int .i64 0)).setCell ⟨g, 1, none⟩ (.int .i64 0)).cell? ⟨g, 0, none⟩ = some (.int .i64 0) := hs.c 0 _ rfl
      have y1 : ((W6.setCell ⟨g, 0, none⟩ (.int .i64 0)).setCell ⟨g, 1, none⟩ (.int .i64 0)).cell? ⟨g, 1, none⟩ = some (.int .i64 0) := hs.c 1 _ rfl
      (try simp only [Exit.inBlock, Exit.then])
      refine bodyPost_ret (by simp [results, Tryd.results11, go_sem, y0, y1]; try rfl) rfl ?_
      have hEE : (1 : Int) = tmE true il vs V dt := by unfold tmE; rw [if_pos (.inr (by by_cases h1 : inZ 1 dt 86400 = false; exact .inl h1; refine .inr (fun h2 => HNK.out ?_); have h3 : inZ 1 dt 86400 = true := (by cases h : inZ 1 dt 86400 with | false => exact absurd h h1 | true => rfl); exact ⟨(inZ_le h3).1, (inZ_le h3).2, by rw [HKL.out, h2]⟩))]
      rw [← hEE]
      exact ⟨_, _, _, rfl, ⟨fun _ => ⟨rfl, rfl, rfl⟩, fun h => absurd h (by decide)⟩, hB⟩
end Go.Proofs.YtmhfkdnblemfdaaDoor
