/- plenumref19.Settle, generic over the block. -/
import Derived.Test.YtmhfkdnblemfdaaDoorDj
import Derived.Test.YtmhfkdnblemfdaaDoorDo
import Derived.Deep.QuietTactic
import Derived.BigQuiet
namespace Go.Proofs.YtmhfkdnblemfdaaDoor
open Go.RowKit Go.Shelf

set_option linter.unusedVariables false
set_option linter.unusedSimpArgs false
set_option maxHeartbeats 4000000 in
set_option maxRecDepth 100000 in
theorem rStep_good (s : ByteArray) (pv sv vv : Value) (dt : Int) (E ko o : Int) (S : List Int) (n : Nat) (hst : n = 1 ∨ n = 2) (hsl : S.length = n) (hE0 : E = 0) (w : World)
    (KC : Hid (∀ W, Below w.heap.size w W → Calls Tryd.prog 23 #[.string s, pv, sv, vv, .int .i64 dt] W fun e w' => e = .returned (.int .i64 E) ∧ Below W.heap.size W w'))
    (KS : Hid (E = 0 → ∀ W, Below w.heap.size w W → Calls Tryd.prog 24 #[.string s, pv, sv, vv, .int .i64 dt] W fun e w' => ∃ gr, e = .returned (.tuple #[.slice (some ⟨gr, 0, none⟩) n n, .agg #[.int .i64 ko, .int .i64 o]]) ∧ W.heap.size ≤ gr ∧ RowAt w' gr (flat iL S) ∧ Below W.heap.size W w')) :
    Calls Tryd.prog 12 #[.string s, pv, sv, vv, .int .i64 dt] w fun e w' => ∃ gr, e = .returned (.tuple #[.slice (some ⟨gr, 0, none⟩) n n, .agg #[.int .i64 ko, .int .i64 o], .int .i64 0]) ∧ w.heap.size ≤ gr ∧ RowAt w' gr (flat iL S) ∧ Below w.heap.size w w' := by
  have HST := Lib.hid hst
  have HSL := Lib.hid hsl
  clear hst hsl
  obtain ⟨W1, g, hW1, hg, RG, B1, sz1⟩ := box1 w #[.int .i64 0, .int .i64 0] 26
  have HG1 := Lib.hid RG
  have HB1 := Lib.hid B1
  have HWG := Lib.hid (show w.heap.size ≤ g by omega)
  clear RG B1 sz1
  · subst hE0
    go_enter Tryd.func12, Tryd.ntmps12
    go_upto_region 1 with fail
    rw [← hW1]
    try rw [← hg]
    clear hW1 hg
    go_wp2_with fail
    refine (KC.out W1 HB1.out).mono ?_
    rintro e w2 ⟨rfl, hb⟩
    have HB2 := Lib.hid (HB1.out.trans (hb.mono HB1.out.size))
    have HG2 := Lib.hid (HG1.out.keep hb)
    clear hb
    go_wp2_with fail
    refine (KS.out (by first | rfl | trivial) w2 HB2.out).mono ?_
    rintro e w3 ⟨gr, rfl, hgr, hrow, hb⟩
    have HB3 := Lib.hid (HB2.out.trans (hb.mono HB2.out.size))
    have HG3 := Lib.hid (HG2.out.keep hb)
    have HGG := Lib.hid (show g ≠ gr by have := HG2.out.lt; omega)
    have HR3 := Lib.hid hrow
    have HGR := Lib.hid hgr
    clear hb hrow hgr
    obtain ⟨W6, t, hW6, ht, R6, B6, sz6⟩ := box1 w3 #[.int .i64 ko, .int .i64 o] 26
    have HG6 := Lib.hid (HG3.out.keep B6)
    have HB6 := Lib.hid (HB3.out.trans (B6.mono HB3.out.size))
    have HR6 := Lib.hid (HR3.out.keep B6)
    have HT6 := Lib.hid R6
    have HGT := Lib.hid (show g ≠ t by have h1 := HG3.out.lt; omega)
    clear R6 B6 sz6
    go_upto_region 5 with fail
    rw [← hW6]
    try rw [← ht]
    clear hW6 ht
    have HC := Lib.hid (show W6.cell? ⟨t, 0, none⟩ = some (.int .i64 ko) ∧ W6.cell? ⟨t, 1, none⟩ = some (.int .i64 o) from ⟨HT6.out.c 0 _ rfl, HT6.out.c 1 _ rfl⟩)
    refine wp_region_held_drew (S := fun w' => w'.cell? ⟨t, 0, none⟩ = some (.int .i64 ko) ∧ w'.cell? ⟨t, 1, none⟩ = some (.int .i64 o)) (by kernel_rfl) HC.out (fun hHeld => ?_)
    have hdr : Below W6.heap.size W6 W6.drew := (Below.refl _ _).drew
    have HG9 := Lib.hid (HG6.out.keep hdr)
    have HR9 := Lib.hid (HR6.out.keep hdr)
    have HB9 := Lib.hid (HB6.out.trans (hdr.mono HB6.out.size))
    obtain ⟨W9, hW9⟩ : ∃ x, x = W6.drew := ⟨_, rfl⟩
    rw [← hW9] at HG9 HR9 HB9 hHeld ⊢
    clear hW9 hdr HC
    refine' wpAnyH_take (i := 0) (v := _) rfl (by kernel_rfl) (by kernel_rfl) (by kernel_rfl) (fun _ _ _ h => h) (Or.inl ⟨by rfl, ?_⟩) hHeld ?_
    rotate_left
    · intro w hSw
      (try dsimp only at hSw)
      go_simp
      try with_reducible rfl
    (try simp only [Act.put, List.getElem_toArray, List.getElem_cons_zero, List.getElem_cons_succ, List.setIfInBounds_toArray, List.set_cons_zero, List.set_cons_succ])
    refine' wpAnyH_take (i := 1) (v := _) rfl (by kernel_rfl) (by kernel_rfl) (by kernel_rfl) (fun _ _ _ h => h) (Or.inl ⟨by rfl, ?_⟩) hHeld ?_
    rotate_left
    · intro w hSw
      (try dsimp only at hSw)
      go_simp
      try with_reducible rfl
    (try simp only [Act.put, List.getElem_toArray, List.getElem_cons_zero, List.getElem_cons_succ, List.setIfInBounds_toArray, List.set_cons_zero, List.set_cons_succ])
    refine' wpAnyH_take (i := 2) (v := _) rfl (by kernel_rfl) (by kernel_rfl) (by kernel_rfl) (fun _ _ _ h => h) (Or.inl ⟨by rfl, ?_⟩) hHeld ?_
    rotate_left
    · intro w hSw
      (try dsimp only at hSw)
      go_simp
      try with_reducible rfl
    (try simp only [Act.put, List.getElem_toArray, List.getElem_cons_zero, List.getElem_cons_succ, List.setIfInBounds_toArray, List.set_cons_zero, List.set_cons_succ])
    have g_0 := HG9.out.c 0 _ rfl
    have hs0 := row_set HG9.out 0 (by simp) (.int .i64 ko)
    have g_1 : (W9.setCell ⟨g, 0, none⟩ (.int .i64 ko)).cell? ⟨g, 1, none⟩ = some (.int .i64 0) := hs0.c 1 _ rfl
    have g_1' := HG9.out.c 1 _ rfl
    have g_z := HG9.out.fz
    have gg : W9.grownBy ((W9.setCell ⟨g, 0, none⟩ (.int .i64 ko)).setCell ⟨g, 1, none⟩ (.int .i64 o)) (some g) := grown_trans (grown_cell _ g 0 (.int .i64 ko)) (grown_cell _ g 1 (.int .i64 o))
    have HSX : ((W9.setCell ⟨g, 0, none⟩ (.int .i64 ko)).setCell ⟨g, 1, none⟩ (.int .i64 o)).cell? ⟨t, 0, none⟩ = some (.int .i64 ko) ∧ ((W9.setCell ⟨g, 0, none⟩ (.int .i64 ko)).setCell ⟨g, 1, none⟩ (.int .i64 o)).cell? ⟨t, 1, none⟩ = some (.int .i64 o) := ⟨cell_grown hHeld.1 gg (fun e => HGT.out (Option.some.inj e).symm), cell_grown hHeld.2 gg (fun e => HGT.out (Option.some.inj e).symm)⟩
    clear gg
    refine wpAnyH_ready (rs := [3]) (by kernel_rfl) (by simp) ?_
    refine AllReadyH.cons rfl (fun K hK => ?_) AllReadyH.nil
    go_simp
    clear hHeld
    refine hK.out _ _ HSX (fun hHeld => ?_)
    clear hK K HSX
    (try simp only [Act.put, List.getElem_toArray, List.getElem_cons_zero, List.getElem_cons_succ, List.setIfInBounds_toArray, List.set_cons_zero, List.set_cons_succ])
    refine' wpAnyH_take (i := 4) (v := _) rfl (by kernel_rfl) (by kernel_rfl) (by kernel_rfl) (fun _ _ _ h => h) (Or.inl ⟨by rfl, ?_⟩) hHeld ?_
    rotate_left
    · intro w hSw
      (try dsimp only at hSw)
      go_simp
      try with_reducible rfl
    (try simp only [Act.put, List.getElem_toArray, List.getElem_cons_zero, List.getElem_cons_succ, List.setIfInBounds_toArray, List.set_cons_zero, List.set_cons_succ])
    refine wpAnyH_done (by kernel_rfl) ?_ _
    (try simp only [Act.put, List.getElem_toArray, List.getElem_cons_zero, List.getElem_cons_succ, List.setIfInBounds_toArray, List.set_cons_zero, List.set_cons_succ])
    clear hHeld g_0 g_1 g_1' g_z hs0
    go_wp2_with fail
    have hs := HG9.out.setRow [.int .i64 ko, .int .i64 o] rfl
    have hB := set_below HB9.out HWG.out [.int .i64 ko, .int .i64 o]
    have y0 : ((W9.setCell ⟨g, 0, none⟩ (.int .i64 ko)).setCell ⟨g, 1, none⟩ (.int .i64 o)).cell? ⟨g, 0, none⟩ = some (.int .i64 ko) := hs.c 0 _ rfl
    have y1 : ((W9.setCell ⟨g, 0, none⟩ (.int .i64 ko)).setCell ⟨g, 1, none⟩ (.int .i64 o)).cell? ⟨g, 1, none⟩ = some (.int .i64 o) := hs.c 1 _ rfl
    (try simp only [Exit.inBlock, Exit.then])
    refine bodyPost_ret (by simp [results, Tryd.results12, go_sem, y0, y1]; try rfl) rfl ?_
    have hrow := HR9.out.other HGG.out [.int .i64 ko, .int .i64 o]
    exact ⟨gr, rfl, by have := HGR.out; have := HB2.out.size; omega, hrow, hB⟩
theorem iL_at : ∀ (A : List Int) (j : Nat) (x : Int), A[j]? = some x → (flat iL A)[j]? = some (.int .i64 x)
  | [], _, _, h => by simp at h
  | a :: A, 0, x, h => by
    have h2 : a = x := by simpa using h
    subst h2
    rfl
  | a :: A, j + 1, x, h => by
    show (flat iL A)[j]? = _
    exact iL_at A j x (by simpa using h)
def sameTo (xs ys : List Int) (j : Nat) : Bool := decide (xs.take j = ys.take j)
theorem sameTo_zero (xs ys : List Int) : sameTo xs ys 0 = true := by unfold sameTo; simp
theorem sameTo_all (xs ys : List Int) (n : Nat) (h1 : xs.length = n) (h2 : ys.length = n) : sameTo xs ys n = decide (xs = ys) := by
  unfold sameTo
  rw [List.take_of_length_le (by omega), List.take_of_length_le (by omega)]
theorem take_next (xs ys : List Int) (j : Nat) (x y : Int) (hx : xs[j]? = some x) (hy : ys[j]? = some y) : (xs.take (j + 1) = ys.take (j + 1)) ↔ (xs.take j = ys.take j ∧ x = y) := by
  rw [List.take_add_one, List.take_add_one, hx, hy]
  constructor
  · intro h
    have h1 := List.append_inj' h rfl
    exact ⟨h1.1, by simpa using h1.2⟩
  · rintro ⟨h1, rfl⟩
    rw [h1]
theorem sameTo_next (xs ys : List Int) (j : Nat) (x y : Int) (hx : xs[j]? = some x) (hy : ys[j]? = some y) : sameTo xs ys (j + 1) = (sameTo xs ys j && (x == y)) := by
  unfold sameTo
  rw [Bool.eq_iff_iff, decide_eq_true_iff, Bool.and_eq_true, decide_eq_true_iff, beq_iff_eq]
  exact take_next xs ys j x y hx hy
set_option maxHeartbeats 8000000 in
set_option maxRecDepth 100000 in
theorem rsettle_core (s : ByteArray) (pv sv vv : Value) (E ko : Int) (F : List Int → List Int) (O : List Int → Int) (stt : List Int) (n M : Nat) (hn : n = 1 ∨ n = 2) (hM : 2 ≤ M ∧ M ≤ 2000) (hfix : E = 0 → seqS F stt M = seqS F stt (M - 1)) (hne : ∀ k, 1 ≤ k → k + 1 < M → seqS F stt (k + 1) ≠ seqS F stt k) (hlen : E = 0 → ∀ k, (seqS F stt k).length = n) (w : World)
    (K1 : Hid (∀ W, Below w.heap.size w W → Calls Tryd.prog 12 #[.string s, pv, sv, vv, .int .i64 1] W fun e w' => ∃ v ka na, e = .returned (.tuple #[v, .agg #[.int .i64 ka, .int .i64 na], .int .i64 E]) ∧ (E = 0 → ka = ko ∧ na = O stt ∧ ∃ gr, v = .slice (some ⟨gr, 0, none⟩) n n ∧ W.heap.size ≤ gr ∧ RowAt w' gr (flat iL (F stt))) ∧ Below W.heap.size W w'))
    (K2 : Hid (E = 0 → ∀ k, 1 ≤ k → ∀ (W : World) (sb : Nat), Below w.heap.size w W → RowAt W sb (flat iL (seqS F stt k)) → Calls Tryd.prog 12 #[.string s, pv, .slice (some ⟨sb, 0, none⟩) n n, vv, .int .i64 1] W fun e w' => ∃ gr, e = .returned (.tuple #[.slice (some ⟨gr, 0, none⟩) n n, .agg #[.int .i64 ko, .int .i64 (O (seqS F stt k))], .int .i64 0]) ∧ W.heap.size ≤ gr ∧ RowAt w' gr (flat iL (seqS F stt (k + 1))) ∧ Below W.heap.size W w')) :
    Calls Tryd.prog 16 #[.string s, pv, sv, vv] w fun e w' => ∃ k n m, e = .returned (.tuple #[.agg #[.int .i64 k, .int .i64 n], .int .i64 m, .int .i64 E]) ∧ StA E ko (svV F O stt M) k n m ∧ Below w.heap.size w w' := by
  have HLEN := Lib.hid hlen
  have HM := Lib.hid hM
  have HFIX := Lib.hid hfix
  have HNE2 := Lib.hid hne
  have HN := Lib.hid hn
  clear hlen hM hfix hne hn
  obtain ⟨W1, g, hW1, hg, RG, B1, sz1⟩ := box1 w #[.int .i64 0, .int .i64 0] 26
  have HG1 := Lib.hid RG
  have HB1 := Lib.hid B1
  have HWG := Lib.hid (show w.heap.size ≤ g by omega)
  clear RG B1 sz1
  go_enter Tryd.func16, Tryd.ntmps16
  go_upto_region 1 with fail
  rw [← hW1]
  try rw [← hg]
  clear hW1 hg
  go_wp2_with fail
  refine (K1.out W1 HB1.out).mono ?_
  rintro e w2 ⟨v, ka, na, rfl, hA, hb⟩
  have HB2 := Lib.hid (HB1.out.trans (hb.mono HB1.out.size))
  have HG2 := Lib.hid (HG1.out.keep hb)
  clear hb K1
  obtain ⟨W3, l, hW3, hl, RL, B3, sz3⟩ := box1 w2 #[.int .i64 ka, .int .i64 na] 26
  have HB3 := Lib.hid (HB2.out.trans (B3.mono HB2.out.size))
  have HG3 := Lib.hid (HG2.out.keep B3)
  by_cases hE0 : E = 0
  · subst hE0
    obtain ⟨hka, rfl, sb0, rfl, hfr, hrow⟩ := hA rfl
    obtain rfl := hka.symm
    have HS3 := Lib.hid (hrow.keep B3)
    have HL3 := Lib.hid RL
    have HWL := Lib.hid (show w2.heap.size ≤ l by omega)
    have HSL0 := Lib.hid (show sb0 ≠ l by have := hrow.lt; omega)
    have HB23 := Lib.hid B3
    clear RL B3 sz3 hA hrow hfr
    go_upto_region 2 with fail
    rw [← hW3]
    try rw [← hl]
    clear hW3 hl
    go_wp2_with fail
    go_loopw [11, 14, 15, 16] (fun sl sn qn iv wr => ∃ k q sb : Nat, 1 ≤ k ∧ k + 1 ≤ M ∧ q ≤ k ∧ sl = .slice (some ⟨sb, 0, none⟩) n n ∧ sn = .int .i64 ((svV F O stt k).2 : Int) ∧ qn = .int .i64 (q : Int) ∧ iv = .int .i64 ((k : Int) + 1) ∧ Hid (RowAt wr l [.int .i64 ko, .int .i64 (svV F O stt k).1] ∧ RowAt wr sb (flat iL (seqS F stt k)) ∧ sb ≠ l ∧ Below w2.heap.size w2 wr)) (fun _ _ _ iv _ => (M + 2 - intOf iv).toNat)
    case atStart => exact ⟨1, 0, sb0, by omega, by have := HM.out; omega, by omega, rfl, rfl, rfl, rfl, Lib.hid ⟨HL3.out, HS3.out, HSL0.out, HB23.out⟩⟩
    case round =>
      obtain ⟨k, q, sb, hk1, hkM, hqk, rfl, rfl, rfl, rfl, hH⟩ := hrel
      have HL := Lib.hid hH.out.1
      have HS := Lib.hid hH.out.2.1
      have HSL := Lib.hid hH.out.2.2.1
      have HB := Lib.hid hH.out.2.2.2
      have HK1 := Lib.hid hk1
      clear hH
      have hMM := HM.out
      have ks := K2.out (by first | rfl | trivial) k hk1 wr sb (HB2.out.trans (HB.out.mono HB2.out.size)) HS.out
      obtain ⟨A, hA⟩ : ∃ A, A = seqS F stt (k + 1) := ⟨_, rfl⟩
      obtain ⟨B, hB⟩ : ∃ B, B = seqS F stt k := ⟨_, rfl⟩
      obtain ⟨o, ho⟩ : ∃ o, o = O (seqS F stt k) := ⟨_, rfl⟩
      rw [← hA, ← ho] at ks
      have HA := Lib.hid (And.intro hA (show A.length = n by rw [hA]; exact HLEN.out (by first | rfl | trivial) (k + 1)))
      have HBB := Lib.hid (And.intro hB (show B.length = n by rw [hB]; exact HLEN.out (by first | rfl | trivial) k))
      rw [← hB] at HS
      have HO := Lib.hid ho
      have KS := Lib.hid ks
      clear ks hA hB ho
      have hq1 : (q : Int) ≤ 86402 := by omega
      have hq2 : IntKind.i64.wrap ((q : Int) + 1) = (q : Int) + 1 := IntWalk.i64_in _ (by omega)
      have hi2 : IntKind.i64.wrap ((k : Int) + 1 + 1) = (k : Int) + 1 + 1 := IntWalk.i64_in _ (by omega)
      go_wp2_with fail
      refine KS.out.mono ?_
      rintro e v2 ⟨b, rfl, hge, hrow, hb⟩
      have HL2 := Lib.hid (HL.out.keep hb)
      have HS2 := Lib.hid (HS.out.keep hb)
      have HN2 := Lib.hid hrow
      have HNL := Lib.hid (show b ≠ l by have := HL.out.lt; omega)
      have HBv := Lib.hid (HB.out.trans (hb.mono HB.out.size))
      clear hge hrow hb KS HL HS HB
      obtain ⟨V3, t, hV3, ht, RT, B3, sz3⟩ := box1 v2 #[.int .i64 ko, .int .i64 o] 26
      have HT3 := Lib.hid RT
      have HL3 := Lib.hid (HL2.out.keep B3)
      have HS3 := Lib.hid (HS2.out.keep B3)
      have HN3 := Lib.hid (HN2.out.keep B3)
      have HB3' := Lib.hid (HBv.out.trans (B3.mono HBv.out.size))
      clear RT B3 sz3 HL2 HS2 HN2 HBv
      go_upto_region 10 with fail
      rw [← hV3]
      try rw [← ht]
      clear hV3 ht
      obtain ⟨ln, hln⟩ : ∃ z, z = (svV F O stt k).1 := ⟨_, rfl⟩
      rw [← hln] at HL3
      have HLN := Lib.hid hln
      clear hln
      have t_0 := HT3.out.c 0 _ rfl
      have t_1 := HT3.out.c 1 _ rfl
      have l_0 := HL3.out.c 0 _ rfl
      have l_1 := HL3.out.c 1 _ rfl
      have l_z := HL3.out.fz
      by_cases hch0 : o = ln
      · have HSV := Lib.hid (show svV F O stt (k + 1) = (ln, (svV F O stt k).2) by
          show (if k = 0 ∨ O (seqS F stt k) ≠ (svV F O stt k).1 then _ else _) = _
          rw [if_neg]
          · exact Prod.ext HLN.out.symm rfl
          · intro h
            rcases h with h | h
            · have := HK1.out; omega
            · exact h (by rw [← HO.out, ← HLN.out]; exact hch0))
        obtain rfl := hch0
        go_upto_region 13 with fail
        clear t_0 t_1 l_0 l_1 l_z
        have HL4 := HL3
        have HN4 := HN3
        have HS4 := HS3
        have HB4 := HB3'
        obtain ⟨wo, hwo⟩ : ∃ x : World, x = V3 := ⟨_, rfl⟩
        rw [← hwo] at HL4 HN4 HS4 HB4
        have HIA := Lib.hid (show InS wo (some ⟨b, 0, none⟩) n 1 (flat iL A) from ⟨by rw [flat_len iL_len, HA.out.2], by rcases HN.out with h | h <;> rw [h] <;> decide, .inr ⟨b, 0, rfl, HN4.out.lt, fun j u hu => by rw [Nat.zero_add]; exact HN4.out.c j u hu⟩⟩)
        have HIB := Lib.hid (show InS wo (some ⟨sb, 0, none⟩) n 1 (flat iL B) from ⟨by rw [flat_len iL_len, HBB.out.2], by rcases HN.out with h | h <;> rw [h] <;> decide, .inr ⟨sb, 0, rfl, HS4.out.lt, fun j u hu => by rw [Nat.zero_add]; exact HS4.out.c j u hu⟩⟩)
        obtain ⟨aa, haa⟩ : ∃ z : Option Addr, z = some ⟨b, 0, none⟩ := ⟨_, rfl⟩
        obtain ⟨ab, hab⟩ : ∃ z : Option Addr, z = some ⟨sb, 0, none⟩ := ⟨_, rfl⟩
        rw [← haa] at HIA
        rw [← hab] at HIB
        rw [← hwo, ← haa, ← hab]
        have HAA := Lib.hid haa
        have HAB := Lib.hid hab
        clear hwo haa hab
        have hn64 : (n : Int) ≤ 2 := by have := HN.out; omega
        go_wp2_with fail
        go_loopw [20, 21] (fun sm jv wr => ∃ j : Nat, j ≤ n ∧ sm = .bool (sameTo A B j) ∧ jv = .int .i64 j ∧ Hid (Below wo.heap.size wo wr)) (fun _ jv _ => n - (intOf jv).toNat)
        case atStart => exact ⟨0, Nat.zero_le _, by first | rw [sameTo_zero] | (rw [sameTo_zero]; simp), rfl, Lib.hid (Below.refl _ _)⟩
        case round =>
          obtain ⟨j, hj, rfl, rfl, HBR⟩ := hrel
          by_cases hlt : j < n
          · obtain ⟨x1, hx⟩ : ∃ x, A[j]? = some x := ⟨_, List.getElem?_eq_getElem (by have := HA.out.2; omega)⟩
            obtain ⟨x2, hy⟩ : ∃ x, B[j]? = some x := ⟨_, List.getElem?_eq_getElem (by have := HBB.out.2; omega)⟩
            have HNX := Lib.hid (sameTo_next A B j x1 x2 hx hy)
            have cA : ∃ b1 o1, aa = some ⟨b1, o1, none⟩ ∧ wr.cell? ⟨b1, o1 + j, none⟩ = some (.int .i64 x1) := by
              rw [HAA.out]
              refine ⟨b, 0, rfl, ?_⟩
              rw [Nat.zero_add]
              refine (HN4.out.keep HBR.out).c j _ ?_
              exact iL_at A j x1 hx
            have cB : ∃ b1 o1, ab = some ⟨b1, o1, none⟩ ∧ wr.cell? ⟨b1, o1 + j, none⟩ = some (.int .i64 x2) := by
              rw [HAB.out]
              refine ⟨sb, 0, rfl, ?_⟩
              rw [Nat.zero_add]
              refine (HS4.out.keep HBR.out).c j _ ?_
              exact iL_at B j x2 hy
            obtain ⟨b1, o1, rfl, l0⟩ := cA
            obtain ⟨b2, o2, rfl, m0⟩ := cB
            obtain ⟨bs, hbs⟩ : ∃ z, z = sameTo A B j := ⟨_, rfl⟩
            rw [← hbs]
            rw [← hbs] at HNX
            have k1 : (0 : Int) ≤ (j : Int) := by omega
            have k2 : (j : Int) < (n : Int) := by omega
            have e1 : IntKind.i64.wrap ((j : Int) + 1) = (j : Int) + 1 := IntWalk.i64_in _ (by omega)
            clear hx hy hbs
            cases bs
            · go_wp2_with fail
              go_quiet (fail)
              have HB2' := Lib.hid (HBR.out.trans ((belowN wr.heap.size wr nq).mono HBR.out.size))
              go_wp2_with fail
              go_roundw
              case rel => exact ⟨j + 1, by omega, by rw [HNX.out]; rfl, by go_num, HB2'⟩
              case measure => (simp [intOf]) <;> omega
            · go_wp2_with fail
              go_quiet (fail)
              have HB2' := Lib.hid (HBR.out.trans ((belowN wr.heap.size wr nq).mono HBR.out.size))
              go_wp2_with fail
              go_roundw
              case rel => exact ⟨j + 1, by omega, by rw [HNX.out]; rfl, by go_num, HB2'⟩
              case measure => (simp [intOf]) <;> omega
          · obtain rfl : j = n := by omega
            have HL5 := Lib.hid (HL4.out.keep HBR.out)
            have HN5 := Lib.hid (HN4.out.keep HBR.out)
            have HB5 := Lib.hid (HB4.out.trans (HBR.out.mono HB4.out.size))
            rw [sameTo_all A B j HA.out.2 HBB.out.2]
            obtain ⟨EB, hEB⟩ : ∃ z, z = decide (A = B) := ⟨_, rfl⟩
            rw [← hEB]
            have HEB := Lib.hid hEB
            clear hEB
            cases EB
            · have hkk : k + 2 ≤ M := by
                rcases Nat.lt_or_ge (k + 1) M with h | h
                · omega
                · exfalso
                  obtain rfl : M = k + 1 := by omega
                  have h2 := HFIX.out (by first | rfl | trivial)
                  rw [Nat.add_sub_cancel, ← HA.out.1, ← HBB.out.1] at h2
                  have h4 := HEB.out
                  rw [decide_eq_true h2] at h4
                  cases h4
              go_wp2_with fail
              go_roundw
              case rel => exact ⟨k + 1, q + 1, b, by omega, by omega, by omega, by rw [HAA.out], by rw [HSV.out]; try (show _ = Value.int .i64 (((k + 1 : Nat)) : Int); go_num), by go_num, by go_num, Lib.hid ⟨by rw [HSV.out]; exact HL5.out, by rw [← HA.out.1]; exact HN5.out, HNL.out, HB5.out⟩⟩
              case measure => (simp [intOf]) <;> omega
            · have hkk : M = k + 1 := by
                rcases Nat.lt_or_ge (k + 1) M with h | h
                · exfalso
                  refine HNE2.out k HK1.out h ?_
                  rw [← HA.out.1, ← HBB.out.1]
                  exact of_decide_eq_true HEB.out.symm
                · omega
              have HG6 := Lib.hid (HG2.out.keep HB5.out)
              have HFS := Lib.hid (show svV F O stt M = (o, (svV F O stt k).2) by rw [hkk]; exact HSV.out)
              clear hkk
              have g_0 := HG6.out.c 0 _ rfl
              have g_1 := HG6.out.c 1 _ rfl
              have g_z := HG6.out.fz
              have l_0 := HL5.out.c 0 _ rfl
              have l_1 := HL5.out.c 1 _ rfl
              go_wp2_with fail
              have hs := HG6.out.setRow [.int .i64 ko, .int .i64 o] rfl
              have y0 : ((wr.setCell ⟨g, 0, none⟩ (.int .i64 ko)).setCell ⟨g, 1, none⟩ (.int .i64 o)).cell? ⟨g, 0, none⟩ = some (.int .i64 ko) := hs.c 0 _ rfl
              have y1 : ((wr.setCell ⟨g, 0, none⟩ (.int .i64 ko)).setCell ⟨g, 1, none⟩ (.int .i64 o)).cell? ⟨g, 1, none⟩ = some (.int .i64 o) := hs.c 1 _ rfl
              (try simp only [Exit.inBlock, Exit.then])
              refine bodyPost_ret (by simp [results, Tryd.results16, go_sem, y0, y1]; try rfl) rfl ?_
              rw [HFS.out]
              exact ⟨_, _, _, rfl, ⟨fun h => absurd rfl h, fun _ => ⟨rfl, rfl, rfl⟩⟩, set_below (HB2.out.trans (HB5.out.mono HB2.out.size)) HWG.out [.int .i64 ko, .int .i64 o]⟩
      · have HSV := Lib.hid (show svV F O stt (k + 1) = (o, k + 1) by
          show (if k = 0 ∨ O (seqS F stt k) ≠ (svV F O stt k).1 then _ else _) = _
          rw [if_pos, HO.out]
          exact .inr (by rw [← HO.out, ← HLN.out]; exact hch0))
        have bch : (o == ln) = false := beq_eq_false_iff_ne.2 hch0
        go_upto_region 13 with fail
        obtain ⟨V4, hV4⟩ : ∃ v, v = V3.setCells l 0 [.int .i64 ko, .int .i64 o] := ⟨_, rfl⟩
        have HL4 := Lib.hid (show RowAt V4 l [.int .i64 ko, .int .i64 o] by rw [hV4]; exact HL3.out.setRow [.int .i64 ko, .int .i64 o] rfl)
        have HN4 := Lib.hid (show RowAt V4 b (flat iL A) by rw [hV4]; exact HN3.out.other (fun h => HNL.out h.symm) [.int .i64 ko, .int .i64 o])
        have HS4 := Lib.hid (show RowAt V4 sb (flat iL B) by rw [hV4]; exact HS3.out.other (fun h => HSL.out h.symm) [.int .i64 ko, .int .i64 o])
        have HB4 := Lib.hid (show Below w2.heap.size w2 V4 by rw [hV4]; exact set_below HB3'.out HWL.out [.int .i64 ko, .int .i64 o])
        have hch : ((V3.setCell ⟨l, 0, none⟩ (.int .i64 ko)).setCell ⟨l, 1, none⟩ (.int .i64 o)) = V4 := hV4.symm
        (try simp only [hch])
        (try rw [hch])
        clear hV4 hch t_0 t_1 l_0 l_1 l_z
        obtain ⟨wo, hwo⟩ : ∃ x : World, x = V4 := ⟨_, rfl⟩
        rw [← hwo] at HL4 HN4 HS4 HB4
        have HIA := Lib.hid (show InS wo (some ⟨b, 0, none⟩) n 1 (flat iL A) from ⟨by rw [flat_len iL_len, HA.out.2], by rcases HN.out with h | h <;> rw [h] <;> decide, .inr ⟨b, 0, rfl, HN4.out.lt, fun j u hu => by rw [Nat.zero_add]; exact HN4.out.c j u hu⟩⟩)
        have HIB := Lib.hid (show InS wo (some ⟨sb, 0, none⟩) n 1 (flat iL B) from ⟨by rw [flat_len iL_len, HBB.out.2], by rcases HN.out with h | h <;> rw [h] <;> decide, .inr ⟨sb, 0, rfl, HS4.out.lt, fun j u hu => by rw [Nat.zero_add]; exact HS4.out.c j u hu⟩⟩)
        obtain ⟨aa, haa⟩ : ∃ z : Option Addr, z = some ⟨b, 0, none⟩ := ⟨_, rfl⟩
        obtain ⟨ab, hab⟩ : ∃ z : Option Addr, z = some ⟨sb, 0, none⟩ := ⟨_, rfl⟩
        rw [← haa] at HIA
        rw [← hab] at HIB
        rw [← hwo, ← haa, ← hab]
        have HAA := Lib.hid haa
        have HAB := Lib.hid hab
        clear hwo haa hab
        have hn64 : (n : Int) ≤ 2 := by have := HN.out; omega
        go_wp2_with fail
        go_loopw [20, 21] (fun sm jv wr => ∃ j : Nat, j ≤ n ∧ sm = .bool (sameTo A B j) ∧ jv = .int .i64 j ∧ Hid (Below wo.heap.size wo wr)) (fun _ jv _ => n - (intOf jv).toNat)
        case atStart => exact ⟨0, Nat.zero_le _, by first | rw [sameTo_zero] | (rw [sameTo_zero]; simp), rfl, Lib.hid (Below.refl _ _)⟩
        case round =>
          obtain ⟨j, hj, rfl, rfl, HBR⟩ := hrel
          by_cases hlt : j < n
          · obtain ⟨x1, hx⟩ : ∃ x, A[j]? = some x := ⟨_, List.getElem?_eq_getElem (by have := HA.out.2; omega)⟩
            obtain ⟨x2, hy⟩ : ∃ x, B[j]? = some x := ⟨_, List.getElem?_eq_getElem (by have := HBB.out.2; omega)⟩
            have HNX := Lib.hid (sameTo_next A B j x1 x2 hx hy)
            have cA : ∃ b1 o1, aa = some ⟨b1, o1, none⟩ ∧ wr.cell? ⟨b1, o1 + j, none⟩ = some (.int .i64 x1) := by
              rw [HAA.out]
              refine ⟨b, 0, rfl, ?_⟩
              rw [Nat.zero_add]
              refine (HN4.out.keep HBR.out).c j _ ?_
              exact iL_at A j x1 hx
            have cB : ∃ b1 o1, ab = some ⟨b1, o1, none⟩ ∧ wr.cell? ⟨b1, o1 + j, none⟩ = some (.int .i64 x2) := by
              rw [HAB.out]
              refine ⟨sb, 0, rfl, ?_⟩
              rw [Nat.zero_add]
              refine (HS4.out.keep HBR.out).c j _ ?_
              exact iL_at B j x2 hy
            obtain ⟨b1, o1, rfl, l0⟩ := cA
            obtain ⟨b2, o2, rfl, m0⟩ := cB
            obtain ⟨bs, hbs⟩ : ∃ z, z = sameTo A B j := ⟨_, rfl⟩
            rw [← hbs]
            rw [← hbs] at HNX
            have k1 : (0 : Int) ≤ (j : Int) := by omega
            have k2 : (j : Int) < (n : Int) := by omega
            have e1 : IntKind.i64.wrap ((j : Int) + 1) = (j : Int) + 1 := IntWalk.i64_in _ (by omega)
            clear hx hy hbs
            cases bs
            · go_wp2_with fail
              go_quiet (fail)
              have HB2' := Lib.hid (HBR.out.trans ((belowN wr.heap.size wr nq).mono HBR.out.size))
              go_wp2_with fail
              go_roundw
              case rel => exact ⟨j + 1, by omega, by rw [HNX.out]; rfl, by go_num, HB2'⟩
              case measure => (simp [intOf]) <;> omega
            · go_wp2_with fail
              go_quiet (fail)
              have HB2' := Lib.hid (HBR.out.trans ((belowN wr.heap.size wr nq).mono HBR.out.size))
              go_wp2_with fail
              go_roundw
              case rel => exact ⟨j + 1, by omega, by rw [HNX.out]; rfl, by go_num, HB2'⟩
              case measure => (simp [intOf]) <;> omega
          · obtain rfl : j = n := by omega
            have HL5 := Lib.hid (HL4.out.keep HBR.out)
            have HN5 := Lib.hid (HN4.out.keep HBR.out)
            have HB5 := Lib.hid (HB4.out.trans (HBR.out.mono HB4.out.size))
            rw [sameTo_all A B j HA.out.2 HBB.out.2]
            obtain ⟨EB, hEB⟩ : ∃ z, z = decide (A = B) := ⟨_, rfl⟩
            rw [← hEB]
            have HEB := Lib.hid hEB
            clear hEB
            cases EB
            · have hkk : k + 2 ≤ M := by
                rcases Nat.lt_or_ge (k + 1) M with h | h
                · omega
                · exfalso
                  obtain rfl : M = k + 1 := by omega
                  have h2 := HFIX.out (by first | rfl | trivial)
                  rw [Nat.add_sub_cancel, ← HA.out.1, ← HBB.out.1] at h2
                  have h4 := HEB.out
                  rw [decide_eq_true h2] at h4
                  cases h4
              go_wp2_with fail
              go_roundw
              case rel => exact ⟨k + 1, 1, b, by omega, by omega, by omega, by rw [HAA.out], by rw [HSV.out]; try (show _ = Value.int .i64 (((k + 1 : Nat)) : Int); go_num), rfl, by go_num, Lib.hid ⟨by rw [HSV.out]; exact HL5.out, by rw [← HA.out.1]; exact HN5.out, HNL.out, HB5.out⟩⟩
              case measure => (simp [intOf]) <;> omega
            · have hkk : M = k + 1 := by
                rcases Nat.lt_or_ge (k + 1) M with h | h
                · exfalso
                  refine HNE2.out k HK1.out h ?_
                  rw [← HA.out.1, ← HBB.out.1]
                  exact of_decide_eq_true HEB.out.symm
                · omega
              have HG6 := Lib.hid (HG2.out.keep HB5.out)
              have HFS := Lib.hid (show svV F O stt M = (o, k + 1) by rw [hkk]; exact HSV.out)
              clear hkk
              have g_0 := HG6.out.c 0 _ rfl
              have g_1 := HG6.out.c 1 _ rfl
              have g_z := HG6.out.fz
              have l_0 := HL5.out.c 0 _ rfl
              have l_1 := HL5.out.c 1 _ rfl
              go_wp2_with fail
              have hs := HG6.out.setRow [.int .i64 ko, .int .i64 o] rfl
              have y0 : ((wr.setCell ⟨g, 0, none⟩ (.int .i64 ko)).setCell ⟨g, 1, none⟩ (.int .i64 o)).cell? ⟨g, 0, none⟩ = some (.int .i64 ko) := hs.c 0 _ rfl
              have y1 : ((wr.setCell ⟨g, 0, none⟩ (.int .i64 ko)).setCell ⟨g, 1, none⟩ (.int .i64 o)).cell? ⟨g, 1, none⟩ = some (.int .i64 o) := hs.c 1 _ rfl
              (try simp only [Exit.inBlock, Exit.then])
              refine bodyPost_ret (by simp [results, Tryd.results16, go_sem, y0, y1]; try rfl) rfl ?_
              rw [HFS.out]
              exact ⟨_, _, _, rfl, ⟨fun h => absurd rfl h, fun _ => ⟨rfl, rfl, rfl⟩⟩, set_below (HB2.out.trans (HB5.out.mono HB2.out.size)) HWG.out [.int .i64 ko, .int .i64 o]⟩
  · clear RL B3 sz3 hA
    go_upto_region 2 with fail
    rw [← hW3]
    try rw [← hl]
    clear hW3 hl
    have e1 : (E == 0) = false := by rw [beq_eq_false_iff_ne]; exact hE0
    have e2 : (E != 0) = true := by rw [bne, e1]; rfl
    have g_0 := HG3.out.c 0 _ rfl
    have g_1 := HG3.out.c 1 _ rfl
    have g_z := HG3.out.fz
    go_wp2_with fail
    have hs := HG3.out.setRow [.int .i64 0, .int .i64 0] rfl
    have hB := set_below HB3.out HWG.out [.int .i64 0, .int .i64 0]
    have y0 : ((W3.setCell ⟨g, 0, none⟩ (.int .i64 0)).setCell ⟨g, 1, none⟩ (.int .i64 0)).cell? ⟨g, 0, none⟩ = some (.int .i64 0) := hs.c 0 _ rfl
    have y1 : ((W3.setCell ⟨g, 0, none⟩ (.int .i64 0)).setCell ⟨g, 1, none⟩ (.int .i64 0)).cell? ⟨g, 1, none⟩ = some (.int .i64 0) := hs.c 1 _ rfl
    (try simp only [Exit.inBlock, Exit.then])
    refine bodyPost_ret (by simp [results, Tryd.results16, go_sem, y0, y1]; try rfl) rfl ?_
    exact ⟨_, _, _, rfl, ⟨fun _ => ⟨rfl, rfl, rfl⟩, fun h => absurd h hE0⟩, hB⟩
end Go.Proofs.YtmhfkdnblemfdaaDoor
