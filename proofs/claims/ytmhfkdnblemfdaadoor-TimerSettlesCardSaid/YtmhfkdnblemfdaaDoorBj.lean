/- Contract of timer.areValid. -/
import Derived.Test.YtmhfkdnblemfdaaDoorBi
import Derived.Deep.AppendLies
import Derived.Deep.RegionHeld3
namespace Go.Proofs.YtmhfkdnblemfdaaDoor
open Go.RowKit Go.Shelf Go.Maps Go.WideMaps

theorem infoPrm : (Tryd.prog.info? 93).map (fun i => (i.zero, i.size, i.bytes)) = some (some (.agg #[.string ⟨#[]⟩, .int .i64 0]), 2, 24) := by kernel_rfl
def zipP (pl : List BndD) (ps : List Int) : List PrmD := List.zipWith (fun x v => ⟨x.nm, v⟩) pl ps
theorem zipP_at {pl : List BndD} {ps : List Int} {k : Nat} {x : BndD} {v : Int} (hx : pl[k]? = some x) (hv : ps[k]? = some v) : (zipP pl ps)[k]? = some ⟨x.nm, v⟩ := by
  unfold zipP
  rw [List.getElem?_zipWith, hx, hv]
theorem zipP_len (pl : List BndD) (ps : List Int) (h : ps.length = pl.length) : (zipP pl ps).length = pl.length := by
  unfold zipP
  rw [List.length_zipWith, h, Nat.min_self]
theorem flat_prm (xs : List PrmD) (j : Nat) (x : PrmD) (h : xs[j]? = some x) : flat prmL (xs.take (j + 1)) = flat prmL (xs.take j) ++ [.string x.nm, .int .i64 x.v] := by
  rw [List.take_add_one, h, flat_append]
  simp [flat, prmL]
theorem below_al {W w : World} (h : Below W.heap.size W w) (o : Obj) : Below W.heap.size W (w.alloc o) := h.alloc h.size o
theorem below_dr {W w : World} (h : Below W.heap.size W w) : Below W.heap.size W w.drew := h.trans ⟨rfl, rfl, rfl, Nat.le_refl _, fun _ _ => rfl⟩
theorem grown_as {w X w5 : World} {B T sz n : Nat} {v : Value} {L : List Value} (_ : w.ownsRow B T sz v n L) (hg : X.grownBy w5 v.ownBlock) : X.grownBy w5 v.ownBlock := hg
theorem bel_at {W X w5 : World} {o : Option Nat} (_ : X.grownBy w5 o) (hb : Below W.heap.size W X) : Below W.heap.size W X := hb
abbrev C2 (t pb po : Nat) (bn : ByteArray) (y : Int) (w' : World) : Prop := w'.cell? ⟨t, 0, none⟩ = some (.string bn) ∧ w'.cell? ⟨pb, po, none⟩ = some (.int .i64 y)
theorem c2_of {W w' : World} {t pb po : Nat} {bn : ByteArray} {y : Int} (h : C2 t pb po bn y W) (hb : Below W.heap.size W w') : C2 t pb po bn y w' :=
  ⟨(hb.cell (p := ⟨t, 0, none⟩) (World.block_lt_of_cell? _ _ h.1)).trans h.1, (hb.cell (p := ⟨pb, po, none⟩) (World.block_lt_of_cell? _ _ h.2)).trans h.2⟩
theorem c2_grown {W w' : World} {t pb po : Nat} {bn : ByteArray} {y : Int} {o : Option Nat} (h : C2 t pb po bn y W) (hg : W.grownBy w' o) (h1 : some t ≠ o) (h2 : some pb ≠ o) : C2 t pb po bn y w' :=
  ⟨(hg.cell_far ⟨t, 0, none⟩ (World.block_lt_of_cell? _ _ h.1) h1).trans h.1, (hg.cell_far ⟨pb, po, none⟩ (World.block_lt_of_cell? _ _ h.2) h2).trans h.2⟩
theorem zipP_mem {pl : List BndD} {ps : List Int} {q : PrmD} (h : q ∈ zipP pl ps) : (∃ x ∈ pl, x.nm = q.nm) ∧ q.v ∈ ps := by
  unfold zipP at h
  rw [List.mem_iff_getElem?] at h
  obtain ⟨i, hi⟩ := h
  rw [List.getElem?_zipWith] at hi
  cases hx : pl[i]? with
  | none => rw [hx] at hi; simp at hi
  | some x =>
    cases hv : ps[i]? with
    | none => rw [hx, hv] at hi; simp at hi
    | some v =>
      rw [hx, hv] at hi
      obtain rfl := (Option.some.inj hi).symm
      exact ⟨⟨x, List.mem_of_getElem? hx, rfl⟩, List.mem_of_getElem? hv⟩
set_option maxHeartbeats 8000000 in
set_option maxRecDepth 100000 in
theorem valid_any (s ro : ByteArray) (rm rs : Int) (pl : List BndD) (il : List PortD) (ag : List Int → Bool) (HF : FindOk s ro rm rs pl il) (HA : AgreeOk s pl ag) (a1 : Option Addr) (c1 : Nat) (a2 : Option Addr) (n2 c2 ob : Nat) (pa : Option Addr) (pc : Nat) (ps : List Int) (p20 : pl.length ≤ 100) (hwf : ∀ v ∈ ps, (Lit.int .i64 v).wf = true) (psz : ∀ x ∈ pl, x.nm.size ≤ maxLen) (w : World) (hm : MaxAt w) (hp : InS w a1 pl.length 4 (flat bndL pl)) (hq : InS w pa ps.length 1 (flat iL ps)) :
    Calls Tryd.prog 41 #[.agg #[.string s, .slice a1 pl.length c1, .slice a2 n2 c2, .slice (some ⟨ob, 0, none⟩) 1 1, .int .i64 rs, .int .i64 rm], .slice pa ps.length pc] w fun e w' => e = .returned (.bool (decide (ps.length = pl.length) && decide (prmE pl (zipP pl ps) ag = 0))) ∧ Below w.heap.size w w' := by
  have HP := Lib.hid hp
  have HQ := Lib.hid hq
  have KF := Lib.hid HF
  have KA := Lib.hid HA
  have HMX := Lib.hid hm
  have HWF := Lib.hid hwf
  have PSZ := Lib.hid psz
  obtain ⟨i0, hif, hz0, hz1, hz2⟩ := info_parts infoPrm
  have HIF := Lib.hid hif
  have HZ0 := Lib.hid hz0
  have HZ1 := Lib.hid hz1
  have HZ2 := Lib.hid hz2
  obtain ⟨N, hN⟩ : ∃ N, N = pl.length := ⟨_, rfl⟩
  obtain ⟨M, hM⟩ : ∃ M, M = ps.length := ⟨_, rfl⟩
  rw [← hN, ← hM]
  have HN := Lib.hid hN
  have HM := Lib.hid hM
  have n100 : N ≤ 100 := by omega
  have m63 : M ≤ 9223372036854775807 := by rw [hM]; exact hq.2.1
  clear hN hM HF HA hm psz hif hz0 hz1 hz2 p20 hp hq hwf
  obtain ⟨W1, g, hW1, hg, RG, B1, sz1⟩ := box1 w #[.string s, .slice a1 N c1, .slice a2 n2 c2, .slice (some ⟨ob, 0, none⟩) 1 1, .int .i64 rs, .int .i64 rm] 56
  have HG1 := Lib.hid RG
  have HB1 := Lib.hid B1
  clear RG B1 sz1
  go_enter Tryd.func41, Tryd.ntmps41
  go_upto_region 1 with fail
  rw [← hW1]
  try rw [← hg]
  clear hW1 hg
  have g_0 := HG1.out.c 0 _ rfl
  have g_1 := HG1.out.c 1 _ rfl
  by_cases hmn : M = N
  · obtain ⟨w1, hw1⟩ : ∃ v, v = W1 := ⟨_, rfl⟩
    have h5 : decide ((M : Int) = (N : Int)) = true := by simp [hmn]
    have h6 : ((M : Int) == (N : Int)) = true := by simp [hmn]
    go_wp2_with fail
    clear h5 h6 g_0 g_1 hw1
    go_loopw [5, 19] (fun v i wr => ∃ j : Nat, j ≤ N ∧ i = .int .i64 j ∧ Hid (RowAt wr g [.string s, .slice a1 N c1, .slice a2 n2 c2, .slice (some ⟨ob, 0, none⟩) 1 1, .int .i64 rs, .int .i64 rm] ∧ wr.ownsRow W1.heap.size 93 2 v j (flat prmL ((zipP pl ps).take j)) ∧ Below w.heap.size w wr ∧ W1.heap.size ≤ wr.heap.size)) (fun _ i _ => N - (intOf i).toNat)
    case atStart => exact ⟨0, Nat.zero_le _, rfl, Lib.hid ⟨HG1.out, World.ownsRow_nil _ _ _ _, HB1.out, Nat.le_refl _⟩⟩
    case round =>
      obtain ⟨j, hj, rfl, hH⟩ := hrel
      have HG := Lib.hid hH.out.1
      have HV := Lib.hid hH.out.2.1
      have HB := Lib.hid hH.out.2.2.1
      have HS := Lib.hid hH.out.2.2.2
      clear hH
      by_cases hlt : j < N
      · obtain ⟨lb, lo, rfl, hll, hlc⟩ := (HP.out.keep HB.out).at bndL_len (by have := HN.out; omega)
        obtain ⟨pb, po, rfl, hpl, hpc⟩ := (HQ.out.keep HB.out).at iL_len (by have := HM.out; omega)
        obtain ⟨x, hx⟩ : ∃ x, pl[j]? = some x := ⟨_, List.getElem?_eq_getElem (by have := HN.out; omega)⟩
        obtain ⟨y, hy⟩ : ∃ y, ps[j]? = some y := ⟨_, List.getElem?_eq_getElem (by have := HM.out; omega)⟩
        have l0 := hlc j _ hx 0 _ rfl
        have l1 := hlc j _ hx 1 _ rfl
        have l2 := hlc j _ hx 2 _ rfl
        have l3 := hlc j _ hx 3 _ rfl
        rw [Nat.add_zero] at l0
        have pblt := hpl
        have HZJ := Lib.hid (zipP_at hx hy)
        have hq0 := hpc j _ hy 0 _ rfl
        simp only [Nat.mul_one, Nat.add_zero] at hq0
        obtain ⟨bn, bl, bh, bd⟩ := x
        have k1 : (0 : Int) ≤ (j : Int) := by omega
        have k2 : (j : Int) < (M : Int) := by omega
        obtain ⟨W4, t, hW4, ht, RT, B4, sz4⟩ := box1 wr #[.string bn, .int .i64 bl, .int .i64 bh, .int .i64 bd] 91
        have HT := Lib.hid RT
        have HG4 := Lib.hid (HG.out.keep B4)
        have HV4 := Lib.hid (own_keep HV.out B4)
        have HB4 := Lib.hid (HB.out.trans (B4.mono HB.out.size))
        have HS4 := Lib.hid (Nat.le_trans HS.out B4.size)
        have q0 : W4.cell? ⟨pb, po + j, none⟩ = some (.int .i64 y) := (B4.cell (p := ⟨pb, po + j, none⟩) pblt).trans hq0
        have HTV := Lib.hid (fun q (e : Value.ownBlock _ = some q) => show q ≠ t by have := (HV.out.lt q e).2; omega)
        have pblow : pb < w.heap.size := (ins_low HQ.out).resolve_left (by have := HM.out; omega) pb po rfl
        have HPV := Lib.hid (fun q (e : Value.ownBlock _ = some q) => show q ≠ pb by have := (HV.out.lt q e).1; have := HB1.out.size; omega)
        clear pblow
        clear hx hy hlc hll RT B4 sz4 hpl hpc hq0 pblt
        go_upto_region 7 with fail
        rw [← hW4]
        try rw [← ht]
        clear hW4 ht
        have t_0 := HT.out.c 0 _ rfl
        have t_1 := HT.out.c 1 _ rfl
        have t_2 := HT.out.c 2 _ rfl
        have t_3 := HT.out.c 3 _ rfl
        have hif := HIF.out
        have hz0 := HZ0.out
        have hz1 := HZ1.out
        have hz2 := HZ2.out
        have hj100 : j < 100 := by omega
        have HC2 := Lib.hid (show C2 t pb (po + j) bn y W4 from ⟨t_0, q0⟩)
        have vlt := fun q e => (HV4.out.lt q e).1
        have glt := HG1.out.lt
        go_region_held3 (fun w' => w'.cell? ⟨t, 0, none⟩ = some (.string bn) ∧ w'.cell? ⟨pb, po + j, none⟩ = some (.int .i64 y))
          (first | assumption | (exact c2_of HC2.out (by repeat (first | exact Below.refl _ _ | apply below_al | apply below_dr))) | go_keep)
          (first | (refine step_append_lies _ rfl _ _ _ rfl W1.heap.size 93 i0 (.agg #[.string ⟨#[]⟩, .int .i64 0]) 2 24 Tryd.underlying89 hif hz0 hz1 hz2 rfl (by decide) _ _ _ rfl (own_keep HV4.out (by repeat (first | exact Below.refl _ _ | apply below_al | apply below_dr))) ⟨_, 0, none⟩ 1 1 [.string bn, .int .i64 y] rfl rfl (by intro q u hu; rw [add_plain, Nat.zero_add]; first | exact (row_fresh _ _ _).c q u hu | exact ((row_fresh _ _ _).keep (below_dr (Below.refl _ _))).c q u hu) (by intro u hu; simp at hu; rcases hu with rfl | rfl <;> rfl) (by decide) (by unfold maxLen; omega) (by omega) (Nat.le_trans HS4.out (Below.size (by repeat (first | exact Below.refl _ _ | apply below_al | apply below_dr)))) _ rfl ?_; intro g5 cap5 w5 hown hgrow hat hglt; have bel := bel_at (W := W4) hgrow (by repeat (first | exact Below.refl _ _ | apply below_al | apply below_dr)); have s5 : C2 t pb (po + j) bn y w5 := c2_grown (c2_of HC2.out bel) hgrow (fun e => HTV.out t e.symm rfl) (fun e => HPV.out pb e.symm rfl)) | (fail))
        rename_i hHeld
        clear hHeld
        have hgr := grown_as HV4.out hgrow
        have G5 := Lib.hid (row_grown (HG4.out.keep bel) hgr (fun e => by have := vlt g e.symm; omega))
        have B5 := Lib.hid ((HB4.out.trans (bel.mono HB4.out.size)).grown hgr (by have := HB4.out.size; have := bel.size; omega) (fun q e => Nat.le_trans HB1.out.size (vlt q e)))
        have S5 := Lib.hid (show W1.heap.size ≤ w5.heap.size from Nat.le_trans (Nat.le_trans HS4.out bel.size) hgr.size)
        have V5 := Lib.hid (show w5.ownsRow W1.heap.size 93 2 (.slice (some ⟨g5, 0, none⟩) (j + 1) cap5) (j + 1) (flat prmL ((zipP pl ps).take (j + 1))) by rw [flat_prm _ _ _ HZJ.out]; exact hown)
        clear hown hgrow hgr hat hglt bel s5 vlt glt hif hz0 hz1 hz2 t_0 t_1 t_2 t_3
        go_wp2_with fail
        go_roundw
        case rel => exact ⟨j + 1, by omega, by go_num, Lib.hid ⟨G5.out, V5.out, B5.out, S5.out⟩⟩
        case measure => (simp [intOf]) <;> omega
      · obtain rfl : j = N := by omega
        have HZL := Lib.hid (show (zipP pl ps).length = j by rw [zipP_len pl ps (by rw [← HM.out, ← HN.out]; exact hmn)]; exact HN.out.symm)
        obtain ⟨a7, c7, rfl, i7⟩ := ins_own HV.out
        obtain ⟨qs, hqs⟩ : ∃ q, q = zipP pl ps := ⟨_, rfl⟩
        have HQS := Lib.hid hqs
        have HIN := Lib.hid (show InS wr a7 qs.length 2 (flat prmL qs) by
          rw [hqs, HZL.out]
          rw [List.take_of_length_le (by rw [HZL.out]; exact Nat.le_refl _)] at i7
          exact i7)
        have HQL := Lib.hid (show qs.length = j by rw [hqs]; exact HZL.out)
        have kp := params_any s ro rm rs pl il ag KF.out KA.out a7 c7 qs (by rw [HQL.out]; omega) (by rw [← HN.out]; omega) (fun q hq => by
          rw [hqs] at hq
          obtain ⟨⟨x, hx, e⟩, hv⟩ := zipP_mem hq
          exact ⟨by rw [← e]; exact PSZ.out x hx, HWF.out _ hv⟩) PSZ.out wr (HMX.out.keep HB.out) HIN.out
        rw [HQL.out] at kp
        have KP := Lib.hid kp
        clear kp i7
        have h_0 := HG.out.c 0 _ rfl
        rw [← hqs]
        clear hqs
        go_wp2_with fail
        refine KP.out.mono ?_
        rintro e w8 ⟨vx, rfl, hb⟩
        have HB8 := Lib.hid (HB.out.trans (hb.mono HB.out.size))
        clear hb h_0
        obtain ⟨E, hE⟩ : ∃ z, z = prmE pl qs ag := ⟨_, rfl⟩
        rw [← hE]
        have HEE := Lib.hid hE
        clear hE
        go_wp2_with fail
        go_ret
        have hd : (decide (M = j) && decide (prmE pl (zipP pl ps) ag = 0)) = (E == 0) := by rw [decide_eq_true hmn, Bool.true_and, ← HQS.out, ← HEE.out]; rfl
        exact ⟨by rw [hd]; rfl, HB8.out⟩
  · have h5 : decide ((M : Int) = (N : Int)) = false := by rw [decide_eq_false_iff_not]; omega
    have h6 : ((M : Int) == (N : Int)) = false := by rw [beq_eq_false_iff_ne]; omega
    have h7 : decide (M = N) = false := by simp [hmn]
    go_wp2_with fail
    go_ret
    exact ⟨by first | rfl | (rw [h7]; rfl), HB1.out⟩
end Go.Proofs.YtmhfkdnblemfdaaDoor
