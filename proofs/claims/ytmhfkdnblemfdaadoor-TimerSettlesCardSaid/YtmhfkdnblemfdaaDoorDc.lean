/- A relay's step where dt, the number of the inputs or a type is wrong. -/
import Derived.Test.YtmhfkdnblemfdaaDoorDb
namespace Go.Proofs.YtmhfkdnblemfdaaDoor
open Go.RowKit Go.Shelf

set_option linter.unusedVariables false
set_option linter.unusedSimpArgs false
set_option maxHeartbeats 4000000 in
set_option maxRecDepth 100000 in
theorem step_bad (w5 : World) (rb : Nat) (s : ByteArray) (a1 : Option Addr) (N c1 : Nat) (a2 : Option Addr) (c2 ob : Nat) (rm : Int) (st n : Nat) (pa : Option Addr) (P pc : Nat) (il : List PortD) (K : Nat) (ia : Option Addr) (ic : Nat) (dt : Int) (k63 : K ≤ 9223372036854775807) (w : World) (hr : RowAt w rb [.string s, .slice a1 N c1, .slice a2 il.length c2, .slice (some ⟨ob, 0, none⟩) 1 1, .int .i64 (st : Int), .int .i64 rm, .slice pa P pc, .slice (some ⟨w5.heap.size, 0, none⟩) n n]) (hbad : dt < 1 ∨ 86400 < dt ∨ K ≠ il.length) :
    Calls Tryd.prog 22 #[.pointer (some ⟨rb, 0, none⟩), .slice ia K ic, .int .i64 dt] w fun e w' => e = .returned (.tuple #[.agg #[.int .i64 0, .int .i64 0], .int .i64 1]) ∧ Below w.heap.size w w' := by
  have HR := Lib.hid hr
  obtain ⟨M, hM⟩ : ∃ M, M = il.length := ⟨_, rfl⟩
  rw [← hM] at HR hbad
  clear hr hM
  obtain ⟨W1, g, hW1, hg, RG, B1, sz1⟩ := box1 w #[.int .i64 0, .int .i64 0] 26
  have HG1 := Lib.hid RG
  have HB1 := Lib.hid B1
  have HWG := Lib.hid (show w.heap.size ≤ g by omega)
  have HR1 := Lib.hid (HR.out.keep B1)
  clear RG B1 sz1
  by_cases h1 : dt < 1
  · go_enter Tryd.func22, Tryd.ntmps22
    go_upto_region 1 with fail
    rw [← hW1]
    try rw [← hg]
    clear hW1 hg
    have r_0 := HR1.out.c 0 _ rfl
    have r_1 := HR1.out.c 1 _ rfl
    have r_2 := HR1.out.c 2 _ rfl
    have r_3 := HR1.out.c 3 _ rfl
    have r_4 := HR1.out.c 4 _ rfl
    have r_5 := HR1.out.c 5 _ rfl
    have r_6 := HR1.out.c 6 _ rfl
    have r_7 := HR1.out.c 7 _ rfl
    have g_0 := HG1.out.c 0 _ rfl
    have g_1 := HG1.out.c 1 _ rfl
    have g_z := HG1.out.fz
    go_wp2_with fail
    have hs := HG1.out.setRow [.int .i64 0, .int .i64 0] rfl
    have hB := set_below HB1.out HWG.out [.int .i64 0, .int .i64 0]
    have y0 : ((W1.setCell ⟨g, 0, none⟩ (.int .i64 0)).setCell ⟨g, 1, none⟩ (.int .i64 0)).cell? ⟨g, 0, none⟩ = some (.int .i64 0) := hs.c 0 _ rfl
    have y1 : ((W1.setCell ⟨g, 0, none⟩ (.int .i64 0)).setCell ⟨g, 1, none⟩ (.int .i64 0)).cell? ⟨g, 1, none⟩ = some (.int .i64 0) := hs.c 1 _ rfl
    (try simp only [Exit.inBlock, Exit.then])
    refine bodyPost_ret (by simp [results, Tryd.results22, go_sem, y0, y1]; try rfl) rfl ?_
    exact ⟨rfl, hB⟩
  · by_cases h2 : 86400 < dt
    · go_enter Tryd.func22, Tryd.ntmps22
      go_upto_region 1 with fail
      rw [← hW1]
      try rw [← hg]
      clear hW1 hg
      have r_0 := HR1.out.c 0 _ rfl
      have r_1 := HR1.out.c 1 _ rfl
      have r_2 := HR1.out.c 2 _ rfl
      have r_3 := HR1.out.c 3 _ rfl
      have r_4 := HR1.out.c 4 _ rfl
      have r_5 := HR1.out.c 5 _ rfl
      have r_6 := HR1.out.c 6 _ rfl
      have r_7 := HR1.out.c 7 _ rfl
      have g_0 := HG1.out.c 0 _ rfl
      have g_1 := HG1.out.c 1 _ rfl
      have g_z := HG1.out.fz
      go_wp2_with fail
      have hs := HG1.out.setRow [.int .i64 0, .int .i64 0] rfl
      have hB := set_below HB1.out HWG.out [.int .i64 0, .int .i64 0]
      have y0 : ((W1.setCell ⟨g, 0, none⟩ (.int .i64 0)).setCell ⟨g, 1, none⟩ (.int .i64 0)).cell? ⟨g, 0, none⟩ = some (.int .i64 0) := hs.c 0 _ rfl
      have y1 : ((W1.setCell ⟨g, 0, none⟩ (.int .i64 0)).setCell ⟨g, 1, none⟩ (.int .i64 0)).cell? ⟨g, 1, none⟩ = some (.int .i64 0) := hs.c 1 _ rfl
      (try simp only [Exit.inBlock, Exit.then])
      refine bodyPost_ret (by simp [results, Tryd.results22, go_sem, y0, y1]; try rfl) rfl ?_
      exact ⟨rfl, hB⟩
    · have hne : ¬ (K : Int) = (M : Int) := by rcases hbad with h | h | h <;> omega
      clear hbad
      go_enter Tryd.func22, Tryd.ntmps22
      go_upto_region 1 with fail
      rw [← hW1]
      try rw [← hg]
      clear hW1 hg
      have r_0 := HR1.out.c 0 _ rfl
      have r_1 := HR1.out.c 1 _ rfl
      have r_2 := HR1.out.c 2 _ rfl
      have r_3 := HR1.out.c 3 _ rfl
      have r_4 := HR1.out.c 4 _ rfl
      have r_5 := HR1.out.c 5 _ rfl
      have r_6 := HR1.out.c 6 _ rfl
      have r_7 := HR1.out.c 7 _ rfl
      have g_0 := HG1.out.c 0 _ rfl
      have g_1 := HG1.out.c 1 _ rfl
      have g_z := HG1.out.fz
      go_wp2_with fail
      have hs := HG1.out.setRow [.int .i64 0, .int .i64 0] rfl
      have hB := set_below HB1.out HWG.out [.int .i64 0, .int .i64 0]
      have y0 : ((W1.setCell ⟨g, 0, none⟩ (.int .i64 0)).setCell ⟨g, 1, none⟩ (.int .i64 0)).cell? ⟨g, 0, none⟩ = some (.int .i64 0) := hs.c 0 _ rfl
      have y1 : ((W1.setCell ⟨g, 0, none⟩ (.int .i64 0)).setCell ⟨g, 1, none⟩ (.int .i64 0)).cell? ⟨g, 1, none⟩ = some (.int .i64 0) := hs.c 1 _ rfl
      (try simp only [Exit.inBlock, Exit.then])
      refine bodyPost_ret (by simp [results, Tryd.results22, go_sem, y0, y1]; try rfl) rfl ?_
      exact ⟨rfl, hB⟩
set_option maxHeartbeats 8000000 in
set_option maxRecDepth 100000 in
theorem step_type (w5 : World) (rb : Nat) (s : ByteArray) (a1 : Option Addr) (N c1 : Nat) (a2 : Option Addr) (c2 ob : Nat) (rm : Int) (st n : Nat) (pa : Option Addr) (P pc : Nat) (il : List PortD) (K : Int) (vs : List ValD) (ia : Option Addr) (ic : Nat) (dt : Int)
    (hd1 : 1 ≤ dt) (hd2 : dt ≤ 86400) (hlen : vs.length = il.length) (h0 : 0 < il.length) (h10 : il.length ≤ 10) (hk : ∀ p ∈ il, KindOk p.ty K) (hbad : ∃ v ∈ vs, fitsB v.k v.n K = false)
    (hp : InS w5 a2 il.length 2 (flat portL il)) (hin : InS w5 ia vs.length 2 (flat valL vs))
    (w : World) (hb : Below w5.heap.size w5 w) (hr : RowAt w rb [.string s, .slice a1 N c1, .slice a2 il.length c2, .slice (some ⟨ob, 0, none⟩) 1 1, .int .i64 (st : Int), .int .i64 rm, .slice pa P pc, .slice (some ⟨w5.heap.size, 0, none⟩) n n]) :
    Calls Tryd.prog 22 #[.pointer (some ⟨rb, 0, none⟩), .slice ia vs.length ic, .int .i64 dt] w fun e w' => e = .returned (.tuple #[.agg #[.int .i64 0, .int .i64 0], .int .i64 11]) ∧ Below w.heap.size w w' := by
  have HK := Lib.hid hk
  have HP := Lib.hid (hp.keep hb)
  have HIN := Lib.hid (hin.keep hb)
  have HR := Lib.hid hr
  have HBAD := Lib.hid hbad
  obtain ⟨i0, hif, hz0, hz1, hz2⟩ := info_parts infoI64
  have HIF := Lib.hid hif
  have HZ0 := Lib.hid hz0
  have HZ1 := Lib.hid hz1
  have HZ2 := Lib.hid hz2
  obtain ⟨M, hM⟩ : ∃ M, M = vs.length := ⟨_, rfl⟩
  have HM := Lib.hid hM
  have HML := Lib.hid (show M = il.length by omega)
  have m0 : 0 < M := by omega
  have m10 : M ≤ 10 := by omega
  rw [← hM]
  rw [← HML.out] at HR HP
  clear hk hp hin hb hr hlen hif hz0 hz1 hz2 hM h0 h10 hbad
  obtain ⟨W1, g, hW1, hg, RG, B1, sz1⟩ := box1 w #[.int .i64 0, .int .i64 0] 26
  have HG1 := Lib.hid RG
  have HB1 := Lib.hid B1
  have HWG := Lib.hid (show w.heap.size ≤ g by omega)
  have HR1 := Lib.hid (HR.out.keep B1)
  clear RG B1 sz1
  go_enter Tryd.func22, Tryd.ntmps22
  go_upto_region 1 with fail
  rw [← hW1]
  try rw [← hg]
  clear hW1 hg
  have r_0 := HR1.out.c 0 _ rfl
  have r_1 := HR1.out.c 1 _ rfl
  have r_2 := HR1.out.c 2 _ rfl
  have r_3 := HR1.out.c 3 _ rfl
  have r_4 := HR1.out.c 4 _ rfl
  have r_5 := HR1.out.c 5 _ rfl
  have r_6 := HR1.out.c 6 _ rfl
  have r_7 := HR1.out.c 7 _ rfl
  have d1 : ¬ dt < 1 := by omega
  have d2 : ¬ 86400 < dt := by omega
  have e5 : ((M : Int) != (M : Int)) = false := by simp
  go_wp2_with fail
  clear r_0 r_1 r_2 r_3 r_4 r_5 r_6 r_7
  clear e5
  go_loopw [9, 33] (fun v i wr => ∃ j : Nat, j ≤ M ∧ i = .int .i64 j ∧ Hid (RowAt wr g [.int .i64 0, .int .i64 0] ∧ wr.ownsRow W1.heap.size 2 1 v j (flat iL ((numsV vs).take j)) ∧ Below w.heap.size w wr ∧ W1.heap.size ≤ wr.heap.size ∧ ∀ k, k < j → ∀ x, vs[k]? = some x → fitsB x.k x.n K = true)) (fun _ i _ => M - (intOf i).toNat)
  case atStart => exact ⟨0, Nat.zero_le _, rfl, Lib.hid ⟨HG1.out, World.ownsRow_nil _ _ _ _, HB1.out, Nat.le_refl _, fun k hk => by omega⟩⟩
  case round =>
    obtain ⟨j, hj, rfl, hH⟩ := hrel
    have HG := Lib.hid hH.out.1
    have HN := Lib.hid hH.out.2.1
    have HB := Lib.hid hH.out.2.2.1
    have HSZ := Lib.hid hH.out.2.2.2.1
    have HAL := Lib.hid hH.out.2.2.2.2
    clear hH
    by_cases hlt : j < M
    · obtain ⟨lb, lo, hia, hll, hlc⟩ := (show InS wr ia vs.length 2 (flat valL vs) from HIN.out.keep HB.out).at valL_len (by have := HM.out; omega)
      obtain ⟨pb, po, hpa, hpl, hpc⟩ := (show InS wr a2 il.length 2 (flat portL il) by have h := HP.out.keep HB.out; rw [HML.out] at h; exact h).at portL_len (by have := HML.out; omega)
      subst hia
      subst hpa
      obtain ⟨x, hx⟩ : ∃ x, vs[j]? = some x := ⟨_, List.getElem?_eq_getElem (by have := HM.out; omega)⟩
      obtain ⟨y, hy⟩ : ∃ y, il[j]? = some y := ⟨_, List.getElem?_eq_getElem (by have := HML.out; omega)⟩
      have l0 := hlc j _ hx 0 _ rfl
      have l1 := hlc j _ hx 1 _ rfl
      have q0 := hpc j _ hy 0 _ rfl
      have q1 := hpc j _ hy 1 _ rfl
      rw [Nat.add_zero] at l0 q0
      have HXJ := Lib.hid hx
      have KK := Lib.hid (HK.out y (List.mem_of_getElem? hy))
      have HNJ := Lib.hid (show (numsV vs)[j]? = some x.n by unfold numsV; rw [List.getElem?_map, hx]; rfl)
      obtain ⟨xk, xn⟩ := x
      obtain ⟨yn, yt⟩ := y
      have k1 : (0 : Int) ≤ (j : Int) := by omega
      have k2 : (j : Int) < (M : Int) := by omega
      obtain ⟨W4, t, hW4, ht, RT, B4, sz4⟩ := box1 wr #[.int .i64 xk, .int .i64 xn] 26
      have HT := Lib.hid RT
      have HG4 := Lib.hid (HG.out.keep B4)
      have HN4 := Lib.hid (own_keep HN.out B4)
      have HB4 := Lib.hid (HB.out.trans (B4.mono HB.out.size))
      have HS4 := Lib.hid (Nat.le_trans HSZ.out B4.size)
      have HQ4 := Lib.hid (show C4 t pb (po + j * 2) xk xn yn yt W4 from ⟨RT.c 0 _ rfl, RT.c 1 _ rfl, (B4.cell (p := ⟨pb, po + j * 2, none⟩) hpl).trans q0, (B4.cell (p := ⟨pb, po + j * 2 + 1, none⟩) hpl).trans q1⟩)
      obtain ⟨FB, hFB⟩ : ∃ x, x = fitsB xk xn K := ⟨_, rfl⟩
      have HFB := Lib.hid hFB
      have KF := Lib.hid (fun w => show Calls Tryd.prog 31 #[.agg #[.int .i64 xk, .int .i64 xn], .int .i64 K] w fun e w' => e = .returned (.bool FB) ∧ Below w.heap.size w w' by have h := fits_any xk xn K w; rw [← hFB] at h; exact h)
      clear hFB
      have KY := Lib.hid (KK.out yn)
      clear hx hy hlc hpc hll q0 q1 RT B4 sz4 hpl
      go_upto_region 8 with fail
      rw [← hW4]
      try rw [← ht]
      clear hW4 ht
      obtain ⟨t_0, t_1, p_0, p_1⟩ := HQ4.out
      have zz : W4.heap.size ≤ W4.heap.size := Nat.le_refl _
      go_cut [45] from 38 to 45 (fun b wx => b = .bool (!FB) ∧ Hid (Below W4.heap.size W4 wx))
      case first =>
        go_region_held3 (fun w' => w'.cell? ⟨t, 0, none⟩ = some (.int .i64 xk) ∧ w'.cell? ⟨t, 1, none⟩ = some (.int .i64 xn) ∧ w'.cell? ⟨pb, po + j * 2, none⟩ = some (.string yn) ∧ w'.cell? ⟨pb, po + j * 2 + 1, none⟩ = some (.string yt))
          (first | (exact c4_of HQ4.out (by repeat (first | exact Below.refl _ _ | assumption | apply below_al | apply below_dr))) | assumption | go_keep)
          (first | (go_at_call 32; refine (KY.out _).mono ?_; rintro e x1 ⟨rfl, hb2⟩; have hbk : Below W4.heap.size W4 x1 := by first | exact hb2 | exact below_dr (Below.refl _ _) |>.trans (hb2.mono (Nat.le_refl _)) | exact (below_dr (Below.refl W4.heap.size W4)).trans hb2) | (go_at_call 31; refine (KF.out _).mono ?_; rintro e x2 ⟨rfl, hb3⟩; have hbf : Below W4.heap.size W4 x2 := hbk.trans (hb3.mono hbk.size)) | (fail))
        all_goals
          rename_i hHeld
          clear hHeld
          go_wp2_with fail
          go_meet
        all_goals first | exact ⟨rfl, Lib.hid hbf⟩ | exact ⟨rfl, Lib.hid (below_dr hbf)⟩
      case rest =>
        obtain ⟨rfl, hcc⟩ := hcut
        have hbx := hcc.out
        have HT5 := Lib.hid (HT.out.keep hbx)
        have HG5 := Lib.hid (HG4.out.keep hbx)
        have HN5 := Lib.hid (own_keep HN4.out hbx)
        have HB5 := Lib.hid (HB4.out.trans (hbx.mono HB4.out.size))
        have HS5 := Lib.hid (Nat.le_trans HS4.out hbx.size)
        cases FB
        · clear hbx hcc t_0 t_1 p_0 p_1 HT HG4 HN4 HB4 HS4 HQ4 zz l0 l1
          have g_0 := HG5.out.c 0 _ rfl
          have g_1 := HG5.out.c 1 _ rfl
          have g_z := HG5.out.fz
          go_wp2_with fail
          have hs := HG5.out.setRow [.int .i64 0, .int .i64 0] rfl
          have hB := set_below HB5.out HWG.out [.int .i64 0, .int .i64 0]
          have y0 : ((wc.setCell ⟨g, 0, none⟩ (.int .i64 0)).setCell ⟨g, 1, none⟩ (.int .i64 0)).cell? ⟨g, 0, none⟩ = some (.int .i64 0) := hs.c 0 _ rfl
          have y1 : ((wc.setCell ⟨g, 0, none⟩ (.int .i64 0)).setCell ⟨g, 1, none⟩ (.int .i64 0)).cell? ⟨g, 1, none⟩ = some (.int .i64 0) := hs.c 1 _ rfl
          (try simp only [Exit.inBlock, Exit.then])
          refine bodyPost_ret (by simp [results, Tryd.results22, go_sem, y0, y1]; try rfl) rfl ?_
          exact ⟨rfl, hB⟩
        · have HAN := Lib.hid (show ∀ k, k < j + 1 → ∀ x, vs[k]? = some x → fitsB x.k x.n K = true from fun k hk x hx => by
            by_cases hkj : k = j
            · subst hkj; rw [HXJ.out] at hx; cases hx; exact HFB.out.symm
            · exact HAL.out k (by omega) x hx)
          clear hbx hcc t_0 t_1 p_0 p_1 HT HG4 HN4 HB4 HS4 HQ4 zz l0 l1
          have t_0 := HT5.out.c 0 _ rfl
          have t_1 := HT5.out.c 1 _ rfl
          have hif := HIF.out
          have hz0 := HZ0.out
          have hz1 := HZ1.out
          have hz2 := HZ2.out
          go_wp2_with (at_builtin; go_loud (refine wpList_append_own _ rfl _ _ 22 rfl W1.heap.size 2 i0 (.int .i64 0) 1 8 Tryd.underlying22 hif hz0 hz1 hz2 rfl (by decide) _ _ _ rfl (own_at HN5.out _) ⟨wc.heap.size, 0, none⟩ 1 1 [.int .i64 xn] rfl rfl ?a1 ?a2 ?a3 ?a4 ?a5 ?_))
          try
            case a1 =>
              intro q u hu
              rw [add_plain, Nat.zero_add]
              exact (row_fresh wc #[.int .i64 xn] 2).c q u hu
          try
            case a2 =>
              first
                | rfl
                | (intro u hu; simp at hu; subst hu; rfl)
          case a3 => unfold maxLen; omega
          case a4 => omega
          case a5 => have := HS5.out; (try rw [World.size_alloc]); omega
          intro v5 w7 hown hgrow _
          have nal : Below wc.heap.size wc (wc.alloc (Obj.cells #[.int .i64 xn] 2)) := (Below.refl _ _).alloc (Nat.le_refl _) _
          have vlt := fun q e => (HN5.out.lt q e).1
          have G6 := Lib.hid (row_grown (HG5.out.keep nal) hgrow (fun e => by have h1 := vlt g e.symm; have h2 := HG1.out.lt; omega))
          have B6 := Lib.hid ((HB5.out.trans (nal.mono HB5.out.size)).grown hgrow (by have := HB5.out.size; rw [World.size_alloc]; omega) (fun q e => Nat.le_trans HB1.out.size (vlt q e)))
          have S6 := Lib.hid (show W1.heap.size ≤ w7.heap.size from Nat.le_trans (by have := HS5.out; rw [World.size_alloc]; omega) hgrow.size)
          have V6 := Lib.hid (show w7.ownsRow W1.heap.size 2 1 v5 (j + 1) (flat iL ((numsV vs).take (j + 1))) by rw [flat_iL _ _ _ HNJ.out]; exact hown)
          clear hown hgrow nal vlt hif hz0 hz1 hz2 t_0 t_1
          go_wp2_with fail
          go_roundw
          case rel => exact ⟨j + 1, by omega, by go_num, Lib.hid ⟨G6.out, V6.out, B6.out, S6.out, HAN.out⟩⟩
          case measure => (simp [intOf]) <;> omega
    · obtain rfl : j = M := by omega
      obtain ⟨v, hv, hf⟩ := HBAD.out
      obtain ⟨k, hk⟩ := List.mem_iff_getElem?.1 hv
      have h := HAL.out k (by have := (List.getElem?_eq_some_iff.1 hk).1; have := HM.out; omega) v hk
      rw [h] at hf
      cases hf
end Go.Proofs.YtmhfkdnblemfdaaDoor
