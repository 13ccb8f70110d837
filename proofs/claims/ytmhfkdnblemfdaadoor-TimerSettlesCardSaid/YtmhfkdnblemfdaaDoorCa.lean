/- Contract of a relay's step at inputs that fit. -/
import Derived.Test.YtmhfkdnblemfdaaDoorBv
namespace Go.Proofs.YtmhfkdnblemfdaaDoor
open Go.RowKit Go.Shelf

structure ValD where
  k : Int
  n : Int
def valL (x : ValD) : List Value := [.int .i64 x.k, .int .i64 x.n]
theorem valL_len (x : ValD) : (valL x).length = 2 := rfl
def numsV (vs : List ValD) : List Int := vs.map ValD.n
def KindOk (t : ByteArray) (k : Int) : Prop := ∀ (p : ByteArray) (w : World), Calls Tryd.prog 32 #[.agg #[.string p, .string t]] w fun e w' => e = .returned (.int .i64 k) ∧ Below w.heap.size w w'
theorem kindOk_binary : KindOk ⟨#[98, 105, 110, 97, 114, 121]⟩ 2 := kind_binary
theorem kindOk_analog : KindOk ⟨#[97, 110, 97, 108, 111, 103]⟩ 1 := kind_analog
theorem kindOk_u : KindOk ⟨#[85]⟩ 1 := kind_u
theorem grown_new {w w9 : World} {o : Option Nat} {g : Nat} (h : w.grownBy w9 o) (hg : w.heap.size ≤ g) (M : List Value) : w.grownBy (w9.setCells g 0 M) o := by
  have b := set_below (Below.refl w.heap.size w9) hg M
  exact ⟨b.os.trans h.os, b.tape.trans h.tape, b.output.trans h.output, by rw [sz_setCells]; exact h.size, fun j hj hne => (b.block j hj).trans (h.block j hj hne)⟩
theorem grown_of_below {w w' : World} (h : Below w.heap.size w w') (o : Option Nat) : w.grownBy w' o := ⟨h.os, h.tape, h.output, h.size, fun j hj _ => h.block j hj⟩
abbrev C4 (t pb po : Nat) (k n : Int) (x y : ByteArray) (w' : World) : Prop := w'.cell? ⟨t, 0, none⟩ = some (.int .i64 k) ∧ w'.cell? ⟨t, 1, none⟩ = some (.int .i64 n) ∧ w'.cell? ⟨pb, po, none⟩ = some (.string x) ∧ w'.cell? ⟨pb, po + 1, none⟩ = some (.string y)
theorem c4_of {W w' : World} {t pb po : Nat} {k n : Int} {x y : ByteArray} (h : C4 t pb po k n x y W) (hb : Below W.heap.size W w') : C4 t pb po k n x y w' :=
  ⟨(hb.cell (p := ⟨t, 0, none⟩) (World.block_lt_of_cell? _ _ h.1)).trans h.1, (hb.cell (p := ⟨t, 1, none⟩) (World.block_lt_of_cell? _ _ h.2.1)).trans h.2.1, (hb.cell (p := ⟨pb, po, none⟩) (World.block_lt_of_cell? _ _ h.2.2.1)).trans h.2.2.1, (hb.cell (p := ⟨pb, po + 1, none⟩) (World.block_lt_of_cell? _ _ h.2.2.2)).trans h.2.2.2⟩
set_option maxHeartbeats 8000000 in
set_option maxRecDepth 100000 in
theorem step_any (w5 : World) (rb : Nat) (s ro : ByteArray) (a1 : Option Addr) (N c1 : Nat) (a2 : Option Addr) (c2 ob : Nat) (rm : Int) (st n : Nat) (pa : Option Addr) (P pc : Nat) (il : List PortD) (K ko : Int) (vs : List ValD) (ia : Option Addr) (ic : Nat) (dt : Int) (S S' : List Value) (o : Int)
    (hrb : w5.heap.size < rb) (hd1 : 1 ≤ dt) (hd2 : dt ≤ 86400) (hlen : vs.length = il.length) (h0 : 0 < il.length) (h10 : il.length ≤ 10) (hk : ∀ p ∈ il, KindOk p.ty K) (hfit : ∀ v ∈ vs, fitsB v.k v.n K = true) (hko : KindOk ro ko)
    (hp : InS w5 a2 il.length 2 (flat portL il)) (ho : InS w5 (some ⟨ob, 0, none⟩) 1 2 [.string ⟨#[111, 117, 116]⟩, .string ro]) (hin : InS w5 ia vs.length 2 (flat valL vs))
    (HEV : ∀ (w : World) (ib io ic' : Nat), Below w5.heap.size w5 w → RowAt w rb [.string s, .slice a1 N c1, .slice a2 il.length c2, .slice (some ⟨ob, 0, none⟩) 1 1, .int .i64 (st : Int), .int .i64 rm, .slice pa P pc, .slice (some ⟨w5.heap.size, 0, none⟩) n n] → RowAt w w5.heap.size S → (∀ k x, vs[k]? = some x → w.cell? ⟨ib, io + k, none⟩ = some (.int .i64 x.n)) → ib ≠ w5.heap.size →
      Calls Tryd.prog 33 #[.pointer (some ⟨rb, 0, none⟩), .slice (some ⟨ib, io, none⟩) vs.length ic', .int .i64 dt] w fun e w' => e = .returned (.int .i64 o) ∧ RowAt w' w5.heap.size S' ∧ w.grownBy w' (some w5.heap.size))
    (w : World) (hb : Below w5.heap.size w5 w) (hr : RowAt w rb [.string s, .slice a1 N c1, .slice a2 il.length c2, .slice (some ⟨ob, 0, none⟩) 1 1, .int .i64 (st : Int), .int .i64 rm, .slice pa P pc, .slice (some ⟨w5.heap.size, 0, none⟩) n n]) (hs : RowAt w w5.heap.size S) :
    Calls Tryd.prog 22 #[.pointer (some ⟨rb, 0, none⟩), .slice ia vs.length ic, .int .i64 dt] w fun e w' => e = .returned (.tuple #[.agg #[.int .i64 ko, .int .i64 o], .int .i64 0]) ∧ RowAt w' w5.heap.size S' ∧ w.grownBy w' (some w5.heap.size) := by
  have HK := Lib.hid hk
  have HFIT := Lib.hid hfit
  have HKO := Lib.hid hko
  have HP := Lib.hid (hp.keep hb)
  have HO := Lib.hid (ho.keep hb)
  have HIN := Lib.hid (hin.keep hb)
  have HV := Lib.hid HEV
  have HB5 := Lib.hid hb
  have HR := Lib.hid hr
  have HS := Lib.hid hs
  have HRB := Lib.hid hrb
  have HL := Lib.hid hlen
  obtain ⟨i0, hif, hz0, hz1, hz2⟩ := info_parts infoI64
  have HIF := Lib.hid hif
  have HZ0 := Lib.hid hz0
  have HZ1 := Lib.hid hz1
  have HZ2 := Lib.hid hz2
  obtain ⟨M, hM⟩ : ∃ M, M = vs.length := ⟨_, rfl⟩
  have HM := Lib.hid hM
  have HML := Lib.hid (show M = il.length by omega)
  have m0 : 0 < M := by omega
  have m10 : M ≤ 10 := by omega
  rw [← hM]
  rw [← HML.out, ← hM] at HV
  rw [← HML.out] at HR HP
  clear hk hfit hko hp ho hin HEV hb hr hs hlen hif hz0 hz1 hz2 hM h0 h10 hrb
  obtain ⟨W1, g, hW1, hg, RG, B1, sz1⟩ := box1 w #[.int .i64 0, .int .i64 0] 26
  have HG1 := Lib.hid RG
  have HB1 := Lib.hid B1
  have HWG := Lib.hid (show w.heap.size ≤ g by omega)
  have HR1 := Lib.hid (HR.out.keep B1)
  clear RG B1 sz1
  go_enter Tryd.func22, Tryd.ntmps22
  go_upto_region 1 with fail
  rw [← hW1]
  try rw [← hg]
  clear hW1 hg
  have r_0 := HR1.out.c 0 _ rfl
  have r_1 := HR1.out.c 1 _ rfl
  have r_2 := HR1.out.c 2 _ rfl
  have r_3 := HR1.out.c 3 _ rfl
  have r_4 := HR1.out.c 4 _ rfl
  have r_5 := HR1.out.c 5 _ rfl
  have r_6 := HR1.out.c 6 _ rfl
  have r_7 := HR1.out.c 7 _ rfl
  have d1 : ¬ dt < 1 := by omega
  have d2 : ¬ 86400 < dt := by omega
  have e5 : ((M : Int) != (M : Int)) = false := by simp
  go_wp2_with fail
  clear r_0 r_1 r_2 r_3 r_4 r_5 r_6 r_7
  clear e5
  go_loopw [9, 33] (fun v i wr => ∃ j : Nat, j ≤ M ∧ i = .int .i64 j ∧ Hid (RowAt wr g [.int .i64 0, .int .i64 0] ∧ wr.ownsRow W1.heap.size 2 1 v j (flat iL ((numsV vs).take j)) ∧ Below w.heap.size w wr ∧ W1.heap.size ≤ wr.heap.size)) (fun _ i _ => M - (intOf i).toNat)
  case atStart => exact ⟨0, Nat.zero_le _, rfl, Lib.hid ⟨HG1.out, World.ownsRow_nil _ _ _ _, HB1.out, Nat.le_refl _⟩⟩
  case round =>
    obtain ⟨j, hj, rfl, hH⟩ := hrel
    have HG := Lib.hid hH.out.1
    have HN := Lib.hid hH.out.2.1
    have HB := Lib.hid hH.out.2.2.1
    have HSZ := Lib.hid hH.out.2.2.2
    clear hH
    by_cases hlt : j < M
    · obtain ⟨lb, lo, hia, hll, hlc⟩ := (show InS wr ia vs.length 2 (flat valL vs) from HIN.out.keep HB.out).at valL_len (by have := HM.out; omega)
      obtain ⟨pb, po, hpa, hpl, hpc⟩ := (show InS wr a2 il.length 2 (flat portL il) by have h := HP.out.keep HB.out; rw [HML.out] at h; exact h).at portL_len (by have := HML.out; omega)
      subst hia
      subst hpa
      obtain ⟨x, hx⟩ : ∃ x, vs[j]? = some x := ⟨_, List.getElem?_eq_getElem (by have := HM.out; omega)⟩
      obtain ⟨y, hy⟩ : ∃ y, il[j]? = some y := ⟨_, List.getElem?_eq_getElem (by have := HML.out; omega)⟩
      have l0 := hlc j _ hx 0 _ rfl
      have l1 := hlc j _ hx 1 _ rfl
      have q0 := hpc j _ hy 0 _ rfl
      have q1 := hpc j _ hy 1 _ rfl
      rw [Nat.add_zero] at l0 q0
      have HF := Lib.hid (HFIT.out x (List.mem_of_getElem? hx))
      have KK := Lib.hid (HK.out y (List.mem_of_getElem? hy))
      have HNJ := Lib.hid (show (numsV vs)[j]? = some x.n by unfold numsV; rw [List.getElem?_map, hx]; rfl)
      obtain ⟨xk, xn⟩ := x
      obtain ⟨yn, yt⟩ := y
      have k1 : (0 : Int) ≤ (j : Int) := by omega
      have k2 : (j : Int) < (M : Int) := by omega
      obtain ⟨W4, t, hW4, ht, RT, B4, sz4⟩ := box1 wr #[.int .i64 xk, .int .i64 xn] 26
      have HT := Lib.hid RT
      have HG4 := Lib.hid (HG.out.keep B4)
      have HN4 := Lib.hid (own_keep HN.out B4)
      have HB4 := Lib.hid (HB.out.trans (B4.mono HB.out.size))
      have HS4 := Lib.hid (Nat.le_trans HSZ.out B4.size)
      have HQ4 := Lib.hid (show C4 t pb (po + j * 2) xk xn yn yt W4 from ⟨RT.c 0 _ rfl, RT.c 1 _ rfl, (B4.cell (p := ⟨pb, po + j * 2, none⟩) hpl).trans q0, (B4.cell (p := ⟨pb, po + j * 2 + 1, none⟩) hpl).trans q1⟩)
      have KF := Lib.hid (fun w => show Calls Tryd.prog 31 #[.agg #[.int .i64 xk, .int .i64 xn], .int .i64 K] w fun e w' => e = .returned (.bool true) ∧ Below w.heap.size w w' by have h := fits_any xk xn K w; rw [show fitsB xk xn K = true from HF.out] at h; exact h)
      have KY := Lib.hid (KK.out yn)
      clear hx hy hlc hpc hll q0 q1 RT B4 sz4 hpl
      go_upto_region 8 with fail
      rw [← hW4]
      try rw [← ht]
      clear hW4 ht
      obtain ⟨t_0, t_1, p_0, p_1⟩ := HQ4.out
      have zz : W4.heap.size ≤ W4.heap.size := Nat.le_refl _
      go_cut [45] from 38 to 45 (fun b wx => b = .bool false ∧ Hid (Below W4.heap.size W4 wx))
      case first =>
        go_region_held3 (fun w' => w'.cell? ⟨t, 0, none⟩ = some (.int .i64 xk) ∧ w'.cell? ⟨t, 1, none⟩ = some (.int .i64 xn) ∧ w'.cell? ⟨pb, po + j * 2, none⟩ = some (.string yn) ∧ w'.cell? ⟨pb, po + j * 2 + 1, none⟩ = some (.string yt))
          (first | (exact c4_of HQ4.out (by repeat (first | exact Below.refl _ _ | assumption | apply below_al | apply below_dr))) | assumption | go_keep)
          (first | (go_at_call 32; refine (KY.out _).mono ?_; rintro e x1 ⟨rfl, hb2⟩; have hbk : Below W4.heap.size W4 x1 := by first | exact hb2 | exact below_dr (Below.refl _ _) |>.trans (hb2.mono (Nat.le_refl _)) | exact (below_dr (Below.refl W4.heap.size W4)).trans hb2) | (go_at_call 31; refine (KF.out _).mono ?_; rintro e x2 ⟨rfl, hb3⟩; have hbf : Below W4.heap.size W4 x2 := hbk.trans (hb3.mono hbk.size)) | (fail))
        all_goals
          rename_i hHeld
          clear hHeld
          go_wp2_with fail
          go_meet
        all_goals first | exact ⟨rfl, Lib.hid hbf⟩ | exact ⟨rfl, Lib.hid (below_dr hbf)⟩
      case rest =>
        obtain ⟨rfl, hcc⟩ := hcut
        have hbx := hcc.out
        have HT5 := Lib.hid (HT.out.keep hbx)
        have HG5 := Lib.hid (HG4.out.keep hbx)
        have HN5 := Lib.hid (own_keep HN4.out hbx)
        have HB5 := Lib.hid (HB4.out.trans (hbx.mono HB4.out.size))
        have HS5 := Lib.hid (Nat.le_trans HS4.out hbx.size)
        clear hbx hcc t_0 t_1 p_0 p_1 HT HG4 HN4 HB4 HS4 HQ4 zz l0 l1
        have t_0 := HT5.out.c 0 _ rfl
        have t_1 := HT5.out.c 1 _ rfl
        have hif := HIF.out
        have hz0 := HZ0.out
        have hz1 := HZ1.out
        have hz2 := HZ2.out
        go_wp2_with (at_builtin; go_loud (refine wpList_append_own _ rfl _ _ 22 rfl W1.heap.size 2 i0 (.int .i64 0) 1 8 Tryd.underlying22 hif hz0 hz1 hz2 rfl (by decide) _ _ _ rfl (own_at HN5.out _) ⟨wc.heap.size, 0, none⟩ 1 1 [.int .i64 xn] rfl rfl ?a1 ?a2 ?a3 ?a4 ?a5 ?_))
        try
          case a1 =>
            intro q u hu
            rw [add_plain, Nat.zero_add]
            exact (row_fresh wc #[.int .i64 xn] 2).c q u hu
        try
          case a2 =>
            first
              | rfl
              | (intro u hu; simp at hu; subst hu; rfl)
        case a3 => unfold maxLen; omega
        case a4 => omega
        case a5 => have := HS5.out; (try rw [World.size_alloc]); omega
        intro v5 w7 hown hgrow _
        have nal : Below wc.heap.size wc (wc.alloc (Obj.cells #[.int .i64 xn] 2)) := (Below.refl _ _).alloc (Nat.le_refl _) _
        have vlt := fun q e => (HN5.out.lt q e).1
        have G6 := Lib.hid (row_grown (HG5.out.keep nal) hgrow (fun e => by have h1 := vlt g e.symm; have h2 := HG1.out.lt; omega))
        have B6 := Lib.hid ((HB5.out.trans (nal.mono HB5.out.size)).grown hgrow (by have := HB5.out.size; rw [World.size_alloc]; omega) (fun q e => Nat.le_trans HB1.out.size (vlt q e)))
        have S6 := Lib.hid (show W1.heap.size ≤ w7.heap.size from Nat.le_trans (by have := HS5.out; rw [World.size_alloc]; omega) hgrow.size)
        have V6 := Lib.hid (show w7.ownsRow W1.heap.size 2 1 v5 (j + 1) (flat iL ((numsV vs).take (j + 1))) by rw [flat_iL _ _ _ HNJ.out]; exact hown)
        clear hown hgrow nal vlt hif hz0 hz1 hz2 t_0 t_1
        go_wp2_with fail
        go_roundw
        case rel => exact ⟨j + 1, by omega, by go_num, Lib.hid ⟨G6.out, V6.out, B6.out, S6.out⟩⟩
        case measure => (simp [intOf]) <;> omega
    · obtain rfl : j = M := by omega
      obtain ⟨b7, c7, rfl, i7⟩ := ins_own HN.out
      have HI7 := Lib.hid (show InS wr b7 (numsV vs).length 1 (flat iL (numsV vs)) by
        rw [List.take_of_length_le (by unfold numsV; rw [List.length_map]; have := HM.out; omega)] at i7
        rw [show (numsV vs).length = j by unfold numsV; rw [List.length_map]; exact HM.out.symm]
        exact i7)
      obtain ⟨ib, io, hb7, hil, hic⟩ := HI7.out.at iL_len (by unfold numsV; rw [List.length_map]; have := HM.out; omega)
      subst hb7
      have hne : ib ≠ w5.heap.size := by
        have h1 := (HN.out.lt ib rfl).1
        have h2 := HB1.out.size
        have h3 := HS.out.lt
        omega
      have HIC := Lib.hid (show ∀ k x, vs[k]? = some x → wr.cell? ⟨ib, io + k, none⟩ = some (.int .i64 x.n) by
        intro k x hx
        have h := hic k x.n (by unfold numsV; rw [List.getElem?_map, hx]; rfl) 0 _ rfl
        simpa using h)
      have HR9 := Lib.hid (HR.out.keep HB.out)
      have HS9 := Lib.hid (HS.out.keep HB.out)
      have HO9 := Lib.hid (HO.out.keep HB.out)
      have HB59 := Lib.hid (HB5.out.trans (HB.out.mono HB5.out.size))
      obtain ⟨ob2, oo, hob, hol, hoc⟩ := InS.at (f := fun z : ByteArray × ByteArray => [.string z.1, .string z.2]) (sz := 2) (xs := [(⟨#[111, 117, 116]⟩, ro)]) (fun _ => rfl) HO9.out (Nat.one_pos)
      obtain ⟨rfl, rfl⟩ : ob = ob2 ∧ 0 = oo := by injection hob with h; injection h with h1 h2; exact ⟨h1, h2⟩
      have o0 := hoc 0 _ rfl 0 _ rfl
      have o1 := hoc 0 _ rfl 1 _ rfl
      simp only [Nat.zero_mul, Nat.zero_add, Nat.add_zero] at o0 o1
      have KK := Lib.hid (HKO.out ⟨#[111, 117, 116]⟩)
      clear hic hil hol hoc i7 HI7 HK HFIT HKO HIN HP hob
      have r_0 := HR9.out.c 0 _ rfl
      have r_1 := HR9.out.c 1 _ rfl
      have r_2 := HR9.out.c 2 _ rfl
      have r_3 := HR9.out.c 3 _ rfl
      have r_4 := HR9.out.c 4 _ rfl
      have r_5 := HR9.out.c 5 _ rfl
      have r_6 := HR9.out.c 6 _ rfl
      have r_7 := HR9.out.c 7 _ rfl
      go_wp2_with fail
      refine (KK.out _).mono ?_
      rintro e w8 ⟨rfl, hb⟩
      have HR8 := Lib.hid (HR9.out.keep hb)
      have HS8 := Lib.hid (HS9.out.keep hb)
      have HG8 := Lib.hid (HG.out.keep hb)
      have HIC8 := Lib.hid (show ∀ k x, vs[k]? = some x → w8.cell? ⟨ib, io + k, none⟩ = some (.int .i64 x.n) from fun k x hx => (hb.cell (p := ⟨ib, io + k, none⟩) (World.block_lt_of_cell? _ _ (HIC.out k x hx))).trans (HIC.out k x hx))
      have HB8 := Lib.hid (HB.out.trans (hb.mono HB.out.size))
      have HB58 := Lib.hid (HB59.out.trans (hb.mono HB59.out.size))
      clear hb o0 o1
      clear r_0 r_1 r_2 r_3 r_4 r_5 r_6 r_7
      have KE := Lib.hid (HV.out w8 ib io c7 HB58.out HR8.out HS8.out HIC8.out hne)
      go_wp2_with fail
      refine KE.out.mono ?_
      rintro e w9 ⟨rfl, hS, hgr⟩
      have HGR := Lib.hid (grown_below HB8.out hgr)
      have HSS := Lib.hid hS
      have HG9 := Lib.hid (row_grown HG8.out hgr (by intro e; injection e with e; have h1 := HWG.out; have h2 := HS.out.lt; omega))
      have hgs : g ≠ w5.heap.size := by have h1 := HWG.out; have h2 := HS.out.lt; omega
      clear hgr hS
      have g_0 := HG9.out.c 0 _ rfl
      have g_1 := HG9.out.c 1 _ rfl
      have g_z := HG9.out.fz
      go_wp2_with fail
      have hs := HG9.out.setRow [.int .i64 ko, .int .i64 o] rfl
      have y0 : ((w9.setCell ⟨g, 0, none⟩ (.int .i64 ko)).setCell ⟨g, 1, none⟩ (.int .i64 o)).cell? ⟨g, 0, none⟩ = some (.int .i64 ko) := hs.c 0 _ rfl
      have y1 : ((w9.setCell ⟨g, 0, none⟩ (.int .i64 ko)).setCell ⟨g, 1, none⟩ (.int .i64 o)).cell? ⟨g, 1, none⟩ = some (.int .i64 o) := hs.c 1 _ rfl
      (try simp only [Exit.inBlock, Exit.then])
      refine bodyPost_ret (by simp [results, Tryd.results22, go_sem, y0, y1]; try rfl) rfl ?_
      exact ⟨rfl, HSS.out.other hgs [.int .i64 ko, .int .i64 o], grown_new HGR.out HWG.out [.int .i64 ko, .int .i64 o]⟩
end Go.Proofs.YtmhfkdnblemfdaaDoor
