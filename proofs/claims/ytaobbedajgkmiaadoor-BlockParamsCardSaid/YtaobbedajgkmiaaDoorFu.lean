/- Params of the specification; the law Params. -/
import Derived.Test.YtaobbedajgkmiaaDoorFt
namespace Go.Proofs.YtaobbedajgkmiaaDoor
open Go.RowKit Go.Shelf Go.Maps Go.WideMaps

set_option linter.unusedVariables false
set_option linter.unusedSimpArgs false
/-- all names of the parameters differ -/
def apartP (pl : List BndD) : Prop := ∀ (i j : Nat) (x y : BndD), pl[i]? = some x → pl[j]? = some y → x.nm = y.nm → i = j
theorem firstI_spec (p : BndD → Bool) : ∀ (qs : List BndD) (i : Nat), (firstI p qs i = -1 ∧ qs.any p = false) ∨ ∃ j x, qs[j]? = some x ∧ p x = true ∧ firstI p qs i = ((i + j : Nat) : Int)
  | [], i => .inl ⟨rfl, rfl⟩
  | x :: r, i => by
    by_cases h : p x = true
    · exact .inr ⟨0, x, rfl, h, if_pos h⟩
    · have e : firstI p (x :: r) i = firstI p r (i + 1) := if_neg h
      have hx : p x = false := by simpa using h
      rcases firstI_spec p r (i + 1) with ⟨h1, h2⟩ | ⟨j, y, h1, h2, h3⟩
      · exact .inl ⟨e.trans h1, by rw [List.any_cons, hx, h2]; rfl⟩
      · exact .inr ⟨j + 1, y, h1, h2, by rw [e, h3]; congr 1; omega⟩
theorem nums_put {pl : List BndD} (hap : apartP pl) {D : DataW Unit} (hD : Tidy D) {j : Nat} {x : BndD} (hx : pl[j]? = some x) (v : Int) : numsB pl (D.put (keyB x.nm) (.lit (.int .i64 v))) = (numsB pl D).set j v := by
  apply List.ext_getElem?
  intro i
  unfold numsB
  rw [List.getElem?_map, List.getElem?_set, List.length_map, List.getElem?_map]
  have hjl : j < pl.length := (List.getElem?_eq_some_iff.1 hx).1
  by_cases h : j = i
  · subst h
    rw [if_pos rfl, if_pos hjl, hx]
    show some (numB _ x) = some v
    congr 1
    unfold numB
    rw [if_pos (has_put_same hD.isMap (keyB_lit _) _), atKey_put_same hD.isMap (keyB_lit _)]
  · rw [if_neg h]
    cases hy : pl[i]? with
    | none => rfl
    | some y =>
      show some (numB _ y) = some (numB D y)
      congr 1
      have hne : ¬ x.nm = y.nm := fun e => h (hap j i x y hx hy e)
      unfold numB
      rw [has_put_other (fun e => hne (keyB_inj e).symm), atKey_put_other (fun e => hne (keyB_inj e).symm)]
/-- the usual numbers of the first k parameters -/
def dfK (pl : List BndD) (k : Nat) : List Int := (pl.take k).map BndD.df
theorem nums_zero (pl : List BndD) : numsB pl (.map []) = pl.map BndD.df := by
  unfold numsB
  apply List.map_congr_left
  intro x _
  rfl
theorem flat_set (xs : List Int) (j : Nat) (v : Int) : flat iL (xs.set j v) = (flat iL xs).set j (.int .i64 v) := by
  induction xs generalizing j with
  | nil => rfl
  | cons x xs ih =>
    cases j with
    | zero => rfl
    | succ j =>
      show iL x ++ flat iL (xs.set j v) = (Value.int .i64 x :: flat iL xs).set (j + 1) _
      rw [ih]; rfl
theorem row_own {w : World} {B e sz ob n cap : Nat} {L : List Value} (h : w.ownsRow B e sz (.slice (some ⟨ob, 0, none⟩) n cap) n L) : RowAt w ob L := by
  rcases h.2 with ⟨h1, _⟩ | ⟨g, cp, cur, h1, h2, h3, h4, h5, h6, h7⟩
  · cases h1
  · injection h1 with h1 _ _
    injection h1 with h1
    injection h1 with h1
    subst h1
    refine ⟨fun i v hv => ?_, fun o => ?_, (Array.getElem?_eq_some_iff.1 h3).1⟩
    · refine cellH h3 i v ?_
      rw [← h7, List.getElem?_take] at hv
      split at hv
      · simpa using hv
      · cases hv
    · simp [World.frozen?, h3]
theorem rangeB_snoc (pl : List BndD) (qs : List PrmD) (q : PrmD) : rangeB pl (qs ++ [q]) = (rangeB pl qs && pl.all fun x => !(eqS x.nm q.nm) || decide (x.lo ≤ q.v ∧ q.v ≤ x.hi)) := by
  unfold rangeB; rw [List.all_append]; simp
theorem range_one {pl : List BndD} (hap : apartP pl) {j : Nat} {x : BndD} {q : PrmD} (hx : pl[j]? = some x) (hn : x.nm = q.nm) : (pl.all fun x => !(eqS x.nm q.nm) || decide (x.lo ≤ q.v ∧ q.v ≤ x.hi)) = decide (x.lo ≤ q.v ∧ q.v ≤ x.hi) := by
  rw [Bool.eq_iff_iff, List.all_eq_true, decide_eq_true_eq]
  constructor
  · intro h
    have := h x (List.mem_of_getElem? hx)
    rw [show eqS x.nm q.nm = true from decide_eq_true hn] at this
    simpa using this
  · intro h y hy
    by_cases e : y.nm = q.nm
    · obtain ⟨i, hi, rfl⟩ := List.mem_iff_getElem.1 hy
      have := hap i j _ x (List.getElem?_eq_getElem hi) hx (e.trans hn.symm)
      subst this
      have : pl[i] = x := by rw [List.getElem?_eq_getElem hi] at hx; exact Option.some.inj hx
      rw [this, decide_eq_true h, Bool.or_true]
    · rw [show eqS y.nm q.nm = false from decide_eq_false e]; rfl
theorem range_all {pl : List BndD} {qs : List PrmD} {k : Nat} {q : PrmD} (h : qs[k]? = some q) (hr : (pl.all fun x => !(eqS x.nm q.nm) || decide (x.lo ≤ q.v ∧ q.v ≤ x.hi)) = false) : rangeB pl qs = false := by
  unfold rangeB
  rw [List.all_eq_false]
  exact ⟨q, List.mem_of_getElem? h, by rw [hr]; simp⟩
theorem apart_no : ∀ {qs : List PrmD} {i j : Nat} {a c : PrmD}, i < j → qs[i]? = some a → qs[j]? = some c → a.nm = c.nm → apartB qs = false
  | [], _, _, _, _, _, h, _, _ => by simp at h
  | q :: qs, 0, j + 1, a, c, _, h1, h2, hn => by
    obtain rfl : q = a := by simpa using h1
    have hm : c ∈ qs := List.mem_of_getElem? (by simpa using h2)
    have : (qs.any fun p => eqS p.nm q.nm) = true := List.any_eq_true.2 ⟨c, hm, decide_eq_true hn.symm⟩
    show (!(qs.any fun p => eqS p.nm q.nm) && apartB qs) = false
    rw [this]; rfl
  | q :: qs, i + 1, j + 1, a, c, hij, h1, h2, hn => by
    show (!(qs.any fun p => eqS p.nm q.nm) && apartB qs) = false
    rw [apart_no (i := i) (j := j) (by omega) (by simpa using h1) (by simpa using h2) hn, Bool.and_false]
set_option maxHeartbeats 16000000 in
set_option maxRecDepth 100000 in
theorem rparams_any (s ro : ByteArray) (rm rs : Int) (pl : List BndD) (il : List PortD) (ag : List Int → Bool) (KF : RFindOk s ro rm rs pl il) (KH : HoldsOk s pl ag) (hap : apartP pl) (hpd : ∀ x ∈ pl, x.lo ≤ x.df ∧ x.df ≤ x.hi) (p10 : pl.length ≤ 10) (la : Option Addr) (lc : Nat) (qs : List PrmD) (M : Nat) (hM : M = qs.length) (h20 : M ≤ 20) (w : World) (hq : InS w la M 2 (flat prmL qs)) :
    Calls Tryd.prog 17 #[.string s, .slice la M lc] w fun e w' => ∃ v, e = .returned (.tuple #[v, .int .i64 (prmE pl qs ag)]) ∧ PrmA w' (prmE pl qs ag) (numsB pl (mapD qs qs.length)) v ∧ Below w.heap.size w w' := by
  have HF := Lib.hid (KF w)
  have HKH := Lib.hid KH
  have HAP := Lib.hid hap
  have HM := Lib.hid hM
  have HQ := Lib.hid hq
  have HT := Lib.hid (prm_told pl qs ag hpd)
  obtain ⟨i0, hif, hz0, hz1, hz2⟩ := info_parts infoJ
  have HIF := Lib.hid hif
  have HZ0 := Lib.hid hz0
  have HZ1 := Lib.hid hz1
  have HZ2 := Lib.hid hz2
  obtain ⟨N, hN⟩ : ∃ N, N = pl.length := ⟨_, rfl⟩
  have HN := Lib.hid hN
  have n10 : N ≤ 10 := by omega
  clear KF KH hap hpd hM hq hif hz0 hz1 hz2 p10 hN
  go_enter Tryd.func17, Tryd.ntmps17
  go_wp2_with fail
  refine HF.out.mono ?_
  rintro e w1 ⟨a1, c1, a2, c2, a3, c3, rfl, i1, i2, i3, hb⟩
  obtain ⟨n2, hn2⟩ : ∃ n, n = il.length := ⟨_, rfl⟩
  obtain ⟨n3, hn3⟩ : ∃ n : Nat, n = 1 := ⟨_, rfl⟩
  rw [← HN.out] at i1 ⊢
  rw [← hn2, ← hn3]
  obtain ⟨W2, g, hW2, hg, RG, B2, sz2⟩ := box1 w1 #[.string s, .slice a1 N c1, .slice a2 n2 c2, .slice a3 n3 c3, .int .i64 rs, .int .i64 rm] 30
  have HG := Lib.hid RG
  have HP := Lib.hid (i1.keep B2)
  have HB0 := Lib.hid (hb.trans (B2.mono hb.size))
  clear i1 i2 i3 hb RG B2 sz2 hn2 hn3 HF
  go_upto_region 2 with fail
  rw [← hW2]
  try rw [← hg]
  clear hW2 hg
  go_wp2_with fail
  go_loopw [8] (fun i wr => ∃ k : Nat, k ≤ M ∧ i = .int .i64 k ∧ Hid ((∀ q ∈ qs.take k, (pl.any fun x => eqS x.nm q.nm) = true) ∧ Below W2.heap.size W2 wr)) (fun i _ => M - (intOf i).toNat)
  case atStart => exact ⟨0, Nat.zero_le _, rfl, Lib.hid ⟨fun q h => by simp at h, Below.refl _ _⟩⟩
  case round =>
    obtain ⟨k, hk, rfl, hH⟩ := hrel
    have HK := Lib.hid hH.out.1
    have HB := Lib.hid hH.out.2
    clear hH
    by_cases hlt : k < M
    · obtain ⟨lb, lo, rfl, hll, hlc⟩ := (show InS wr la qs.length 2 (flat prmL qs) by rw [← HM.out]; exact HQ.out.keep (HB0.out.trans (HB.out.mono HB0.out.size))).at prmL_len (by have := HM.out; omega)
      obtain ⟨q, hq⟩ : ∃ x, qs[k]? = some x := ⟨_, List.getElem?_eq_getElem (by have := HM.out; omega)⟩
      obtain ⟨qn, qv⟩ := q
      have l0 : wr.cell? ⟨lb, lo + k * 2 + 0, none⟩ = some (.string qn) := hlc k _ hq 0 _ rfl
      have l1 : wr.cell? ⟨lb, lo + k * 2 + 1, none⟩ = some (.int .i64 qv) := hlc k _ hq 1 _ rfl
      rw [Nat.add_zero] at l0
      have HQK := Lib.hid hq
      have HTK := Lib.hid (show qs.take (k + 1) = qs.take k ++ [⟨qn, qv⟩] by rw [List.take_add_one, hq]; rfl)
      have kk : (k : Int) < (M : Int) := by omega
      clear hq hlc
      obtain ⟨I, hI⟩ : ∃ I, I = firstI (fun x => eqS x.nm qn) pl 0 := ⟨_, rfl⟩
      have HII := Lib.hid hI
      clear hI
      have g_0 := (HG.out.keep HB.out).c 0 _ rfl
      have g_1 := (HG.out.keep HB.out).c 1 _ rfl
      have g_2 := (HG.out.keep HB.out).c 2 _ rfl
      have g_3 := (HG.out.keep HB.out).c 3 _ rfl
      have g_4 := (HG.out.keep HB.out).c 4 _ rfl
      have g_5 := (HG.out.keep HB.out).c 5 _ rfl
      go_wp2_with fail
      have HS0 := Lib.hid (show (wr.cell? ⟨g, 0, none⟩ = some (.string s) ∧ wr.cell? ⟨g, 1, none⟩ = some (.slice a1 N c1) ∧ wr.cell? ⟨g, 2, none⟩ = some (.slice a2 n2 c2) ∧ wr.cell? ⟨g, 3, none⟩ = some (.slice a3 n3 c3) ∧ wr.cell? ⟨g, 4, none⟩ = some (.int .i64 rs) ∧ wr.cell? ⟨g, 5, none⟩ = some (.int .i64 rm) ∧ wr.cell? ⟨lb, lo + k * 2, none⟩ = some (.string qn)) from ⟨g_0, g_1, g_2, g_3, g_4, g_5, l0⟩)
      refine wp_region_held_drew (S := fun w => (w.cell? ⟨g, 0, none⟩ = some (.string s) ∧ w.cell? ⟨g, 1, none⟩ = some (.slice a1 N c1) ∧ w.cell? ⟨g, 2, none⟩ = some (.slice a2 n2 c2) ∧ w.cell? ⟨g, 3, none⟩ = some (.slice a3 n3 c3) ∧ w.cell? ⟨g, 4, none⟩ = some (.int .i64 rs) ∧ w.cell? ⟨g, 5, none⟩ = some (.int .i64 rm) ∧ w.cell? ⟨lb, lo + k * 2, none⟩ = some (.string qn))) (by kernel_rfl) HS0.out (fun hHeld => ?_)
      have hdr : Below wr.heap.size wr wr.drew := (Below.refl _ _).drew
      have HBX := Lib.hid (HB.out.trans (hdr.mono HB.out.size))
      have HPX := Lib.hid ((HP.out.keep HB.out).keep hdr)
      obtain ⟨wx, hwx⟩ : ∃ x, x = wr.drew := ⟨_, rfl⟩
      have HGL := Lib.hid (show g < wx.heap.size by rw [hwx]; exact (HG.out.keep HB.out).lt)
      have HLB := Lib.hid (show lb < wx.heap.size by rw [hwx]; exact hll)
      rw [← hwx] at HBX HPX hHeld ⊢
      clear hwx hdr HS0 g_0 g_1 g_2 g_3 g_4 g_5 l0 hll
      refine' wpAnyH_take (i := 0) (v := _) rfl (by kernel_rfl) (by kernel_rfl) (by kernel_rfl) (fun _ _ _ h => h) (Or.inl ⟨by rfl, ?_⟩) hHeld ?_
      rotate_left
      · intro w hSw
        (try dsimp only at hSw)
        go_simp
        try with_reducible rfl
      (try simp only [Act.put, List.getElem_toArray, List.getElem_cons_zero, List.getElem_cons_succ, List.setIfInBounds_toArray, List.set_cons_zero, List.set_cons_succ])
      refine' wpAnyH_take (i := 1) (v := _) rfl (by kernel_rfl) (by kernel_rfl) (by kernel_rfl) (fun _ _ _ h => h) (Or.inl ⟨by rfl, ?_⟩) hHeld ?_
      rotate_left
      · intro w hSw
        (try dsimp only at hSw)
        go_simp
        try with_reducible rfl
      (try simp only [Act.put, List.getElem_toArray, List.getElem_cons_zero, List.getElem_cons_succ, List.setIfInBounds_toArray, List.set_cons_zero, List.set_cons_succ])
      refine' wpAnyH_take (i := 2) (v := _) rfl (by kernel_rfl) (by kernel_rfl) (by kernel_rfl) (fun _ _ _ h => h) (Or.inl ⟨by rfl, ?_⟩) hHeld ?_
      rotate_left
      · intro w hSw
        (try dsimp only at hSw)
        go_simp
        try with_reducible rfl
      (try simp only [Act.put, List.getElem_toArray, List.getElem_cons_zero, List.getElem_cons_succ, List.setIfInBounds_toArray, List.set_cons_zero, List.set_cons_succ])
      refine' wpAnyH_take (i := 3) (v := _) rfl (by kernel_rfl) (by kernel_rfl) (by kernel_rfl) (fun _ _ _ h => h) (Or.inl ⟨by rfl, ?_⟩) hHeld ?_
      rotate_left
      · intro w hSw
        (try dsimp only at hSw)
        go_simp
        try with_reducible rfl
      (try simp only [Act.put, List.getElem_toArray, List.getElem_cons_zero, List.getElem_cons_succ, List.setIfInBounds_toArray, List.set_cons_zero, List.set_cons_succ])
      refine' wpAnyH_take (i := 4) (v := _) rfl (by kernel_rfl) (by kernel_rfl) (by kernel_rfl) (fun _ _ _ h => h) (Or.inl ⟨by rfl, ?_⟩) hHeld ?_
      rotate_left
      · intro w hSw
        (try dsimp only at hSw)
        go_simp
        try with_reducible rfl
      (try simp only [Act.put, List.getElem_toArray, List.getElem_cons_zero, List.getElem_cons_succ, List.setIfInBounds_toArray, List.set_cons_zero, List.set_cons_succ])
      refine' wpAnyH_take (i := 5) (v := _) rfl (by kernel_rfl) (by kernel_rfl) (by kernel_rfl) (fun _ _ _ h => h) (Or.inl ⟨by rfl, ?_⟩) hHeld ?_
      rotate_left
      · intro w hSw
        (try dsimp only at hSw)
        go_simp
        try with_reducible rfl
      (try simp only [Act.put, List.getElem_toArray, List.getElem_cons_zero, List.getElem_cons_succ, List.setIfInBounds_toArray, List.set_cons_zero, List.set_cons_succ])
      have hh := hHeld
      refine wpAnyH_ready (rs := [6]) (by kernel_rfl) (by simp) ?_
      refine AllReadyH.cons rfl (fun K hK => ?_) AllReadyH.nil
      go_simp
      have ki := rindex_any s a1 a2 a3 c1 n2 c2 n3 c3 rs rm qn pl N HN.out wx HPX.out
      rw [← HII.out] at ki
      have KI := Lib.hid ki
      clear ki
      refine KI.out.mono ?_
      rintro e wy ⟨rfl, hb⟩
      have HBY := Lib.hid (HBX.out.trans (hb.mono HBX.out.size))
      have hs2 : (wy.cell? ⟨g, 0, none⟩ = some (.string s) ∧ wy.cell? ⟨g, 1, none⟩ = some (.slice a1 N c1) ∧ wy.cell? ⟨g, 2, none⟩ = some (.slice a2 n2 c2) ∧ wy.cell? ⟨g, 3, none⟩ = some (.slice a3 n3 c3) ∧ wy.cell? ⟨g, 4, none⟩ = some (.int .i64 rs) ∧ wy.cell? ⟨g, 5, none⟩ = some (.int .i64 rm) ∧ wy.cell? ⟨lb, lo + k * 2, none⟩ = some (.string qn)) := ⟨(hb.cell (p := ⟨g, 0, none⟩) HGL.out).trans hh.1, (hb.cell (p := ⟨g, 1, none⟩) HGL.out).trans hh.2.1, (hb.cell (p := ⟨g, 2, none⟩) HGL.out).trans hh.2.2.1, (hb.cell (p := ⟨g, 3, none⟩) HGL.out).trans hh.2.2.2.1, (hb.cell (p := ⟨g, 4, none⟩) HGL.out).trans hh.2.2.2.2.1, (hb.cell (p := ⟨g, 5, none⟩) HGL.out).trans hh.2.2.2.2.2.1, (hb.cell (p := ⟨lb, lo + k * 2, none⟩) HLB.out).trans hh.2.2.2.2.2.2⟩
      clear hb hHeld hh HBX HPX HGL HLB KI
      (try go_simp)
      refine hK.out _ _ hs2 (fun hHeld => ?_)
      clear hK K hs2
      (try simp only [Act.put, List.getElem_toArray, List.getElem_cons_zero, List.getElem_cons_succ, List.setIfInBounds_toArray, List.set_cons_zero, List.set_cons_succ])
      refine' wpAnyH_take (i := 7) (v := _) rfl (by kernel_rfl) (by kernel_rfl) (by kernel_rfl) (fun _ _ _ h => h) (Or.inl ⟨by rfl, ?_⟩) hHeld ?_
      rotate_left
      · intro w hSw
        (try dsimp only at hSw)
        go_simp
        try with_reducible rfl
      (try simp only [Act.put, List.getElem_toArray, List.getElem_cons_zero, List.getElem_cons_succ, List.setIfInBounds_toArray, List.set_cons_zero, List.set_cons_succ])
      refine wpAnyH_done (by kernel_rfl) ?_ _
      (try simp only [Act.put, List.getElem_toArray, List.getElem_cons_zero, List.getElem_cons_succ, List.setIfInBounds_toArray, List.set_cons_zero, List.set_cons_succ])
      clear hHeld
      rcases firstI_spec (fun x => eqS x.nm qn) pl 0 with ⟨h1, h2⟩ | ⟨j, x, h1, h2, h3⟩
      · obtain rfl : I = -1 := HII.out.trans h1
        have HX2 := Lib.hid h2
        clear h1 h2 l1
        have HE := Lib.hid (show prmE pl qs ag = 3 by unfold prmE; exact if_pos (known_miss HQK.out HX2.out))
        go_wp2_with fail
        go_ret2
        exact ⟨_, (by rw [HE.out]; rfl), ⟨fun _ => rfl, fun h => absurd (HE.out.symm.trans h) (by decide)⟩, HB0.out.trans (HBY.out.mono HB0.out.size)⟩
      · obtain ⟨J, hJ⟩ : ∃ J : Nat, I = (J : Int) := ⟨j, by rw [HII.out, h3]; congr 1; omega⟩
        have HX2 := Lib.hid (show (pl.any fun x => eqS x.nm qn) = true from List.any_eq_true.2 ⟨x, List.mem_of_getElem? h1, h2⟩)
        subst hJ
        have e1 : decide ((J : Int) < 0) = false := decide_eq_false (by omega)
        have HK2 := Lib.hid (show ∀ q ∈ qs.take (k + 1), (pl.any fun x => eqS x.nm q.nm) = true by
          intro q hq
          rw [HTK.out] at hq
          rcases List.mem_append.1 hq with h | h
          · exact HK.out q h
          · obtain rfl : q = ⟨qn, qv⟩ := by simpa using h
            exact HX2.out)
        clear h1 h2 h3 l1
        go_wp2_with fail
        go_roundw
        case rel => exact ⟨k + 1, by omega, by go_num, Lib.hid ⟨HK2.out, HBY.out⟩⟩
        case measure => (simp [intOf]) <;> omega
    · obtain rfl : k = M := by omega
      have HKN := Lib.hid (show knownB pl qs = true from known_all (by have h := HK.out; rw [HM.out, List.take_length] at h; exact h))
      have HBa := HB
      clear HK HB hlt hk
      go_wp2_with fail
      obtain ⟨wa, hwa⟩ : ∃ x, x = wr := ⟨_, rfl⟩
      rw [← hwa] at HBa ⊢
      clear hwa
      go_loopw [9] (fun i wr => ∃ m : Nat, m ≤ k ∧ i = .int .i64 m ∧ Hid (apartB (qs.take m) = true ∧ Below W2.heap.size W2 wr)) (fun i _ => k - (intOf i).toNat)
      case atStart => exact ⟨0, Nat.zero_le _, rfl, Lib.hid ⟨rfl, HBa.out⟩⟩
      case round =>
        obtain ⟨m, hm, rfl, hH⟩ := hrel
        have HA := Lib.hid hH.out.1
        have HB := Lib.hid hH.out.2
        clear hH
        by_cases hlt : m < k
        · obtain ⟨qm, hqm⟩ : ∃ x, qs[m]? = some x := ⟨_, List.getElem?_eq_getElem (by have := HM.out; omega)⟩
          obtain ⟨mn, mv⟩ := qm
          have HQM := Lib.hid hqm
          have HTK := Lib.hid (show qs.take (m + 1) = qs.take m ++ [⟨mn, mv⟩] by rw [List.take_add_one, hqm]; rfl)
          have mk1 : (m : Int) < (k : Int) := by omega
          clear hqm
          go_wp2_with fail
          obtain ⟨wb, hwb⟩ : ∃ x, x = wr := ⟨_, rfl⟩
          rw [← hwb] at HB ⊢
          clear hwb
          go_loopw [10] (fun i wr => ∃ j : Nat, j ≤ m ∧ i = .int .i64 j ∧ Hid ((∀ q ∈ qs.take j, eqS q.nm mn = false) ∧ Below W2.heap.size W2 wr)) (fun i _ => m - (intOf i).toNat)
          case atStart => exact ⟨0, Nat.zero_le _, rfl, Lib.hid ⟨fun q h => by simp at h, HB.out⟩⟩
          case round =>
            obtain ⟨j, hj, rfl, hH⟩ := hrel
            have HE := Lib.hid hH.out.1
            have HBj := Lib.hid hH.out.2
            clear hH
            by_cases hlj : j < m
            · obtain ⟨lb, lo, rfl, hll, hlc⟩ := (show InS wr la qs.length 2 (flat prmL qs) by rw [← HM.out]; exact HQ.out.keep (HB0.out.trans (HBj.out.mono HB0.out.size))).at prmL_len (by have := HM.out; omega)
              obtain ⟨q, hq⟩ : ∃ x, qs[j]? = some x := ⟨_, List.getElem?_eq_getElem (by have := HM.out; omega)⟩
              obtain ⟨qn, qv⟩ := q
              have l0 : wr.cell? ⟨lb, lo + j * 2 + 0, none⟩ = some (.string qn) := hlc j _ hq 0 _ rfl
              have m0 : wr.cell? ⟨lb, lo + m * 2 + 0, none⟩ = some (.string mn) := hlc m _ HQM.out 0 _ rfl
              rw [Nat.add_zero] at l0 m0
              have HQK := Lib.hid hq
              have HTJ := Lib.hid (show qs.take (j + 1) = qs.take j ++ [⟨qn, qv⟩] by rw [List.take_add_one, hq]; rfl)
              have jk1 : (j : Int) < (k : Int) := by omega
              have jd : decide (j < k) = true := decide_eq_true (by omega)
              have md : decide (m < k) = true := decide_eq_true (by omega)
              have m2 : (m : Int) < (k : Int) := by omega
              clear hq hlc hll
              by_cases he : mn = qn
              · subst he
                have HE9 := Lib.hid (show apartB qs = false from apart_no (i := j) (j := m) hlj HQK.out HQM.out rfl)
                have e1 : (mn.toList == mn.toList) = true := by simp
                go_wp2_with fail
                go_quiet ((fail))
                (try simp only [Exit.then])
                have HE := Lib.hid (show prmE pl qs ag = 5 by rw [HT.out, if_neg (by rw [HKN.out]; decide), if_pos HE9.out])
                go_wp2_with fail
                go_ret2
                exact ⟨_, (by rw [HE.out]; rfl), ⟨fun _ => rfl, fun h => absurd (HE.out.symm.trans h) (by decide)⟩, HB0.out.trans ((bdrewN HBj.out _).mono HB0.out.size)⟩
              · have e1 := eqs_no he
                have HE2 := Lib.hid (show ∀ q ∈ qs.take (j + 1), eqS q.nm mn = false by
                  intro q hq
                  rw [HTJ.out] at hq
                  rcases List.mem_append.1 hq with h | h
                  · exact HE.out q h
                  · obtain rfl : q = ⟨qn, qv⟩ := by simpa using h
                    exact decide_eq_false (fun e => he e.symm))
                clear he
                go_wp2_with fail
                go_quiet ((fail))
                (try simp only [Exit.then])
                go_wp2_with fail
                go_roundw
                case rel => exact ⟨j + 1, by omega, by go_num, Lib.hid ⟨HE2.out, bdrewN HBj.out _⟩⟩
                case measure => (simp [intOf]) <;> omega
            · obtain rfl : j = m := by omega
              have HA2 := Lib.hid (show apartB (qs.take (j + 1)) = true by
                rw [HTK.out, apartB_snoc, HA.out, Bool.true_and, Bool.not_eq_true']
                rw [List.any_eq_false]
                intro q hq
                rw [HE.out q hq]; simp)
              go_wp2_with fail
              go_roundw
              case rel => exact ⟨j + 1, by omega, by go_num, Lib.hid ⟨HA2.out, HBj.out⟩⟩
              case measure => (simp [intOf]) <;> omega
        · obtain rfl : m = k := by omega
          have HAP2 := Lib.hid (show apartB qs = true by have h := HA.out; rw [HM.out, List.take_length] at h; exact h)
          have HBb := HB
          clear HA HB hlt hm
          obtain ⟨wc, hwc⟩ : ∃ x, x = wr := ⟨_, rfl⟩
          rw [← hwc] at HBb ⊢
          clear hwc
          have nal0 : Below wc.heap.size wc (wc.alloc (Obj.cells #[] 2)) := (Below.refl _ _).alloc (Nat.le_refl _) _
          have HE0 := Lib.hid (own_empty wc 2 1)
          have HNA := Lib.hid nal0
          have HBc := Lib.hid (HBb.out.trans (nal0.mono HBb.out.size))
          clear nal0
          go_wp2_with fail
          go_loopw [11, 12] (fun p i wr => ∃ k : Nat, ∃ ob cc, k ≤ N ∧ i = .int .i64 k ∧ p = .slice (some ⟨ob, 0, none⟩) k cc ∧ Hid (wr.ownsRow wc.heap.size 2 1 (.slice (some ⟨ob, 0, none⟩) k cc) k (flat iL (dfK pl k)) ∧ Below wc.heap.size wc wr)) (fun _ i _ => N - (intOf i).toNat)
          case atStart => exact ⟨0, _, _, Nat.zero_le _, rfl, rfl, Lib.hid ⟨HE0.out, HNA.out⟩⟩
          case round =>
            obtain ⟨j, ob, cc, hj, rfl, rfl, hH⟩ := hrel
            have HV := Lib.hid hH.out.1
            have HBd := Lib.hid hH.out.2
            have HB := Lib.hid (HBb.out.trans (HBd.out.mono HBb.out.size))
            clear hH
            have g_1 := (HG.out.keep HB.out).c 1 _ rfl
            by_cases hlt : j < N
            · have n0 : N ≤ 9223372036854775807 := by omega
              obtain ⟨lb, lo, rfl, hll, hlc⟩ := (show InS wr a1 pl.length 4 (flat bndL pl) by rw [← HN.out]; exact HP.out.keep HB.out).at bndL_len (by have := HN.out; omega)
              obtain ⟨x, hx⟩ : ∃ x, pl[j]? = some x := ⟨_, List.getElem?_eq_getElem (by have := HN.out; omega)⟩
              obtain ⟨xn, xl, xh, xd⟩ := x
              have l3 : wr.cell? ⟨lb, lo + j * 4 + 3, none⟩ = some (.int .i64 xd) := hlc j _ hx 3 _ rfl
              have HTJ := Lib.hid (show dfK pl (j + 1) = dfK pl j ++ [xd] by unfold dfK; rw [List.take_add_one, hx, Option.toList_some, List.map_append]; rfl)
              have jk : (j : Int) < (N : Int) := by omega
              clear hx hlc hll
              have hif := HIF.out
              have hz0 := HZ0.out
              have hz1 := HZ1.out
              have hz2 := HZ2.out
              go_wp2_with (at_builtin; refine wpList_append_own _ rfl _ _ 39 rfl wc.heap.size 2 i0 (.int .i64 0) 1 8 Tryd.underlying39 hif hz0 hz1 hz2 rfl (by decide) _ _ _ rfl (own_at HV.out _) ⟨wr.heap.size, 0, none⟩ 1 1 [.int .i64 xd] rfl rfl ?x1 ?x2 ?x3 ?x4 ?x5 ?_)
              try
                case x1 =>
                  intro q u hu
                  rw [add_plain, Nat.zero_add]
                  exact (row_fresh wr #[.int .i64 xd] 2).c q u hu
              try
                case x2 =>
                  first
                    | rfl
                    | (intro u hu; simp at hu; subst hu; rfl)
              case x3 => unfold maxLen; omega
              case x4 => omega
              case x5 => have := HBd.out.size; (try rw [World.size_alloc]); omega
              intro v5 w5 hown hgrow _
              obtain ⟨ob5, c5, rfl⟩ : ∃ ob5 c5, v5 = .slice (some ⟨ob5, 0, none⟩) (j + 1) c5 := by
                rcases hown.2 with ⟨_, h⟩ | ⟨g9, cap, cur, h1, _⟩
                · omega
                · exact ⟨_, _, h1⟩
              have nal : Below wr.heap.size wr (wr.alloc (Obj.cells #[.int .i64 xd] 2)) := (Below.refl _ _).alloc (Nat.le_refl _) _
              have vlt := fun q e => (HV.out.lt q e).1
              have B5 := Lib.hid ((HBd.out.trans (nal.mono HBd.out.size)).grown hgrow (by have := HBd.out.size; rw [World.size_alloc]; omega) (fun q e => vlt q e))
              have V5 := Lib.hid (show w5.ownsRow wc.heap.size 2 1 (.slice (some ⟨ob5, 0, none⟩) (j + 1) c5) (j + 1) (flat iL (dfK pl (j + 1))) by
                rw [HTJ.out, flat_append]; exact hown)
              clear hown hgrow nal vlt hif hz0 hz1 hz2 g_1 l3
              go_wp2_with fail
              go_roundw
              case rel => exact ⟨j + 1, ob5, c5, by omega, by go_num, rfl, Lib.hid ⟨V5.out, B5.out⟩⟩
              case measure => (simp [intOf]) <;> omega
            · obtain rfl : N = j := by omega
              have HRO := Lib.hid (show RowAt wr ob (flat iL (numsB pl (mapD qs 0))) by
                have h := row_own HV.out
                rw [HN.out] at h
                unfold dfK at h
                rw [List.take_length] at h
                rw [mapD_zero, nums_zero]; exact h)
              have HOB := Lib.hid (show wc.heap.size ≤ ob from (HV.out.lt ob rfl).1)
              have HBe := HBd
              clear HV HBd HB hlt hj
              go_wp2_with fail
              clear g_1
              obtain ⟨wd, hwd⟩ : ∃ x, x = wr := ⟨_, rfl⟩
              rw [← hwd] at HBe HRO ⊢
              clear hwd
              go_loopw [13] (fun i wr => ∃ k : Nat, k ≤ m ∧ i = .int .i64 k ∧ Hid (rangeB pl (qs.take k) = true ∧ RowAt wr ob (flat iL (numsB pl (mapD qs k))) ∧ Below wc.heap.size wc wr)) (fun i _ => m - (intOf i).toNat)
              case atStart => exact ⟨0, Nat.zero_le _, rfl, Lib.hid ⟨rfl, HRO.out, HBe.out⟩⟩
              case round =>
                obtain ⟨k, hk, rfl, hH⟩ := hrel
                have HRG := Lib.hid hH.out.1
                have HR := Lib.hid hH.out.2.1
                have HBf := Lib.hid hH.out.2.2
                have HB := Lib.hid (HBb.out.trans (HBf.out.mono HBb.out.size))
                clear hH
                by_cases hlt : k < m
                · obtain ⟨lb, lo, rfl, hll, hlc⟩ := (show InS wr la qs.length 2 (flat prmL qs) by rw [← HM.out]; exact HQ.out.keep (HB0.out.trans (HB.out.mono HB0.out.size))).at prmL_len (by have := HM.out; omega)
                  obtain ⟨q, hq⟩ : ∃ x, qs[k]? = some x := ⟨_, List.getElem?_eq_getElem (by have := HM.out; omega)⟩
                  obtain ⟨qn, qv⟩ := q
                  have l0 : wr.cell? ⟨lb, lo + k * 2 + 0, none⟩ = some (.string qn) := hlc k _ hq 0 _ rfl
                  have l1 : wr.cell? ⟨lb, lo + k * 2 + 1, none⟩ = some (.int .i64 qv) := hlc k _ hq 1 _ rfl
                  rw [Nat.add_zero] at l0
                  have HQK := Lib.hid hq
                  have HTK := Lib.hid (show qs.take (k + 1) = qs.take k ++ [⟨qn, qv⟩] by rw [List.take_add_one, hq]; rfl)
                  have kk : (k : Int) < (m : Int) := by omega
                  clear hq hlc
                  have mM : m ≤ 9223372036854775807 := by omega
                  obtain ⟨j2, x, hx, hxe⟩ : ∃ j2 x, pl[j2]? = some x ∧ firstI (fun x => eqS x.nm qn) pl 0 = ((j2 : Nat) : Int) ∧ x.nm = qn := by
                    rcases firstI_spec (fun x => eqS x.nm qn) pl 0 with ⟨_, h2⟩ | ⟨j2, x, h1, h2, h3⟩
                    · have h := known_miss HQK.out h2
                      rw [HKN.out] at h; cases h
                    · exact ⟨j2, x, h1, by rw [h3]; congr 1; omega, of_decide_eq_true h2⟩
                  obtain ⟨xn, xl, xh, xd⟩ := x
                  obtain ⟨hx2, hxn⟩ := hxe
                  obtain rfl : xn = qn := hxn
                  have HXJ := Lib.hid hx
                  have j2N : j2 < N := by have := (List.getElem?_eq_some_iff.1 hx).1; have := HN.out; omega
                  have HII := Lib.hid hx2.symm
                  clear hx2
                  have HL1 := Lib.hid l1
                  have HRF := Lib.hid HR.out
                  have hll2 := hll
                  have HLL9 := Lib.hid hll
                  have g_0 := (HG.out.keep HB.out).c 0 _ rfl
                  have g_1 := (HG.out.keep HB.out).c 1 _ rfl
                  have g_2 := (HG.out.keep HB.out).c 2 _ rfl
                  have g_3 := (HG.out.keep HB.out).c 3 _ rfl
                  have g_4 := (HG.out.keep HB.out).c 4 _ rfl
                  have g_5 := (HG.out.keep HB.out).c 5 _ rfl
                  go_wp2_with fail
                  have HS0 := Lib.hid (show (wr.cell? ⟨g, 0, none⟩ = some (.string s) ∧ wr.cell? ⟨g, 1, none⟩ = some (.slice a1 N c1) ∧ wr.cell? ⟨g, 2, none⟩ = some (.slice a2 n2 c2) ∧ wr.cell? ⟨g, 3, none⟩ = some (.slice a3 n3 c3) ∧ wr.cell? ⟨g, 4, none⟩ = some (.int .i64 rs) ∧ wr.cell? ⟨g, 5, none⟩ = some (.int .i64 rm) ∧ wr.cell? ⟨lb, lo + k * 2, none⟩ = some (.string xn)) from ⟨g_0, g_1, g_2, g_3, g_4, g_5, l0⟩)
                  refine wp_region_held_drew (S := fun w => (w.cell? ⟨g, 0, none⟩ = some (.string s) ∧ w.cell? ⟨g, 1, none⟩ = some (.slice a1 N c1) ∧ w.cell? ⟨g, 2, none⟩ = some (.slice a2 n2 c2) ∧ w.cell? ⟨g, 3, none⟩ = some (.slice a3 n3 c3) ∧ w.cell? ⟨g, 4, none⟩ = some (.int .i64 rs) ∧ w.cell? ⟨g, 5, none⟩ = some (.int .i64 rm) ∧ w.cell? ⟨lb, lo + k * 2, none⟩ = some (.string xn))) (by kernel_rfl) HS0.out (fun hHeld => ?_)
                  have hdr : Below wr.heap.size wr wr.drew := (Below.refl _ _).drew
                  have HBX := Lib.hid (HB.out.trans (hdr.mono HB.out.size))
                  have HPX := Lib.hid ((HP.out.keep HB.out).keep hdr)
                  obtain ⟨wx, hwx⟩ : ∃ x, x = wr.drew := ⟨_, rfl⟩
                  have HGL := Lib.hid (show g < wx.heap.size by rw [hwx]; exact (HG.out.keep HB.out).lt)
                  have HLB := Lib.hid (show lb < wx.heap.size by rw [hwx]; exact hll)
                  have HRX := Lib.hid (show RowAt wx ob (flat iL (numsB pl (mapD qs k))) by rw [hwx]; exact HR.out.keep hdr)
                  have HFX := Lib.hid (show Below wc.heap.size wc wx by rw [hwx]; exact HBf.out.trans (hdr.mono HBf.out.size))
                  have HLX := Lib.hid (show wx.cell? ⟨lb, lo + k * 2 + 1, none⟩ = some (.int .i64 qv) by rw [hwx]; exact (hdr.cell (p := ⟨lb, lo + k * 2 + 1, none⟩) HLL9.out).trans HL1.out)
                  rw [← hwx] at HBX HPX hHeld ⊢
                  clear hwx hdr HS0 g_0 g_1 g_2 g_3 g_4 g_5 l0 hll l1
                  refine' wpAnyH_take (i := 0) (v := _) rfl (by kernel_rfl) (by kernel_rfl) (by kernel_rfl) (fun _ _ _ h => h) (Or.inl ⟨by rfl, ?_⟩) hHeld ?_
                  rotate_left
                  · intro w hSw
                    (try dsimp only at hSw)
                    go_simp
                    try with_reducible rfl
                  (try simp only [Act.put, List.getElem_toArray, List.getElem_cons_zero, List.getElem_cons_succ, List.setIfInBounds_toArray, List.set_cons_zero, List.set_cons_succ])
                  refine' wpAnyH_take (i := 1) (v := _) rfl (by kernel_rfl) (by kernel_rfl) (by kernel_rfl) (fun _ _ _ h => h) (Or.inl ⟨by rfl, ?_⟩) hHeld ?_
                  rotate_left
                  · intro w hSw
                    (try dsimp only at hSw)
                    go_simp
                    try with_reducible rfl
                  (try simp only [Act.put, List.getElem_toArray, List.getElem_cons_zero, List.getElem_cons_succ, List.setIfInBounds_toArray, List.set_cons_zero, List.set_cons_succ])
                  refine' wpAnyH_take (i := 2) (v := _) rfl (by kernel_rfl) (by kernel_rfl) (by kernel_rfl) (fun _ _ _ h => h) (Or.inl ⟨by rfl, ?_⟩) hHeld ?_
                  rotate_left
                  · intro w hSw
                    (try dsimp only at hSw)
                    go_simp
                    try with_reducible rfl
                  (try simp only [Act.put, List.getElem_toArray, List.getElem_cons_zero, List.getElem_cons_succ, List.setIfInBounds_toArray, List.set_cons_zero, List.set_cons_succ])
                  refine' wpAnyH_take (i := 3) (v := _) rfl (by kernel_rfl) (by kernel_rfl) (by kernel_rfl) (fun _ _ _ h => h) (Or.inl ⟨by rfl, ?_⟩) hHeld ?_
                  rotate_left
                  · intro w hSw
                    (try dsimp only at hSw)
                    go_simp
                    try with_reducible rfl
                  (try simp only [Act.put, List.getElem_toArray, List.getElem_cons_zero, List.getElem_cons_succ, List.setIfInBounds_toArray, List.set_cons_zero, List.set_cons_succ])
                  refine' wpAnyH_take (i := 4) (v := _) rfl (by kernel_rfl) (by kernel_rfl) (by kernel_rfl) (fun _ _ _ h => h) (Or.inl ⟨by rfl, ?_⟩) hHeld ?_
                  rotate_left
                  · intro w hSw
                    (try dsimp only at hSw)
                    go_simp
                    try with_reducible rfl
                  (try simp only [Act.put, List.getElem_toArray, List.getElem_cons_zero, List.getElem_cons_succ, List.setIfInBounds_toArray, List.set_cons_zero, List.set_cons_succ])
                  refine' wpAnyH_take (i := 5) (v := _) rfl (by kernel_rfl) (by kernel_rfl) (by kernel_rfl) (fun _ _ _ h => h) (Or.inl ⟨by rfl, ?_⟩) hHeld ?_
                  rotate_left
                  · intro w hSw
                    (try dsimp only at hSw)
                    go_simp
                    try with_reducible rfl
                  (try simp only [Act.put, List.getElem_toArray, List.getElem_cons_zero, List.getElem_cons_succ, List.setIfInBounds_toArray, List.set_cons_zero, List.set_cons_succ])
                  have hh := hHeld
                  refine wpAnyH_ready (rs := [6]) (by kernel_rfl) (by simp) ?_
                  refine AllReadyH.cons rfl (fun K hK => ?_) AllReadyH.nil
                  go_simp
                  have ki := rindex_any s a1 a2 a3 c1 n2 c2 n3 c3 rs rm xn pl N HN.out wx HPX.out
                  rw [← HII.out] at ki
                  have KI := Lib.hid ki
                  clear ki
                  refine KI.out.mono ?_
                  rintro e wy ⟨rfl, hb⟩
                  have HBY := Lib.hid (HBX.out.trans (hb.mono HBX.out.size))
                  have HRY := Lib.hid (HRX.out.keep hb)
                  have HFY := Lib.hid (HFX.out.trans (hb.mono HFX.out.size))
                  have HLY := Lib.hid ((hb.cell (p := ⟨lb, lo + k * 2 + 1, none⟩) HLB.out).trans HLX.out)
                  have HLBY := Lib.hid (Nat.lt_of_lt_of_le HLB.out hb.size)
                  have hs2 : (wy.cell? ⟨g, 0, none⟩ = some (.string s) ∧ wy.cell? ⟨g, 1, none⟩ = some (.slice a1 N c1) ∧ wy.cell? ⟨g, 2, none⟩ = some (.slice a2 n2 c2) ∧ wy.cell? ⟨g, 3, none⟩ = some (.slice a3 n3 c3) ∧ wy.cell? ⟨g, 4, none⟩ = some (.int .i64 rs) ∧ wy.cell? ⟨g, 5, none⟩ = some (.int .i64 rm) ∧ wy.cell? ⟨lb, lo + k * 2, none⟩ = some (.string xn)) := ⟨(hb.cell (p := ⟨g, 0, none⟩) HGL.out).trans hh.1, (hb.cell (p := ⟨g, 1, none⟩) HGL.out).trans hh.2.1, (hb.cell (p := ⟨g, 2, none⟩) HGL.out).trans hh.2.2.1, (hb.cell (p := ⟨g, 3, none⟩) HGL.out).trans hh.2.2.2.1, (hb.cell (p := ⟨g, 4, none⟩) HGL.out).trans hh.2.2.2.2.1, (hb.cell (p := ⟨g, 5, none⟩) HGL.out).trans hh.2.2.2.2.2.1, (hb.cell (p := ⟨lb, lo + k * 2, none⟩) HLB.out).trans hh.2.2.2.2.2.2⟩
                  clear hb hHeld hh HBX HPX HGL HLB KI HRX HFX HLX
                  (try go_simp)
                  refine hK.out _ _ hs2 (fun hHeld => ?_)
                  clear hK K hs2
                  (try simp only [Act.put, List.getElem_toArray, List.getElem_cons_zero, List.getElem_cons_succ, List.setIfInBounds_toArray, List.set_cons_zero, List.set_cons_succ])
                  refine' wpAnyH_take (i := 7) (v := _) rfl (by kernel_rfl) (by kernel_rfl) (by kernel_rfl) (fun _ _ _ h => h) (Or.inl ⟨by rfl, ?_⟩) hHeld ?_
                  rotate_left
                  · intro w hSw
                    (try dsimp only at hSw)
                    go_simp
                    try with_reducible rfl
                  (try simp only [Act.put, List.getElem_toArray, List.getElem_cons_zero, List.getElem_cons_succ, List.setIfInBounds_toArray, List.set_cons_zero, List.set_cons_succ])
                  refine wpAnyH_done (by kernel_rfl) ?_ _
                  (try simp only [Act.put, List.getElem_toArray, List.getElem_cons_zero, List.getElem_cons_succ, List.setIfInBounds_toArray, List.set_cons_zero, List.set_cons_succ])
                  clear hHeld
                  clear HL1 HRF hll2 HLL9
                  obtain ⟨bb, bo, rfl, hbl, hbc⟩ := (show InS wy a1 pl.length 4 (flat bndL pl) by rw [← HN.out]; exact HP.out.keep HBY.out).at bndL_len (by have := HN.out; omega)
                  have b1 : wy.cell? ⟨bb, bo + j2 * 4 + 1, none⟩ = some (.int .i64 xl) := hbc j2 _ HXJ.out 1 _ rfl
                  have b2 : wy.cell? ⟨bb, bo + j2 * 4 + 2, none⟩ = some (.int .i64 xh) := hbc j2 _ HXJ.out 2 _ rfl
                  have g_1 := (HG.out.keep HBY.out).c 1 _ rfl
                  have l1 := HLY.out
                  have kk2 : (j2 : Int) < (N : Int) := by omega
                  have kd1 : decide (j2 < N) = true := decide_eq_true j2N
                  have kd2 : decide (k < m) = true := decide_eq_true hlt
                  have HLO := Lib.hid hbl
                  clear hbc hbl
                  have hro := range_one HAP.out (q := ⟨xn, qv⟩) HXJ.out rfl
                  have HRO1 := Lib.hid hro
                  clear hro hx
                  by_cases hlo : qv < xl
                  · have e1 : decide (qv < xl) = true := decide_eq_true hlo
                    have HF9 := Lib.hid (show rangeB pl qs = false from range_all HQK.out (by rw [HRO1.out]; exact decide_eq_false (fun h => by have := h.1; simp only at this; omega)))
                    clear hlo
                    go_wp2_with fail
                    go_quiet ((fail))
                    (try simp only [Exit.then])
                    have HE := Lib.hid (show prmE pl qs ag = 6 by rw [HT.out, if_neg (by rw [HKN.out]; decide), if_neg (by rw [HAP2.out]; decide), if_pos HF9.out])
                    go_wp2_with fail
                    go_ret2
                    exact ⟨_, (by rw [HE.out]; rfl), ⟨fun _ => rfl, fun h => absurd (HE.out.symm.trans h) (by decide)⟩, HB0.out.trans ((bdrewN HBY.out _).mono HB0.out.size)⟩
                  · have e1 : decide (qv < xl) = false := decide_eq_false hlo
                    by_cases hhi : xh < qv
                    · have e2 : decide (xh < qv) = true := decide_eq_true hhi
                      have HF9 := Lib.hid (show rangeB pl qs = false from range_all HQK.out (by rw [HRO1.out]; exact decide_eq_false (fun h => by have := h.2; simp only at this; omega)))
                      clear hlo hhi
                      go_wp2_with fail
                      go_quiet ((fail))
                      (try simp only [Exit.then])
                      have HE := Lib.hid (show prmE pl qs ag = 6 by rw [HT.out, if_neg (by rw [HKN.out]; decide), if_neg (by rw [HAP2.out]; decide), if_pos HF9.out])
                      go_wp2_with fail
                      go_ret2
                      exact ⟨_, (by rw [HE.out]; rfl), ⟨fun _ => rfl, fun h => absurd (HE.out.symm.trans h) (by decide)⟩, HB0.out.trans ((bdrewN HBY.out _).mono HB0.out.size)⟩
                    · have e2 : decide (xh < qv) = false := decide_eq_false hhi
                      have HRG2 := Lib.hid (show rangeB pl (qs.take (k + 1)) = true by
                        rw [HTK.out, rangeB_snoc, HRG.out, Bool.true_and, HRO1.out]
                        exact decide_eq_true ⟨by simp only; omega, by simp only; omega⟩)
                      have HMK := Lib.hid (show numsB pl (mapD qs (k + 1)) = (numsB pl (mapD qs k)).set j2 qv by
                        rw [mapD_succ HQK.out]
                        exact nums_put HAP.out (mapD_tidy qs k (by have := HM.out; omega)) HXJ.out qv)
                      clear hlo hhi
                      go_wp2_with fail
                      go_quiet ((fail))
                      (try simp only [Exit.then])
                      rename_i nq
                      obtain ⟨wz, hwz⟩ : ∃ x, x = wy.drewN nq := ⟨_, rfl⟩
                      rw [← hwz]
                      have hdn : Below wy.heap.size wy wz := by rw [hwz]; exact bdrewF _ _ _
                      have HRZ := Lib.hid (HRY.out.keep hdn)
                      have HFZ := Lib.hid (HFY.out.trans (hdn.mono HFY.out.size))
                      have l1 := (hdn.cell (p := ⟨lb, lo + k * 2 + 1, none⟩) HLBY.out).trans HLY.out
                      obtain ⟨ov, hov⟩ : ∃ ov, (numsB pl (mapD qs k))[j2]? = some ov := ⟨_, List.getElem?_eq_getElem (by rw [numsB_len, ← HN.out]; exact j2N)⟩
                      have o0 := HRZ.out.c j2 (.int .i64 ov) (by have := flat_at iL_len (numsB pl (mapD qs k)) j2 ov hov 0 (by decide); rw [Nat.mul_one, Nat.add_zero] at this; exact this)
                      have oz := HRZ.out.fz
                      clear hwz hdn hov b1 b2 g_1
                      go_wp2_with fail
                      have HRW := Lib.hid (show RowAt (wz.setCell ⟨ob, j2, none⟩ (.int .i64 qv)) ob (flat iL (numsB pl (mapD qs (k + 1)))) by
                        have h := row_set HRZ.out j2 (by rw [flat_len iL_len, numsB_len, Nat.mul_one, ← HN.out]; exact j2N) (.int .i64 qv)
                        rw [HMK.out, flat_set]
                        exact h)
                      have HFW := Lib.hid (HFZ.out.setCell (p := ⟨ob, j2, none⟩) HOB.out (.int .i64 qv))
                      clear o0 oz l1
                      go_roundw
                      case rel => exact ⟨k + 1, by omega, by go_num, Lib.hid ⟨HRG2.out, HRW.out, HFW.out⟩⟩
                      case measure => (simp [intOf]) <;> omega
                · obtain rfl : k = m := by omega
                  have HRB := Lib.hid (show rangeB pl qs = true by have h := HRG.out; rw [HM.out, List.take_length] at h; exact h)
                  have HRQ := Lib.hid (show RowAt wr ob (flat iL (numsB pl (mapD qs qs.length))) by have h := HR.out; rw [HM.out] at h; exact h)
                  obtain ⟨ns, hns⟩ : ∃ ns, ns = numsB pl (mapD qs qs.length) := ⟨_, rfl⟩
                  have HNS := Lib.hid hns
                  have hnl : ns.length = N := by rw [hns, numsB_len, HN.out]
                  rw [← hns] at HRQ
                  have HII := Lib.hid (show InS wr (some ⟨ob, 0, none⟩) ns.length 1 (flat iL ns) from row_ins1 HRQ.out (by rw [flat_len iL_len]) (by omega))
                  have kh := HKH.out a1 a2 a3 c1 n2 c2 n3 c3 rs rm (some ⟨ob, 0, none⟩) cc ns wr (by rw [hnl, HN.out]) (by rw [← HN.out]; exact HP.out.keep HB.out) HII.out
                  rw [hnl, ← HN.out] at kh
                  have HNL := Lib.hid hnl
                  obtain ⟨AG, hAG⟩ : ∃ z, z = ag ns := ⟨_, rfl⟩
                  rw [← hAG] at kh
                  have KH := Lib.hid kh
                  have HAG := Lib.hid hAG
                  have HE0 := Lib.hid (show prmE pl qs ag = if ag ns = false then 10 else 0 by rw [HT.out, if_neg (by rw [HKN.out]; decide), if_neg (by rw [HAP2.out]; decide), if_neg (by rw [HRB.out]; decide), HNS.out])
                  clear hns hnl kh hAG
                  have g_0 := (HG.out.keep HB.out).c 0 _ rfl
                  have g_1 := (HG.out.keep HB.out).c 1 _ rfl
                  have g_2 := (HG.out.keep HB.out).c 2 _ rfl
                  have g_3 := (HG.out.keep HB.out).c 3 _ rfl
                  have g_4 := (HG.out.keep HB.out).c 4 _ rfl
                  have g_5 := (HG.out.keep HB.out).c 5 _ rfl
                  go_wp2_with fail
                  refine KH.out.mono ?_
                  rintro e w9 ⟨rfl, hb⟩
                  have HB9 := Lib.hid (HB0.out.trans ((HB.out.trans (hb.mono HB.out.size)).mono HB0.out.size))
                  have HI9 := Lib.hid (HII.out.keep hb)
                  clear hb g_0 g_1 g_2 g_3 g_4 g_5
                  cases AG
                  · have HE := Lib.hid (show prmE pl qs ag = 10 by rw [HE0.out, if_pos HAG.out.symm])
                    go_wp2_with fail
                    go_ret2
                    exact ⟨_, (by rw [HE.out]; rfl), ⟨fun _ => rfl, fun h => absurd (HE.out.symm.trans h) (by decide)⟩, HB9.out⟩
                  · have HE := Lib.hid (show prmE pl qs ag = 0 by rw [HE0.out, if_neg (by rw [← HAG.out]; decide)])
                    go_wp2_with fail
                    go_ret2
                    exact ⟨_, (by rw [HE.out]; rfl), ⟨fun h => absurd HE.out h, fun _ => ⟨some ⟨ob, 0, none⟩, cc, by rw [← HNS.out, HNL.out]; rfl, by rw [← HNS.out]; exact HI9.out⟩⟩, HB9.out⟩
end Go.Proofs.YtaobbedajgkmiaaDoor
