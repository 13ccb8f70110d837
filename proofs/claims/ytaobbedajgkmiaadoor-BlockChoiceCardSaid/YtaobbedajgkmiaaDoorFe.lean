/- block.Eval at a block that computes or selects, where all fits; at params that are not allowed. -/
import Derived.Test.YtaobbedajgkmiaaDoorFi
import Derived.Test.YtaobbedajgkmiaaDoorFc
import Derived.Test.YtaobbedajgkmiaaDoorFm
import Derived.Test.YtaobbedajgkmiaaDoorEb
namespace Go.Proofs.YtaobbedajgkmiaaDoor
open Go.RowKit Go.Shelf Go.Maps Go.WideMaps

set_option linter.unusedVariables false
set_option linter.unusedSimpArgs false
/-- the numbers of the first k values, clamped -/
def clK (vs : List (Int × Int)) (k : Nat) : List Int := (vs.take k).map fun v => clampI v.2
theorem clK_succ {vs : List (Int × Int)} {k : Nat} {v : Int × Int} (h : vs[k]? = some v) : clK vs (k + 1) = clK vs k ++ [clampI v.2] := by
  unfold clK
  rw [List.take_add_one, h, Option.toList_some, List.map_append]; rfl
theorem clK_all (vs : List (Int × Int)) : clK vs vs.length = vs.map fun v => clampI v.2 := by unfold clK; rw [List.take_length]
theorem clK_len (vs : List (Int × Int)) (k : Nat) (h : k ≤ vs.length) : (clK vs k).length = k := by unfold clK; rw [List.length_map, List.length_take]; omega
theorem cellH {w : World} {g : Nat} {cur : Array Value} {e : TypeId} {fr : Nat × Nat} (hh : w.heap[g]? = some (.cells cur e fr)) (i : Nat) (u : Value) (hu : cur[i]? = some u) : w.cell? ⟨g, i, none⟩ = some u := by
  simp [World.cell?, hh, hu]
theorem heap_keep {w w' : World} {g : Nat} {o : Obj} (h : w.heap[g]? = some o) (hb : Below w.heap.size w w') : w'.heap[g]? = some o := (hb.block g (Array.getElem?_eq_some_iff.1 h).1).trans h
theorem infoJ : (Tryd.prog.info? 2).map (fun i => (i.zero, i.size, i.bytes)) = some (some (.int .i64 0), 1, 8) := by kernel_rfl
set_option maxHeartbeats 8000000 in
set_option maxRecDepth 100000 in
theorem eval_ok (F : Nat) (G : List Int → List Int → Prop) (op : List Int → List Int → Int) (KO : OpOk F G op) (EG : ∀ args w, (callFunc F args).run Tryd.prog w = .ok (.enter F args) w) (nm ro : ByteArray) (rm rs : Int) (pl : List BndD) (il : List PortD) (ag : List Int → Bool) (hnm : nm.size ≤ maxLen) (KF : FindOk nm ro rm rs pl il) (KA : AgreeOk nm pl ag) (at1 : opsD.atKey (.string nm.data.toList) (.held .nilFunc) = .held (.func (.func F) #[] #[])) (at2 : Maps.has opsD (.string nm.data.toList) = true) (at3 : selD.atKey (.string nm.data.toList) (.held .nilFunc) = .held (.nilFunc)) (at4 : Maps.has selD (.string nm.data.toList) = false) (ps : List Int) (vs : List (Int × Int)) (hpl : inB pl ps = true) (hag : ag ps = true) (l0 : 0 < il.length) (l10 : il.length ≤ 10) (rm0 : 1 ≤ rm) (rm1 : rm ≤ 10) (v0 : il.length ≤ vs.length) (v1 : (vs.length : Int) ≤ il.length + rm - 1) (κ : Int) (hκ : ¬ κ = 0) (hfit : ∀ (i : Nat) (p : PortD) (v : Int × Int), (insK il vs.length)[i]? = some p → vs[i]? = some v → PortOk κ p v) (hG : G ps (vs.map fun v => clampI v.2)) (pa : Option Addr) (pc : Nat) (ia : Option Addr) (ic : Nat) (w : World) (hm : MaxAt w) (hp : InS w pa ps.length 1 (flat iL ps)) (hv : InS w ia vs.length 2 (flat valL vs)) :
    Calls Tryd.prog 23 #[.string nm, .slice pa ps.length pc, .slice ia vs.length ic] w fun e w' => e = .returned (.tuple #[.agg #[.int .i64 (kindI ro), .int .i64 (op ps (vs.map fun v => clampI v.2))], .int .i64 0]) ∧ Below w.heap.size w w' := by
  have HKO := Lib.hid KO
  have HGG := Lib.hid hG
  obtain ⟨i0, hif, hz0, hz1, hz2⟩ := info_parts infoJ
  have HIF := Lib.hid hif
  have HZ0 := Lib.hid hz0
  have HZ1 := Lib.hid hz1
  have HZ2 := Lib.hid hz2
  clear KO hG hif hz0 hz1 hz2
  have HIB := Lib.hid hpl
  have HAG := Lib.hid hag
  have HL0 := Lib.hid l0
  have HL10 := Lib.hid l10
  have HR0 := Lib.hid rm0
  have HR1 := Lib.hid rm1
  have HV0 := Lib.hid v0
  have HV1 := Lib.hid v1
  have HKZ := Lib.hid hκ
  have HFIT := Lib.hid hfit
  clear hpl hag l0 l10 rm0 rm1 v0 v1 hκ hfit
  have HNM := Lib.hid hnm
  have HA1 := Lib.hid at1
  have HA2 := Lib.hid at2
  have HA3 := Lib.hid at3
  have HA4 := Lib.hid at4
  have HKF := Lib.hid KF
  have HKA := Lib.hid KA
  have HMX := Lib.hid hm
  have HPI := Lib.hid hp
  have HVI := Lib.hid hv
  obtain ⟨M, hM⟩ : ∃ M, M = vs.length := ⟨_, rfl⟩
  have HM := Lib.hid hM
  have HML := Lib.hid (show M ≤ 9223372036854775807 by rw [hM]; exact hv.2.1)
  obtain ⟨P, hP⟩ : ∃ M, M = ps.length := ⟨_, rfl⟩
  have HP := Lib.hid hP
  rw [← hM, ← hP]
  have nal := Below.refl w.heap.size w
  obtain ⟨W, q, hW, hq, RQ, B0, sz⟩ := box1 w #[.int .i64 0, .int .i64 0] 51
  have HQ := Lib.hid RQ
  have HB0 := Lib.hid B0
  have HWQ := Lib.hid (show w.heap.size ≤ q by omega)
  clear hnm at1 at2 at3 at4 KF KA hm hp hv hM hP nal RQ B0 sz
  go_enter Tryd.func23, Tryd.ntmps23
  go_upto_region 1 with fail
  rw [← hW]
  try rw [← hq]
  clear hW hq
  go_wp2_with fail
  refine (ops_any _).mono ?_
  rintro e w1 ⟨mb, rfl, hown, hb1⟩
  have hl1 := look_own hown Tryd.underlying83 zeroFO nm HNM.out (.func (.func F) #[] #[]) true HA1.out HA2.out
  clear hown
  go_wp2_with fail
  refine (sel_any _).mono ?_
  rintro e w2 ⟨sb, rfl, hown, hb2⟩
  have hl2 := look_own hown Tryd.underlying87 zeroFS nm HNM.out (.nilFunc) false HA3.out HA4.out
  have HBW2 := Lib.hid (hb1.trans (hb2.mono hb1.size))
  clear hown hl1 hb1 hb2
  go_wp2_with fail
  have hm2 := (HMX.out.keep HB0.out).keep HBW2.out
  refine (HKF.out _ hm2).mono ?_
  rintro e w3 ⟨D, rfl, ⟨v1, v2, ob, rfl, p1, p2, p3, p4⟩, hb⟩
  clear hm2 hl2
  obtain ⟨a1, c1, rfl, i1⟩ := ins_own p1
  obtain ⟨a2, c2, rfl, i2⟩ := ins_own p2
  obtain ⟨N, hN⟩ : ∃ n, n = il.length := ⟨_, rfl⟩
  have HN := Lib.hid hN
  rw [← hN] at p2 p4 ⊢
  obtain ⟨n1, hn1⟩ : ∃ n, n = pl.length := ⟨_, rfl⟩
  have HN1 := Lib.hid hn1
  rw [← hn1] at i1 ⊢
  obtain ⟨cob, hob, hob2⟩ : ∃ cur, w3.heap[ob]? = some (.cells cur 65 (0, 0)) ∧ cur.size = 2 ∧ cur[1]? = some (.string ro) := by
    rcases p3.2 with ⟨h, _⟩ | ⟨g9, cap, cur, h1, h2, h3, h4, h5, h6, h7⟩
    · cases h
    · injection h1 with h1 h8 h9
      injection h1 with h1
      injection h1 with h1
      subst h1 h9
      refine ⟨cur, h3, by omega, ?_⟩
      have h10 : cur.toList[1]? = some (.string ro) := by
        have : (cur.toList.take (1 * 2))[1]? = some (.string ro) := by rw [h7]; rfl
        rw [List.getElem?_take] at this
        simpa using this
      simpa using h10
  have HO2 := Lib.hid hob2
  obtain ⟨B, hB⟩ : ∃ b, b = w2.heap.size := ⟨_, rfl⟩
  rw [← hB] at p2
  have HWB := Lib.hid (show W.heap.size ≤ B by rw [hB]; exact HBW2.out.size)
  have HB3 := Lib.hid (show B ≤ w3.heap.size by rw [hB]; exact hb.size)
  obtain ⟨W4, g, hW4, hg, RG, B4, sz4⟩ := box1 w3 #[.string nm, .slice a1 n1 c1, .slice a2 N c2, .slice (some ⟨ob, 0, none⟩) 1 1, .int .i64 rs, .int .i64 rm] 30
  have HG := Lib.hid (show W4.heap[g]? = some (.cells #[.string nm, .slice a1 n1 c1, .slice a2 N c2, .slice (some ⟨ob, 0, none⟩) 1 1, .int .i64 rs, .int .i64 rm] 30 (0, 0)) by rw [hW4, hg]; exact heap_new _ _)
  have HOB := Lib.hid (heap_keep hob B4)
  have HI1 := Lib.hid (show InS W4 a1 pl.length 4 (flat bndL pl) by have := i1.keep B4; rwa [hn1] at this)
  have HV2 := Lib.hid (own_keep p2 B4)
  have HNG := Lib.hid (show (Value.slice a2 N c2).ownBlock ≠ some g by
    intro e
    have := (p2.lt g e).2
    omega)
  have HNO := Lib.hid p4
  have HBW := Lib.hid ((HBW2.out.trans (hb.mono HBW2.out.size)).trans (B4.mono (Nat.le_trans HBW2.out.size hb.size)))
  have HSB := Lib.hid (Nat.le_trans HB3.out B4.size)
  have d_0 := RG.c 0 _ rfl
  have d_1 := RG.c 1 _ rfl
  have d_2 := RG.c 2 _ rfl
  have d_3 := RG.c 3 _ rfl
  have d_4 := RG.c 4 _ rfl
  have d_5 := RG.c 5 _ rfl
  have HNL := Lib.hid HBW2
  clear i1 i2 p1 p2 p3 p4 hob hob2 hb RG B4 sz4 hn1 hN hB HBW2 HB3
  go_upto_region 6 with fail
  rw [← hW4]
  try rw [← hg]
  clear hW4 hg HNL
  go_wp2_with fail
  have ka := allowed_any nm a1 c1 a2 N c2 (some ⟨ob, 0, none⟩) 1 1 rs rm pl pa pc ps W4 HI1.out ((HPI.out.keep HB0.out).keep HBW.out)
  rw [← HN1.out, ← HP.out] at ka
  have KAA := Lib.hid ka
  clear ka
  rw [HIB.out] at KAA
  refine KAA.out.mono ?_
  rintro e w5 ⟨rfl, hb⟩
  clear d_0 d_1 d_2 d_3 d_4 d_5
  have HG5 := Lib.hid (heap_keep HG.out hb)
  have HOB5 := Lib.hid (heap_keep HOB.out hb)
  have HV5 := Lib.hid (own_keep HV2.out hb)
  have HBW5 := Lib.hid (HBW.out.trans (hb.mono HBW.out.size))
  have HSB5 := Lib.hid (Nat.le_trans HSB.out hb.size)
  have hd := fun i u h => cellH HG5.out i u h
  have d_0 := hd 0 _ rfl
  have d_1 := hd 1 _ rfl
  have d_2 := hd 2 _ rfl
  have d_3 := hd 3 _ rfl
  have d_4 := hd 4 _ rfl
  have d_5 := hd 5 _ rfl
  clear hd hb HG HOB HV2 HBW HSB
  have kg := HKA.out pa pc ps w5 HIB.out ((HPI.out.keep HB0.out).keep HBW5.out)
  rw [HAG.out, ← HP.out] at kg
  have KG := Lib.hid kg
  clear kg KAA
  go_wp2_with fail
  refine KG.out.mono ?_
  rintro e w6 ⟨rfl, hb⟩
  clear d_0 d_1 d_2 d_3 d_4 d_5
  have HG6 := Lib.hid (heap_keep HG5.out hb)
  have HOB6 := Lib.hid (heap_keep HOB5.out hb)
  have HV6 := Lib.hid (own_keep HV5.out hb)
  have HBW6 := Lib.hid (HBW5.out.trans (hb.mono HBW5.out.size))
  have HSB6 := Lib.hid (Nat.le_trans HSB5.out hb.size)
  have hd := fun i u h => cellH HG6.out i u h
  have d_0 := hd 0 _ rfl
  have d_1 := hd 1 _ rfl
  have d_2 := hd 2 _ rfl
  have d_3 := hd 3 _ rfl
  have d_4 := hd 4 _ rfl
  have d_5 := hd 5 _ rfl
  clear hd hb HG5 HOB5 HV5 HBW5 HSB5
  clear KG
  have n10 : N ≤ 10 := by have := HN.out; have := HL10.out; omega
  have n0 : 0 < N := by have := HN.out; have := HL0.out; omega
  have nM : N ≤ M := by have := HN.out; have := HM.out; have := HV0.out; omega
  have Mm : (M : Int) ≤ N + rm - 1 := by have := HN.out; have := HM.out; have := HV1.out; omega
  have r0 := HR0.out
  have r1 := HR1.out
  have M20 : M ≤ 20 := by omega
  go_wp2_with fail
  refine (inputs_ok nm a1 a2 n1 c1 c2 ob rs rm il N HN.out n0 n10 r0 r1 M nM Mm B _ HSB6.out HV6.out).mono ?_
  rintro e w7 ⟨v, rfl, hv7, hf7, hb⟩
  have HG7 := Lib.hid (hf7 _ _ _ _ HG6.out (.inl (by decide)) HNG.out)
  have HOB7 := Lib.hid (hf7 _ _ _ _ HOB6.out (.inr (by have := HO2.out.1; omega)) HNO.out)
  have HBW7 := Lib.hid (HBW6.out.trans (hb.mono HWB.out))
  obtain ⟨a7, c7, rfl, i7⟩ := ins_own hv7
  have HI7 := Lib.hid i7
  clear hv7 hf7 hb i7 HV6 HSB6 HG6 HOB6 HBW6 d_0 d_1 d_2 d_3 d_4 d_5
  go_wp2_with fail
  have hlk : (insK il M).length = M := insK_len il M (by have := HN.out; omega)
  have kf := fit_yes κ HKZ.out (insK il M) vs (by rw [hlk, HM.out]) (by have := HFIT.out; rw [← HM.out] at this; exact this) a7 c7 ia ic w7 (by rw [hlk]; exact HI7.out) ((HVI.out.keep HB0.out).keep HBW7.out)
  rw [hlk, ← HM.out] at kf
  have KFI := Lib.hid kf
  clear kf hlk
  refine KFI.out.mono ?_
  rintro e w8 ⟨rfl, hb⟩
  have HG8 := Lib.hid (heap_keep HG7.out hb)
  have HOB8 := Lib.hid (heap_keep HOB7.out hb)
  have HBW8 := Lib.hid (HBW7.out.trans (hb.mono HBW7.out.size))
  have HV8 := Lib.hid ((HVI.out.keep HB0.out).keep HBW8.out)
  have HQ8 := Lib.hid (HQ.out.keep HBW8.out)
  have HB8 := Lib.hid (HB0.out.trans (HBW8.out.mono HB0.out.size))
  clear hb KFI HG7 HOB7 HBW7 HI7
  go_wp2_with fail
  have HLT := Lib.hid (fun (x : World) (h : Below w8.heap.size w8 x) => HV8.out.keep h)
  go_loopw [16, 85] (fun p i wr => ∃ k : Nat, ∃ a cc, k ≤ M ∧ i = .int .i64 k ∧ p = .slice a k cc ∧ Hid (wr.ownsRow w8.heap.size 2 1 (.slice a k cc) k (flat iL (clK vs k)) ∧ Below w8.heap.size w8 wr)) (fun _ i _ => M - (intOf i).toNat)
  case atStart => exact ⟨0, none, 0, Nat.zero_le _, rfl, rfl, Lib.hid ⟨World.ownsRow_nil _ _ _ _, Below.refl _ _⟩⟩
  case round =>
    obtain ⟨k, na, nc, hk, rfl, rfl, hH⟩ := hrel
    have HS := Lib.hid hH.out.1
    have HL := Lib.hid hH.out.2
    clear hH
    by_cases hlt : k < M
    · have m0 := HML.out
      obtain ⟨lb, lo, rfl, hll, hlc⟩ := (HLT.out _ HL.out).at valL_len (by have := HM.out; omega)
      obtain ⟨v, hx⟩ : ∃ x, vs[k]? = some x := ⟨_, List.getElem?_eq_getElem (by have := HM.out; omega)⟩
      obtain ⟨vk, vn⟩ := v
      have l0 : wr.cell? ⟨lb, lo + k * 2 + 0, none⟩ = some (.int .i64 vk) := hlc k _ hx 0 _ rfl
      have l1 : wr.cell? ⟨lb, lo + k * 2 + 1, none⟩ = some (.int .i64 vn) := hlc k _ hx 1 _ rfl
      rw [Nat.add_zero] at l0
      have HSC := Lib.hid (clK_succ hx)
      have kk1 : (k : Int) < (M : Int) := by omega
      obtain ⟨W9, t, hW9, ht, RT, B9, sz9⟩ := box1 wr #[.int .i64 vk, .int .i64 vn] 51
      have HT := Lib.hid RT
      have HS9 := Lib.hid (own_keep HS.out B9)
      have HL9 := Lib.hid (HL.out.trans (B9.mono HL.out.size))
      clear hx hlc hll RT B9 sz9
      go_upto_region 19 with fail
      rw [← hW9]
      try rw [← ht]
      clear hW9 ht l0 l1
      have t_0 := HT.out.c 0 _ rfl
      have t_1 := HT.out.c 1 _ rfl
      go_wp2_with fail
      refine (clamp_any _ _).mono ?_
      rintro e w' ⟨rfl, rfl⟩
      obtain ⟨C, hC⟩ : ∃ c, c = clampI vn := ⟨_, rfl⟩
      have HC := Lib.hid hC
      rw [← hC]
      clear hC
      have hif := HIF.out
      have hz0 := HZ0.out
      have hz1 := HZ1.out
      have hz2 := HZ2.out
      go_wp2_with (at_builtin; refine wpList_append_own _ rfl _ _ 39 rfl w8.heap.size 2 i0 (.int .i64 0) 1 8 Tryd.underlying39 hif hz0 hz1 hz2 rfl (by decide) _ _ _ rfl (own_at HS9.out _) ⟨W9.heap.size, 0, none⟩ 1 1 [.int .i64 C] rfl rfl ?x1 ?x2 ?x3 ?x4 ?x5 ?_)
      try
        case x1 =>
          intro q u hu
          rw [add_plain, Nat.zero_add]
          exact (row_fresh W9 #[.int .i64 C] 2).c q u hu
      try
        case x2 =>
          first
            | rfl
            | (intro u hu; simp at hu; subst hu; rfl)
      case x3 => unfold maxLen; omega
      case x4 => omega
      case x5 => have := HL9.out.size; (try rw [World.size_alloc]); omega
      intro v5 w5 hown hgrow _
      obtain ⟨a5, c5, rfl, _⟩ := ins_own hown
      have nal : Below W9.heap.size W9 (W9.alloc (Obj.cells #[.int .i64 C] 2)) := (Below.refl _ _).alloc (Nat.le_refl _) _
      have vlt := fun q e => (HS9.out.lt q e).1
      have B5 := Lib.hid ((HL9.out.trans (nal.mono HL9.out.size)).grown hgrow (by have := HL9.out.size; rw [World.size_alloc]; omega) (fun q e => vlt q e))
      have V5 := Lib.hid (show w5.ownsRow w8.heap.size 2 1 (.slice a5 (k + 1) c5) (k + 1) (flat iL (clK vs (k + 1))) by
        rw [HSC.out, flat_append]
        show w5.ownsRow w8.heap.size 2 1 (.slice a5 (k + 1) c5) (k + 1) (flat iL (clK vs k) ++ [.int .i64 (clampI vn)])
        rw [← HC.out]; exact hown)
      clear hown hgrow nal vlt hif hz0 hz1 hz2 t_0 t_1
      go_wp2_with fail
      go_roundw
      case rel => exact ⟨k + 1, a5, c5, by omega, by go_num, rfl, Lib.hid ⟨V5.out, B5.out⟩⟩
      case measure => (simp [intOf]) <;> omega
    · obtain rfl : k = M := by omega
      obtain ⟨_, _, he, i5⟩ := ins_own HS.out
      injection he with he1 _ he2
      subst he1 he2
      have HNS := Lib.hid (show flat iL (clK vs k) = flat iL (vs.map fun v => clampI v.2) by rw [HM.out, clK_all])
      have hns : (vs.map fun v => clampI v.2).length = k := by rw [List.length_map, HM.out]
      have ko := HKO.out ps (vs.map fun v => clampI v.2) HGG.out pa pc na nc wr ((((HPI.out.keep HB0.out).keep HBW8.out)).keep HL.out) (by rw [hns, ← HNS.out]; exact i5)
      rw [hns, ← HP.out] at ko
      obtain ⟨Z, hZ⟩ : ∃ z, z = op ps (vs.map fun v => clampI v.2) := ⟨_, rfl⟩
      have HZ := Lib.hid hZ
      rw [← hZ] at ko
      have KO := Lib.hid ko
      have hgw := heap_keep HG8.out HL.out
      have how := heap_keep HOB8.out HL.out
      have g_3 := cellH hgw 3 _ rfl
      have o_1 := cellH how 1 _ HO2.out.2
      have HQ9 := Lib.hid (HQ8.out.keep HL.out)
      have HB9 := Lib.hid (HB8.out.trans (HL.out.mono HB8.out.size))
      clear ko hns i5 hZ hgw how
      have HEG := Lib.hid EG
      have eg := HEG.out
      go_wp2_with fail
      refine (bkind_any _ _).mono ?_
      rintro e w' ⟨rfl, rfl⟩
      obtain ⟨K, hK⟩ : ∃ z, z = kindI ro := ⟨_, rfl⟩
      have HKK := Lib.hid hK
      rw [← hK]
      clear hK
      go_wp2_with (go_at_fn F; refine KO.out.mono ?_; rintro e w10 ⟨rfl, hb⟩; have HQX := Lib.hid (HQ9.out.keep hb); have HBX := Lib.hid (HB9.out.trans (hb.mono HB9.out.size)); have q_0 := HQX.out.c 0 _ rfl; have q_1 := HQX.out.c 1 _ rfl; have q_z := HQX.out.fz; clear hb)
      have hs := HQX.out.setRow [.int .i64 K, .int .i64 Z] rfl
      have y0 : ((w10.setCell ⟨q, 0, none⟩ (.int .i64 K)).setCell ⟨q, 1, none⟩ (.int .i64 Z)).cell? ⟨q, 0, none⟩ = some (.int .i64 K) := hs.c 0 _ rfl
      have y1 : ((w10.setCell ⟨q, 0, none⟩ (.int .i64 K)).setCell ⟨q, 1, none⟩ (.int .i64 Z)).cell? ⟨q, 1, none⟩ = some (.int .i64 Z) := hs.c 1 _ rfl
      (try simp only [Exit.inBlock, Exit.then])
      refine bodyPost_ret (by simp [results, Tryd.results23, go_sem, y0, y1]; try rfl) rfl ?_
      exact ⟨by rw [← HKK.out, ← HZ.out]; (first | done | rfl), set_below HBX.out HWQ.out [.int .i64 K, .int .i64 Z]⟩
set_option maxHeartbeats 8000000 in
set_option maxRecDepth 100000 in
theorem eval_inv (F : Nat) (nm ro : ByteArray) (rm rs : Int) (pl : List BndD) (il : List PortD) (ag : List Int → Bool) (hnm : nm.size ≤ maxLen) (KF : FindOk nm ro rm rs pl il) (KA : AgreeOk nm pl ag) (at1 : opsD.atKey (.string nm.data.toList) (.held .nilFunc) = .held (.func (.func F) #[] #[])) (at2 : Maps.has opsD (.string nm.data.toList) = true) (at3 : selD.atKey (.string nm.data.toList) (.held .nilFunc) = .held (.nilFunc)) (at4 : Maps.has selD (.string nm.data.toList) = false) (ps : List Int) (vs : List (Int × Int)) (hbad : inB pl ps = false ∨ (inB pl ps = true ∧ ag ps = false)) (pa : Option Addr) (pc : Nat) (ia : Option Addr) (ic : Nat) (w : World) (hm : MaxAt w) (hp : InS w pa ps.length 1 (flat iL ps)) (hv : InS w ia vs.length 2 (flat valL vs)) :
    Calls Tryd.prog 23 #[.string nm, .slice pa ps.length pc, .slice ia vs.length ic] w fun e w' => e = .returned (.tuple #[.agg #[.int .i64 0, .int .i64 0], .int .i64 1]) ∧ Below w.heap.size w w' := by
  have HBAD := Lib.hid hbad
  clear hbad
  have HNM := Lib.hid hnm
  have HA1 := Lib.hid at1
  have HA2 := Lib.hid at2
  have HA3 := Lib.hid at3
  have HA4 := Lib.hid at4
  have HKF := Lib.hid KF
  have HKA := Lib.hid KA
  have HMX := Lib.hid hm
  have HPI := Lib.hid hp
  have HVI := Lib.hid hv
  obtain ⟨M, hM⟩ : ∃ M, M = vs.length := ⟨_, rfl⟩
  have HM := Lib.hid hM
  have HML := Lib.hid (show M ≤ 9223372036854775807 by rw [hM]; exact hv.2.1)
  obtain ⟨P, hP⟩ : ∃ M, M = ps.length := ⟨_, rfl⟩
  have HP := Lib.hid hP
  rw [← hM, ← hP]
  have nal := Below.refl w.heap.size w
  obtain ⟨W, q, hW, hq, RQ, B0, sz⟩ := box1 w #[.int .i64 0, .int .i64 0] 51
  have HQ := Lib.hid RQ
  have HB0 := Lib.hid B0
  have HWQ := Lib.hid (show w.heap.size ≤ q by omega)
  clear hnm at1 at2 at3 at4 KF KA hm hp hv hM hP nal RQ B0 sz
  go_enter Tryd.func23, Tryd.ntmps23
  go_upto_region 1 with fail
  rw [← hW]
  try rw [← hq]
  clear hW hq
  go_wp2_with fail
  refine (ops_any _).mono ?_
  rintro e w1 ⟨mb, rfl, hown, hb1⟩
  have hl1 := look_own hown Tryd.underlying83 zeroFO nm HNM.out (.func (.func F) #[] #[]) true HA1.out HA2.out
  clear hown
  go_wp2_with fail
  refine (sel_any _).mono ?_
  rintro e w2 ⟨sb, rfl, hown, hb2⟩
  have hl2 := look_own hown Tryd.underlying87 zeroFS nm HNM.out (.nilFunc) false HA3.out HA4.out
  have HBW2 := Lib.hid (hb1.trans (hb2.mono hb1.size))
  clear hown hl1 hb1 hb2
  go_wp2_with fail
  have hm2 := (HMX.out.keep HB0.out).keep HBW2.out
  refine (HKF.out _ hm2).mono ?_
  rintro e w3 ⟨D, rfl, ⟨v1, v2, ob, rfl, p1, p2, p3, p4⟩, hb⟩
  clear hm2 hl2
  obtain ⟨a1, c1, rfl, i1⟩ := ins_own p1
  obtain ⟨a2, c2, rfl, i2⟩ := ins_own p2
  obtain ⟨N, hN⟩ : ∃ n, n = il.length := ⟨_, rfl⟩
  have HN := Lib.hid hN
  rw [← hN] at p2 p4 ⊢
  obtain ⟨n1, hn1⟩ : ∃ n, n = pl.length := ⟨_, rfl⟩
  have HN1 := Lib.hid hn1
  rw [← hn1] at i1 ⊢
  obtain ⟨cob, hob, hob2⟩ : ∃ cur, w3.heap[ob]? = some (.cells cur 65 (0, 0)) ∧ cur.size = 2 ∧ cur[1]? = some (.string ro) := by
    rcases p3.2 with ⟨h, _⟩ | ⟨g9, cap, cur, h1, h2, h3, h4, h5, h6, h7⟩
    · cases h
    · injection h1 with h1 h8 h9
      injection h1 with h1
      injection h1 with h1
      subst h1 h9
      refine ⟨cur, h3, by omega, ?_⟩
      have h10 : cur.toList[1]? = some (.string ro) := by
        have : (cur.toList.take (1 * 2))[1]? = some (.string ro) := by rw [h7]; rfl
        rw [List.getElem?_take] at this
        simpa using this
      simpa using h10
  have HO2 := Lib.hid hob2
  obtain ⟨B, hB⟩ : ∃ b, b = w2.heap.size := ⟨_, rfl⟩
  rw [← hB] at p2
  have HWB := Lib.hid (show W.heap.size ≤ B by rw [hB]; exact HBW2.out.size)
  have HB3 := Lib.hid (show B ≤ w3.heap.size by rw [hB]; exact hb.size)
  obtain ⟨W4, g, hW4, hg, RG, B4, sz4⟩ := box1 w3 #[.string nm, .slice a1 n1 c1, .slice a2 N c2, .slice (some ⟨ob, 0, none⟩) 1 1, .int .i64 rs, .int .i64 rm] 30
  have HG := Lib.hid (show W4.heap[g]? = some (.cells #[.string nm, .slice a1 n1 c1, .slice a2 N c2, .slice (some ⟨ob, 0, none⟩) 1 1, .int .i64 rs, .int .i64 rm] 30 (0, 0)) by rw [hW4, hg]; exact heap_new _ _)
  have HOB := Lib.hid (heap_keep hob B4)
  have HI1 := Lib.hid (show InS W4 a1 pl.length 4 (flat bndL pl) by have := i1.keep B4; rwa [hn1] at this)
  have HV2 := Lib.hid (own_keep p2 B4)
  have HNG := Lib.hid (show (Value.slice a2 N c2).ownBlock ≠ some g by
    intro e
    have := (p2.lt g e).2
    omega)
  have HNO := Lib.hid p4
  have HBW := Lib.hid ((HBW2.out.trans (hb.mono HBW2.out.size)).trans (B4.mono (Nat.le_trans HBW2.out.size hb.size)))
  have HSB := Lib.hid (Nat.le_trans HB3.out B4.size)
  have d_0 := RG.c 0 _ rfl
  have d_1 := RG.c 1 _ rfl
  have d_2 := RG.c 2 _ rfl
  have d_3 := RG.c 3 _ rfl
  have d_4 := RG.c 4 _ rfl
  have d_5 := RG.c 5 _ rfl
  have HNL := Lib.hid HBW2
  clear i1 i2 p1 p2 p3 p4 hob hob2 hb RG B4 sz4 hn1 hN hB HBW2 HB3
  go_upto_region 6 with fail
  rw [← hW4]
  try rw [← hg]
  clear hW4 hg HNL
  go_wp2_with fail
  have ka := allowed_any nm a1 c1 a2 N c2 (some ⟨ob, 0, none⟩) 1 1 rs rm pl pa pc ps W4 HI1.out ((HPI.out.keep HB0.out).keep HBW.out)
  rw [← HN1.out, ← HP.out] at ka
  have KAA := Lib.hid ka
  clear ka
  rcases HBAD.out with hib | ⟨hib, hag⟩
  · have HIB := Lib.hid hib
    rw [hib] at KAA
    clear hib
    refine KAA.out.mono ?_
    rintro e w5 ⟨rfl, hb⟩
    clear d_0 d_1 d_2 d_3 d_4 d_5
    have HG5 := Lib.hid (heap_keep HG.out hb)
    have HOB5 := Lib.hid (heap_keep HOB.out hb)
    have HV5 := Lib.hid (own_keep HV2.out hb)
    have HBW5 := Lib.hid (HBW.out.trans (hb.mono HBW.out.size))
    have HSB5 := Lib.hid (Nat.le_trans HSB.out hb.size)
    have hd := fun i u h => cellH HG5.out i u h
    have d_0 := hd 0 _ rfl
    have d_1 := hd 1 _ rfl
    have d_2 := hd 2 _ rfl
    have d_3 := hd 3 _ rfl
    have d_4 := hd 4 _ rfl
    have d_5 := hd 5 _ rfl
    clear hd hb HG HOB HV2 HBW HSB
    have HQ5 := Lib.hid (HQ.out.keep HBW5.out)
    have HB5 := Lib.hid (HB0.out.trans (HBW5.out.mono HB0.out.size))
    have q_0 := HQ5.out.c 0 _ rfl
    have q_1 := HQ5.out.c 1 _ rfl
    have q_z := HQ5.out.fz
    go_wp2_with fail
    have hs := HQ5.out.setRow [.int .i64 0, .int .i64 0] rfl
    have y0 : ((w5.setCell ⟨q, 0, none⟩ (.int .i64 0)).setCell ⟨q, 1, none⟩ (.int .i64 0)).cell? ⟨q, 0, none⟩ = some (.int .i64 0) := hs.c 0 _ rfl
    have y1 : ((w5.setCell ⟨q, 0, none⟩ (.int .i64 0)).setCell ⟨q, 1, none⟩ (.int .i64 0)).cell? ⟨q, 1, none⟩ = some (.int .i64 0) := hs.c 1 _ rfl
    (try simp only [Exit.inBlock, Exit.then])
    refine bodyPost_ret (by simp [results, Tryd.results23, go_sem, y0, y1]; try rfl) rfl ?_
    exact ⟨rfl, set_below HB5.out HWQ.out [.int .i64 0, .int .i64 0]⟩
  · have HIB := Lib.hid hib
    have HAG := Lib.hid hag
    rw [hib] at KAA
    clear hib hag
    refine KAA.out.mono ?_
    rintro e w5 ⟨rfl, hb⟩
    clear d_0 d_1 d_2 d_3 d_4 d_5
    have HG5 := Lib.hid (heap_keep HG.out hb)
    have HOB5 := Lib.hid (heap_keep HOB.out hb)
    have HV5 := Lib.hid (own_keep HV2.out hb)
    have HBW5 := Lib.hid (HBW.out.trans (hb.mono HBW.out.size))
    have HSB5 := Lib.hid (Nat.le_trans HSB.out hb.size)
    have hd := fun i u h => cellH HG5.out i u h
    have d_0 := hd 0 _ rfl
    have d_1 := hd 1 _ rfl
    have d_2 := hd 2 _ rfl
    have d_3 := hd 3 _ rfl
    have d_4 := hd 4 _ rfl
    have d_5 := hd 5 _ rfl
    clear hd hb HG HOB HV2 HBW HSB
    have HQ5 := Lib.hid (HQ.out.keep HBW5.out)
    have HB5 := Lib.hid (HB0.out.trans (HBW5.out.mono HB0.out.size))
    have kg := HKA.out pa pc ps w5 HIB.out ((HPI.out.keep HB0.out).keep HBW5.out)
    rw [HAG.out, ← HP.out] at kg
    have KG := Lib.hid kg
    clear kg KAA
    go_wp2_with fail
    refine KG.out.mono ?_
    rintro e w6 ⟨rfl, hb⟩
    have HQ6 := Lib.hid (HQ5.out.keep hb)
    have HB6 := Lib.hid (HB5.out.trans (hb.mono HB5.out.size))
    clear hb KG
    have q_0 := HQ6.out.c 0 _ rfl
    have q_1 := HQ6.out.c 1 _ rfl
    have q_z := HQ6.out.fz
    go_wp2_with fail
    have hs := HQ6.out.setRow [.int .i64 0, .int .i64 0] rfl
    have y0 : ((w6.setCell ⟨q, 0, none⟩ (.int .i64 0)).setCell ⟨q, 1, none⟩ (.int .i64 0)).cell? ⟨q, 0, none⟩ = some (.int .i64 0) := hs.c 0 _ rfl
    have y1 : ((w6.setCell ⟨q, 0, none⟩ (.int .i64 0)).setCell ⟨q, 1, none⟩ (.int .i64 0)).cell? ⟨q, 1, none⟩ = some (.int .i64 0) := hs.c 1 _ rfl
    (try simp only [Exit.inBlock, Exit.then])
    refine bodyPost_ret (by simp [results, Tryd.results23, go_sem, y0, y1]; try rfl) rfl ?_
    exact ⟨rfl, set_below HB6.out HWQ.out [.int .i64 0, .int .i64 0]⟩
set_option maxHeartbeats 8000000 in
set_option maxRecDepth 100000 in
theorem eval_sel (F : Nat) (EG : ∀ args w, (callFunc F args).run Tryd.prog w = .ok (.enter F args) w) (nm ro : ByteArray) (rm rs : Int) (pl : List BndD) (il : List PortD) (ag : List Int → Bool) (hnm : nm.size ≤ maxLen) (KF : FindOk nm ro rm rs pl il) (KA : AgreeOk nm pl ag) (at1 : opsD.atKey (.string nm.data.toList) (.held .nilFunc) = .held (.nilFunc)) (at2 : Maps.has opsD (.string nm.data.toList) = false) (at3 : selD.atKey (.string nm.data.toList) (.held .nilFunc) = .held (.func (.func F) #[] #[])) (at4 : Maps.has selD (.string nm.data.toList) = true) (ps : List Int) (vs : List (Int × Int)) (hpl : inB pl ps = true) (hag : ag ps = true) (l0 : 0 < il.length) (l10 : il.length ≤ 10) (rm0 : 1 ≤ rm) (rm1 : rm ≤ 10) (v0 : il.length ≤ vs.length) (v1 : (vs.length : Int) ≤ il.length + rm - 1) (κ : Int) (hκ : ¬ κ = 0) (hfit : ∀ (i : Nat) (p : PortD) (v : Int × Int), (insK il vs.length)[i]? = some p → vs[i]? = some v → PortOk κ p v) (j : Nat) (hj : j < vs.length) (sk sn rk rn : Int) (h0 : vs[0]? = some (sk, sn)) (hjv : vs[j]? = some (rk, rn)) (KS : ∀ w, Calls Tryd.prog F #[.int .i64 sn, .int .i64 ((vs.length : Int) - 1)] w fun e w' => e = .returned (.int .i64 j) ∧ w = w') (pa : Option Addr) (pc : Nat) (ia : Option Addr) (ic : Nat) (w : World) (hm : MaxAt w) (hp : InS w pa ps.length 1 (flat iL ps)) (hv : InS w ia vs.length 2 (flat valL vs)) :
    Calls Tryd.prog 23 #[.string nm, .slice pa ps.length pc, .slice ia vs.length ic] w fun e w' => e = .returned (.tuple #[.agg #[.int .i64 rk, .int .i64 rn], .int .i64 0]) ∧ Below w.heap.size w w' := by
  have HKS := Lib.hid KS
  have HHJ := Lib.hid hj
  have HV00 := Lib.hid h0
  have HVJ := Lib.hid hjv
  have HEG := Lib.hid EG
  clear KS hj h0 hjv EG
  have HIB := Lib.hid hpl
  have HAG := Lib.hid hag
  have HL0 := Lib.hid l0
  have HL10 := Lib.hid l10
  have HR0 := Lib.hid rm0
  have HR1 := Lib.hid rm1
  have HV0 := Lib.hid v0
  have HV1 := Lib.hid v1
  have HKZ := Lib.hid hκ
  have HFIT := Lib.hid hfit
  clear hpl hag l0 l10 rm0 rm1 v0 v1 hκ hfit
  have HNM := Lib.hid hnm
  have HA1 := Lib.hid at1
  have HA2 := Lib.hid at2
  have HA3 := Lib.hid at3
  have HA4 := Lib.hid at4
  have HKF := Lib.hid KF
  have HKA := Lib.hid KA
  have HMX := Lib.hid hm
  have HPI := Lib.hid hp
  have HVI := Lib.hid hv
  obtain ⟨M, hM⟩ : ∃ M, M = vs.length := ⟨_, rfl⟩
  have HM := Lib.hid hM
  have HML := Lib.hid (show M ≤ 9223372036854775807 by rw [hM]; exact hv.2.1)
  obtain ⟨P, hP⟩ : ∃ M, M = ps.length := ⟨_, rfl⟩
  have HP := Lib.hid hP
  rw [← hM, ← hP]
  have nal := Below.refl w.heap.size w
  obtain ⟨W, q, hW, hq, RQ, B0, sz⟩ := box1 w #[.int .i64 0, .int .i64 0] 51
  have HQ := Lib.hid RQ
  have HB0 := Lib.hid B0
  have HWQ := Lib.hid (show w.heap.size ≤ q by omega)
  clear hnm at1 at2 at3 at4 KF KA hm hp hv hM hP nal RQ B0 sz
  go_enter Tryd.func23, Tryd.ntmps23
  go_upto_region 1 with fail
  rw [← hW]
  try rw [← hq]
  clear hW hq
  go_wp2_with fail
  refine (ops_any _).mono ?_
  rintro e w1 ⟨mb, rfl, hown, hb1⟩
  have hl1 := look_own hown Tryd.underlying83 zeroFO nm HNM.out (.nilFunc) false HA1.out HA2.out
  clear hown
  go_wp2_with fail
  refine (sel_any _).mono ?_
  rintro e w2 ⟨sb, rfl, hown, hb2⟩
  have hl2 := look_own hown Tryd.underlying87 zeroFS nm HNM.out (.func (.func F) #[] #[]) true HA3.out HA4.out
  have HBW2 := Lib.hid (hb1.trans (hb2.mono hb1.size))
  clear hown hl1 hb1 hb2
  go_wp2_with fail
  have hm2 := (HMX.out.keep HB0.out).keep HBW2.out
  refine (HKF.out _ hm2).mono ?_
  rintro e w3 ⟨D, rfl, ⟨v1, v2, ob, rfl, p1, p2, p3, p4⟩, hb⟩
  clear hm2 hl2
  obtain ⟨a1, c1, rfl, i1⟩ := ins_own p1
  obtain ⟨a2, c2, rfl, i2⟩ := ins_own p2
  obtain ⟨N, hN⟩ : ∃ n, n = il.length := ⟨_, rfl⟩
  have HN := Lib.hid hN
  rw [← hN] at p2 p4 ⊢
  obtain ⟨n1, hn1⟩ : ∃ n, n = pl.length := ⟨_, rfl⟩
  have HN1 := Lib.hid hn1
  rw [← hn1] at i1 ⊢
  obtain ⟨cob, hob, hob2⟩ : ∃ cur, w3.heap[ob]? = some (.cells cur 65 (0, 0)) ∧ cur.size = 2 ∧ cur[1]? = some (.string ro) := by
    rcases p3.2 with ⟨h, _⟩ | ⟨g9, cap, cur, h1, h2, h3, h4, h5, h6, h7⟩
    · cases h
    · injection h1 with h1 h8 h9
      injection h1 with h1
      injection h1 with h1
      subst h1 h9
      refine ⟨cur, h3, by omega, ?_⟩
      have h10 : cur.toList[1]? = some (.string ro) := by
        have : (cur.toList.take (1 * 2))[1]? = some (.string ro) := by rw [h7]; rfl
        rw [List.getElem?_take] at this
        simpa using this
      simpa using h10
  have HO2 := Lib.hid hob2
  obtain ⟨B, hB⟩ : ∃ b, b = w2.heap.size := ⟨_, rfl⟩
  rw [← hB] at p2
  have HWB := Lib.hid (show W.heap.size ≤ B by rw [hB]; exact HBW2.out.size)
  have HB3 := Lib.hid (show B ≤ w3.heap.size by rw [hB]; exact hb.size)
  obtain ⟨W4, g, hW4, hg, RG, B4, sz4⟩ := box1 w3 #[.string nm, .slice a1 n1 c1, .slice a2 N c2, .slice (some ⟨ob, 0, none⟩) 1 1, .int .i64 rs, .int .i64 rm] 30
  have HG := Lib.hid (show W4.heap[g]? = some (.cells #[.string nm, .slice a1 n1 c1, .slice a2 N c2, .slice (some ⟨ob, 0, none⟩) 1 1, .int .i64 rs, .int .i64 rm] 30 (0, 0)) by rw [hW4, hg]; exact heap_new _ _)
  have HOB := Lib.hid (heap_keep hob B4)
  have HI1 := Lib.hid (show InS W4 a1 pl.length 4 (flat bndL pl) by have := i1.keep B4; rwa [hn1] at this)
  have HV2 := Lib.hid (own_keep p2 B4)
  have HNG := Lib.hid (show (Value.slice a2 N c2).ownBlock ≠ some g by
    intro e
    have := (p2.lt g e).2
    omega)
  have HNO := Lib.hid p4
  have HBW := Lib.hid ((HBW2.out.trans (hb.mono HBW2.out.size)).trans (B4.mono (Nat.le_trans HBW2.out.size hb.size)))
  have HSB := Lib.hid (Nat.le_trans HB3.out B4.size)
  have d_0 := RG.c 0 _ rfl
  have d_1 := RG.c 1 _ rfl
  have d_2 := RG.c 2 _ rfl
  have d_3 := RG.c 3 _ rfl
  have d_4 := RG.c 4 _ rfl
  have d_5 := RG.c 5 _ rfl
  have HNL := Lib.hid HBW2
  clear i1 i2 p1 p2 p3 p4 hob hob2 hb RG B4 sz4 hn1 hN hB HBW2 HB3
  go_upto_region 6 with fail
  rw [← hW4]
  try rw [← hg]
  clear hW4 hg HNL
  go_wp2_with fail
  have ka := allowed_any nm a1 c1 a2 N c2 (some ⟨ob, 0, none⟩) 1 1 rs rm pl pa pc ps W4 HI1.out ((HPI.out.keep HB0.out).keep HBW.out)
  rw [← HN1.out, ← HP.out] at ka
  have KAA := Lib.hid ka
  clear ka
  rw [HIB.out] at KAA
  refine KAA.out.mono ?_
  rintro e w5 ⟨rfl, hb⟩
  clear d_0 d_1 d_2 d_3 d_4 d_5
  have HG5 := Lib.hid (heap_keep HG.out hb)
  have HOB5 := Lib.hid (heap_keep HOB.out hb)
  have HV5 := Lib.hid (own_keep HV2.out hb)
  have HBW5 := Lib.hid (HBW.out.trans (hb.mono HBW.out.size))
  have HSB5 := Lib.hid (Nat.le_trans HSB.out hb.size)
  have hd := fun i u h => cellH HG5.out i u h
  have d_0 := hd 0 _ rfl
  have d_1 := hd 1 _ rfl
  have d_2 := hd 2 _ rfl
  have d_3 := hd 3 _ rfl
  have d_4 := hd 4 _ rfl
  have d_5 := hd 5 _ rfl
  clear hd hb HG HOB HV2 HBW HSB
  have kg := HKA.out pa pc ps w5 HIB.out ((HPI.out.keep HB0.out).keep HBW5.out)
  rw [HAG.out, ← HP.out] at kg
  have KG := Lib.hid kg
  clear kg KAA
  go_wp2_with fail
  refine KG.out.mono ?_
  rintro e w6 ⟨rfl, hb⟩
  clear d_0 d_1 d_2 d_3 d_4 d_5
  have HG6 := Lib.hid (heap_keep HG5.out hb)
  have HOB6 := Lib.hid (heap_keep HOB5.out hb)
  have HV6 := Lib.hid (own_keep HV5.out hb)
  have HBW6 := Lib.hid (HBW5.out.trans (hb.mono HBW5.out.size))
  have HSB6 := Lib.hid (Nat.le_trans HSB5.out hb.size)
  have hd := fun i u h => cellH HG6.out i u h
  have d_0 := hd 0 _ rfl
  have d_1 := hd 1 _ rfl
  have d_2 := hd 2 _ rfl
  have d_3 := hd 3 _ rfl
  have d_4 := hd 4 _ rfl
  have d_5 := hd 5 _ rfl
  clear hd hb HG5 HOB5 HV5 HBW5 HSB5
  clear KG
  have n10 : N ≤ 10 := by have := HN.out; have := HL10.out; omega
  have n0 : 0 < N := by have := HN.out; have := HL0.out; omega
  have nM : N ≤ M := by have := HN.out; have := HM.out; have := HV0.out; omega
  have Mm : (M : Int) ≤ N + rm - 1 := by have := HN.out; have := HM.out; have := HV1.out; omega
  have r0 := HR0.out
  have r1 := HR1.out
  have M20 : M ≤ 20 := by omega
  go_wp2_with fail
  refine (inputs_ok nm a1 a2 n1 c1 c2 ob rs rm il N HN.out n0 n10 r0 r1 M nM Mm B _ HSB6.out HV6.out).mono ?_
  rintro e w7 ⟨v, rfl, hv7, hf7, hb⟩
  have HG7 := Lib.hid (hf7 _ _ _ _ HG6.out (.inl (by decide)) HNG.out)
  have HOB7 := Lib.hid (hf7 _ _ _ _ HOB6.out (.inr (by have := HO2.out.1; omega)) HNO.out)
  have HBW7 := Lib.hid (HBW6.out.trans (hb.mono HWB.out))
  obtain ⟨a7, c7, rfl, i7⟩ := ins_own hv7
  have HI7 := Lib.hid i7
  clear hv7 hf7 hb i7 HV6 HSB6 HG6 HOB6 HBW6 d_0 d_1 d_2 d_3 d_4 d_5
  go_wp2_with fail
  have hlk : (insK il M).length = M := insK_len il M (by have := HN.out; omega)
  have kf := fit_yes κ HKZ.out (insK il M) vs (by rw [hlk, HM.out]) (by have := HFIT.out; rw [← HM.out] at this; exact this) a7 c7 ia ic w7 (by rw [hlk]; exact HI7.out) ((HVI.out.keep HB0.out).keep HBW7.out)
  rw [hlk, ← HM.out] at kf
  have KFI := Lib.hid kf
  clear kf hlk
  refine KFI.out.mono ?_
  rintro e w8 ⟨rfl, hb⟩
  have HG8 := Lib.hid (heap_keep HG7.out hb)
  have HOB8 := Lib.hid (heap_keep HOB7.out hb)
  have HBW8 := Lib.hid (HBW7.out.trans (hb.mono HBW7.out.size))
  have HV8 := Lib.hid ((HVI.out.keep HB0.out).keep HBW8.out)
  have HQ8 := Lib.hid (HQ.out.keep HBW8.out)
  have HB8 := Lib.hid (HB0.out.trans (HBW8.out.mono HB0.out.size))
  clear hb KFI HG7 HOB7 HBW7 HI7
  have j0 := HHJ.out
  obtain ⟨lb, lo, rfl, hll, hlc⟩ := HV8.out.at valL_len (by have := HM.out; omega)
  have l0 : w8.cell? ⟨lb, lo + 0 * 2 + 1, none⟩ = some (.int .i64 sn) := hlc 0 _ HV00.out 1 _ rfl
  have l1 : w8.cell? ⟨lb, lo + j * 2 + 0, none⟩ = some (.int .i64 rk) := hlc j _ HVJ.out 0 _ rfl
  have l2 : w8.cell? ⟨lb, lo + j * 2 + 1, none⟩ = some (.int .i64 rn) := hlc j _ HVJ.out 1 _ rfl
  simp only [Nat.zero_mul, Nat.add_zero] at l0 l1
  have jM : (j : Int) < (M : Int) := by have := HM.out; omega
  have jM2 : decide (j < M) = true := decide_eq_true (by omega)
  have zM : decide (0 < M) = true := decide_eq_true (by omega)
  have zM2 : (1 : Int) ≤ (M : Int) := by omega
  have m0 := HML.out
  have ks := fun x => HKS.out x
  rw [← HM.out] at ks
  have KSS := Lib.hid ks
  have EG2 := HEG.out
  have q_0 := HQ8.out.c 0 _ rfl
  have q_1 := HQ8.out.c 1 _ rfl
  have q_z := HQ8.out.fz
  clear ks hlc hll j0
  go_wp2_with (go_at_fn F; refine (KSS.out _).mono ?_; rintro e w' ⟨rfl, rfl⟩)
  have hs := HQ8.out.setRow [.int .i64 rk, .int .i64 rn] rfl
  have y0 : ((w8.setCell ⟨q, 0, none⟩ (.int .i64 rk)).setCell ⟨q, 1, none⟩ (.int .i64 rn)).cell? ⟨q, 0, none⟩ = some (.int .i64 rk) := hs.c 0 _ rfl
  have y1 : ((w8.setCell ⟨q, 0, none⟩ (.int .i64 rk)).setCell ⟨q, 1, none⟩ (.int .i64 rn)).cell? ⟨q, 1, none⟩ = some (.int .i64 rn) := hs.c 1 _ rfl
  (try simp only [Exit.inBlock, Exit.then])
  refine bodyPost_ret (by simp [results, Tryd.results23, go_sem, y0, y1]; try rfl) rfl ?_
  exact ⟨rfl, set_below HB8.out HWQ.out [.int .i64 rk, .int .i64 rn]⟩
end Go.Proofs.YtaobbedajgkmiaaDoor
