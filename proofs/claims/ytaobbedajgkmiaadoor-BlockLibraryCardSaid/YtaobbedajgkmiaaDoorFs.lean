/- Inputs of the specification; the law Inputs. -/
import Derived.Test.YtaobbedajgkmiaaDoorFr
import Derived.Test.YtaobbedajgkmiaaDoorFh
namespace Go.Proofs.YtaobbedajgkmiaaDoor
open Go.RowKit Go.Shelf

set_option linter.unusedVariables false
set_option linter.unusedSimpArgs false
theorem port_str (il : List PortD) : ∀ u ∈ flat portL il, u.oneCell' = true := by
  intro u hu
  unfold flat at hu
  obtain ⟨p, _, hp⟩ := List.mem_flatMap.1 hu
  simp only [portL, List.mem_cons, List.not_mem_nil, or_false] at hp
  rcases hp with rfl | rfl <;> rfl
set_option maxHeartbeats 4000000 in
set_option maxRecDepth 100000 in
theorem rInputs_bad (s ro : ByteArray) (rm rs : Int) (pl : List BndD) (il : List PortD) (KF : RFindOk s ro rm rs pl il) (N : Nat) (hN : N = il.length) (h0 : 0 < N) (h10 : N ≤ 10) (m0 : 1 ≤ rm) (m1 : rm ≤ 10) (c : Int) (hc : c < N ∨ N + rm - 1 < c) (w : World) :
    Calls Tryd.prog 20 #[.string s, .int .i64 c] w fun e w' => e = .returned (.tuple #[.slice none 0 0, .int .i64 1]) ∧ Below w.heap.size w w' := by
  by_cases hlt : c < N
  · have e1 : decide (c < (N : Int)) = true := decide_eq_true hlt
    clear hc
    have HF := Lib.hid (KF w)
    have HN := Lib.hid hN
    clear KF hN
    go_enter Tryd.func20, Tryd.ntmps20
    go_wp2_with fail
    refine HF.out.mono ?_
    rintro e w1 ⟨a1, c1, a2, c2, a3, c3, rfl, i1, i2, i3, hb⟩
    rw [← HN.out] at i2 ⊢
    obtain ⟨n1, hn1⟩ : ∃ n, n = pl.length := ⟨_, rfl⟩
    rw [← hn1]
    obtain ⟨W2, g, hW2, hg, RG, B2, sz2⟩ := box1 w1 #[.string s, .slice a1 n1 c1, .slice a2 N c2, .slice a3 1 c3, .int .i64 rs, .int .i64 rm] 30
    have HG := Lib.hid RG
    have HI := Lib.hid (i2.keep B2)
    have HB := Lib.hid (hb.trans (B2.mono hb.size))
    clear i1 i2 i3 hb RG B2 sz2 hn1
    go_upto_region 2 with fail
    rw [← hW2]
    try rw [← hg]
    clear hW2 hg
    have g_0 := HG.out.c 0 _ rfl
    have g_1 := HG.out.c 1 _ rfl
    have g_2 := HG.out.c 2 _ rfl
    have g_3 := HG.out.c 3 _ rfl
    have g_4 := HG.out.c 4 _ rfl
    have g_5 := HG.out.c 5 _ rfl
    go_wp2_with fail
    go_ret2
    exact ⟨rfl, HB.out⟩
  · have hgt : (N : Int) + rm - 1 < c := by omega
    have e1 : decide (c < (N : Int)) = false := decide_eq_false hlt
    have e2 : decide ((N : Int) + rm - 1 < c) = true := decide_eq_true hgt
    clear hc
    have HF := Lib.hid (KF w)
    have HN := Lib.hid hN
    clear KF hN
    go_enter Tryd.func20, Tryd.ntmps20
    go_wp2_with fail
    refine HF.out.mono ?_
    rintro e w1 ⟨a1, c1, a2, c2, a3, c3, rfl, i1, i2, i3, hb⟩
    rw [← HN.out] at i2 ⊢
    obtain ⟨n1, hn1⟩ : ∃ n, n = pl.length := ⟨_, rfl⟩
    rw [← hn1]
    obtain ⟨W2, g, hW2, hg, RG, B2, sz2⟩ := box1 w1 #[.string s, .slice a1 n1 c1, .slice a2 N c2, .slice a3 1 c3, .int .i64 rs, .int .i64 rm] 30
    have HG := Lib.hid RG
    have HI := Lib.hid (i2.keep B2)
    have HB := Lib.hid (hb.trans (B2.mono hb.size))
    clear i1 i2 i3 hb RG B2 sz2 hn1
    go_upto_region 2 with fail
    rw [← hW2]
    try rw [← hg]
    clear hW2 hg
    have g_0 := HG.out.c 0 _ rfl
    have g_1 := HG.out.c 1 _ rfl
    have g_2 := HG.out.c 2 _ rfl
    have g_3 := HG.out.c 3 _ rfl
    have g_4 := HG.out.c 4 _ rfl
    have g_5 := HG.out.c 5 _ rfl
    go_wp2_with fail
    go_ret2
    exact ⟨rfl, HB.out⟩
set_option maxHeartbeats 8000000 in
set_option maxRecDepth 100000 in
theorem rInputs_ok (s ro : ByteArray) (rm rs : Int) (pl : List BndD) (il : List PortD) (KF : RFindOk s ro rm rs pl il) (N : Nat) (hN : N = il.length) (h0 : 0 < N) (h10 : N ≤ 10) (m0 : 1 ≤ rm) (m1 : rm ≤ 10) (c : Nat) (c0 : N ≤ c) (cm : (c : Int) ≤ N + rm - 1) (w : World) :
    Calls Tryd.prog 20 #[.string s, .int .i64 c] w fun e w' => ∃ v, e = .returned (.tuple #[v, .int .i64 0]) ∧ w'.ownsRow w.heap.size 65 2 v c (flat portL (insK il c)) ∧ Below w.heap.size w w' := by
  have c20 : c ≤ 20 := by omega
  obtain ⟨i0, hif, hz0, hz1, hz2⟩ := info_parts infoPort
  have HIF := Lib.hid hif
  have HZ0 := Lib.hid hz0
  have HZ1 := Lib.hid hz1
  have HZ2 := Lib.hid hz2
  have e1 : decide ((c : Int) < (N : Int)) = false := decide_eq_false (by omega)
  have e2 : decide ((N : Int) + rm - 1 < (c : Int)) = false := decide_eq_false (by omega)
  have e3 : decide (c < N) = false := decide_eq_false (by omega)
  obtain ⟨q, hq⟩ : ∃ q : Nat, q + 1 = N := ⟨N - 1, by omega⟩
  obtain ⟨x, hx⟩ : ∃ x, il[q]? = some x := ⟨_, List.getElem?_eq_getElem (by omega)⟩
  have HX := Lib.hid hx
  have HLAST := Lib.hid (show il.getD (il.length - 1) zP = x by rw [← hN, show N - 1 = q by omega, List.getD_eq_getElem?_getD, hx]; rfl)
  obtain ⟨xn, xt⟩ := x
  have s1 : IntKind.i64.wrap ((N : Int) - 1) = (q : Int) := by
    have h : (N : Int) - 1 = q := by omega
    rw [h]
    exact IntWalk.i64_in _ (by omega)
  have HS1 := Lib.hid s1
  have HQ := Lib.hid hq
  have qN : q < N := by omega
  clear hx hif hz0 hz1 hz2 s1 hq
  have HF := Lib.hid (KF w)
  have HN := Lib.hid hN
  clear KF hN
  go_enter Tryd.func20, Tryd.ntmps20
  go_wp2_with fail
  refine HF.out.mono ?_
  rintro e w1 ⟨a1, c1, a2, c2, a3, c3, rfl, i1, i2, i3, hb⟩
  rw [← HN.out] at i2 ⊢
  obtain ⟨n1, hn1⟩ : ∃ n, n = pl.length := ⟨_, rfl⟩
  rw [← hn1]
  obtain ⟨W2, g, hW2, hg, RG, B2, sz2⟩ := box1 w1 #[.string s, .slice a1 n1 c1, .slice a2 N c2, .slice a3 1 c3, .int .i64 rs, .int .i64 rm] 30
  have HG := Lib.hid RG
  have HI := Lib.hid (i2.keep B2)
  have HB := Lib.hid (hb.trans (B2.mono hb.size))
  clear i1 i2 i3 hb RG B2 sz2 hn1
  go_upto_region 2 with fail
  rw [← hW2]
  try rw [← hg]
  clear hW2 hg
  have g_0 := HG.out.c 0 _ rfl
  have g_1 := HG.out.c 1 _ rfl
  have g_2 := HG.out.c 2 _ rfl
  have g_3 := HG.out.c 3 _ rfl
  have g_4 := HG.out.c 4 _ rfl
  have g_5 := HG.out.c 5 _ rfl
  obtain ⟨lb, lo, rfl, hll, hlc⟩ := (show InS W2 a2 il.length 2 (flat portL il) by rw [← HN.out]; exact HI.out).at portL_len (by have := HN.out; omega)
  have HLC := Lib.hid (show ∀ j u, (flat portL il)[j]? = some u → W2.cell? ((⟨lb, lo, none⟩ : Addr).add j) = some u by
    intro j u hu
    obtain ⟨_, _, h0 | ⟨b', o', hbo, _, hc⟩⟩ := HI.out
    · omega
    · injection hbo with hbo; injection hbo with hb1 hb2
      subst hb1 hb2
      rw [add_plain]
      exact hc j u hu)
  have HLEN := Lib.hid (show (flat portL il).length = N * 2 by rw [flat_len portL_len, HN.out])
  have HLL := Lib.hid hll
  have nal0 : Below W2.heap.size W2 (W2.alloc (Obj.cells #[] 65)) := (Below.refl _ _).alloc (Nat.le_refl _) _
  have HE := Lib.hid (own_empty W2 65 2)
  have g_2b := (nal0.cell (p := ⟨g, 2, none⟩) HG.out.lt).trans g_2
  have hif := HIF.out
  have hz0 := HZ0.out
  have hz1 := HZ1.out
  have hz2 := HZ2.out
  have nz : ¬ N = 0 := by omega
  clear hll hlc
  go_wp2_with (at_builtin; refine wpList_append_own _ rfl _ _ 28 rfl W2.heap.size 65 i0 (.agg #[.string ⟨#[]⟩, .string ⟨#[]⟩]) 2 32 Tryd.underlying28 hif hz0 hz1 hz2 rfl (by decide) _ _ _ rfl HE.out ⟨lb, lo, none⟩ N c2 (flat portL il) rfl HLEN.out ?d1 (port_str il) ?d3 ?d4 ?d5 ?_)
  case d1 => exact fun j u hu => by rw [add_plain]; exact (nal0.cell (p := ⟨lb, lo + j, none⟩) HLL.out).trans (by have := HLC.out j u hu; rwa [add_plain] at this)
  case d3 => unfold maxLen; omega
  case d4 => omega
  case d5 => rw [World.size_alloc]; omega
  intro v5 w6 hown hgrow _
  try rw [List.nil_append, Nat.zero_add] at hown
  obtain ⟨a6, c6, rfl, _⟩ := ins_own hown
  have HV := Lib.hid (show w6.ownsRow W2.heap.size 65 2 (.slice a6 N c6) N (flat portL (insK il N)) by
    have h1 := insK_same il
    rw [← HN.out] at h1
    rw [h1]; exact hown)
  have HB6 := Lib.hid (nal0.grown hgrow (by rw [World.size_alloc]; omega) (fun q e => by simp [Value.ownBlock] at e; omega))
  clear hown hgrow nal0 hif hz0 hz1 hz2 g_0 g_1 g_2 g_2b g_3 g_4 g_5
  go_wp2_with fail
  go_loopw [9] (fun p wr => ∃ k : Nat, ∃ a cc, N ≤ k ∧ k ≤ c ∧ p = .slice a k cc ∧ Hid (wr.ownsRow W2.heap.size 65 2 (.slice a k cc) k (flat portL (insK il k)) ∧ Below W2.heap.size W2 wr)) (fun p _ => c - lenV p)
  case atStart => exact ⟨N, _, _, Nat.le_refl _, c0, rfl, Lib.hid ⟨HV.out, HB6.out⟩⟩
  case round =>
    obtain ⟨k, a, cc, hk0, hk, rfl, hH⟩ := hrel
    have HVK := Lib.hid hH.out.1
    have HBK := Lib.hid hH.out.2
    clear hH
    by_cases hlt : k < c
    · have g_2 := (HG.out.keep HBK.out).c 2 _ rfl
      have l0 : wr.cell? ⟨lb, lo + q * 2, none⟩ = some (.string xn) := by
        have h1 := HLC.out (q * 2 + 0) _ ((flat_at portL_len il q _ HX.out 0 (by decide)).trans rfl)
        rw [add_plain] at h1
        exact (HBK.out.cell (p := ⟨lb, lo + q * 2, none⟩) HLL.out).trans h1
      have l1 : wr.cell? ⟨lb, lo + q * 2 + 1, none⟩ = some (.string xt) := by
        have h1 := HLC.out (q * 2 + 1) _ ((flat_at portL_len il q _ HX.out 1 (by decide)).trans rfl)
        rw [add_plain] at h1
        exact (HBK.out.cell (p := ⟨lb, lo + q * 2 + 1, none⟩) HLL.out).trans h1
      have s1 := HS1.out
      have s2 : (q : Int).toNat = q := by omega
      have s3 : (0 : Int) ≤ (q : Int) := by omega
      have s4 : (q : Int) < (N : Int) := by omega
      have s5 : (N : Int) - 1 = (q : Int) := by have := HQ.out; omega
      have hif := HIF.out
      have hz0 := HZ0.out
      have hz1 := HZ1.out
      have hz2 := HZ2.out
      have hki : (k : Int) < (c : Int) := by omega
      go_wp2_with (at_builtin; refine wpList_append_own _ rfl _ _ 28 rfl W2.heap.size 65 i0 (.agg #[.string ⟨#[]⟩, .string ⟨#[]⟩]) 2 32 Tryd.underlying28 hif hz0 hz1 hz2 rfl (by decide) _ _ _ rfl (own_at HVK.out _) ⟨wr.heap.size, 0, none⟩ 1 1 [.string xn, .string xt] rfl rfl ?c1 ?c2 ?c3 ?c4 ?c5 ?_)
      case c1 =>
        intro j u hu
        rw [add_plain, Nat.zero_add]
        exact (row_fresh wr #[.string xn, .string xt] 65).c j u hu
      case c2 =>
        intro u hu
        simp at hu
        rcases hu with rfl | rfl <;> rfl
      case c3 => unfold maxLen; omega
      case c4 => omega
      case c5 => have h1 := HBK.out.size; rw [World.size_alloc]; omega
      intro v5 w7 hown hgrow _
      obtain ⟨a7, c7, rfl, _⟩ := ins_own hown
      have nal : Below wr.heap.size wr (wr.alloc (Obj.cells #[.string xn, .string xt] 65)) := (Below.refl _ _).alloc (Nat.le_refl _) _
      have Y2 := Lib.hid (show w7.ownsRow W2.heap.size 65 2 (.slice a7 (k + 1) c7) (k + 1) (flat portL (insK il (k + 1))) by
        rw [insK_succ il k (by have := HN.out; omega), HLAST.out, flat_append]
        exact hown)
      have vlt := fun q e => (HVK.out.lt q e).1
      have Y4 := Lib.hid ((HBK.out.trans (nal.mono HBK.out.size)).grown hgrow (by have := HBK.out.size; rw [World.size_alloc]; omega) (fun q e => vlt q e))
      clear hown hgrow nal vlt hif hz0 hz1 hz2 g_2 l0 l1 s1 s2 s3 s4 s5
      go_wp2_with fail
      go_roundw
      case rel => exact ⟨k + 1, a7, c7, by omega, by omega, by go_num, Lib.hid ⟨Y2.out, Y4.out⟩⟩
      case measure => (simp [lenV]) <;> omega
    · obtain rfl : k = c := by omega
      go_wp2_with fail
      go_ret2
      exact ⟨_, rfl, own_base HVK.out HB.out.size, HB.out.trans (HBK.out.mono HB.out.size)⟩
set_option maxHeartbeats 4000000 in
theorem rInputs_miss (s : ByteArray) (hn : ∀ j, j < 33 → ¬ (rowR j).nm = s) (c : Int) (w : World) :
    Calls Tryd.prog 20 #[.string s, .int .i64 c] w fun e w' => e = .returned (.tuple #[.slice none 0 0, .int .i64 3]) ∧ Below w.heap.size w w' := by
  have KF := Lib.hid (find18_miss s hn w)
  clear hn
  go_enter Tryd.func20, Tryd.ntmps20
  go_wp2_with fail
  refine KF.out.mono ?_
  rintro e w1 ⟨rfl, hb⟩
  obtain ⟨W2, g, hW2, hg, RG, B2, sz2⟩ := box1 w1 #[.string ⟨#[]⟩, .slice none 0 0, .slice none 0 0, .slice none 0 0, .int .i64 0, .int .i64 0] 30
  have HB2 := Lib.hid (hb.trans (B2.mono hb.size))
  clear hb RG B2 sz2
  go_upto_region 2 with fail
  rw [← hW2]
  try rw [← hg]
  clear hW2 hg
  go_wp2_with fail
  go_ret2
  exact ⟨rfl, HB2.out⟩
/-- an answer of Inputs: an error and no list, or so many ports -/
def InsAns (E : Int) (xs : List PortD) (v : Value) (w' : World) : Prop := ∃ a c, v = .slice a xs.length c ∧ InS w' a xs.length 2 (flat portL xs)
theorem inputs_all (s : ByteArray) (c : Int) : ∃ (E : Int) (xs : List PortD), (∀ w, MaxAt w → Calls Tryd.prog 19 #[.string s, .int .i64 c] w fun e w' => ∃ a cc, e = .returned (.tuple #[.slice a xs.length cc, .int .i64 E]) ∧ InS w' a xs.length 2 (flat portL xs) ∧ Below w.heap.size w w') ∧ (∀ w, Calls Tryd.prog 20 #[.string s, .int .i64 c] w fun e w' => ∃ a cc, e = .returned (.tuple #[.slice a xs.length cc, .int .i64 E]) ∧ InS w' a xs.length 2 (flat portL xs) ∧ Below w.heap.size w w') := by
  have nil : ∀ w : World, InS w none ([] : List PortD).length 2 (flat portL []) := fun w => ⟨rfl, by decide, .inl rfl⟩
  rcases all_names s with ⟨ro, rm, rs, pl, il, ag, K⟩ | ⟨h1, h2⟩
  · by_cases hc : c < il.length ∨ il.length + rm - 1 < c
    · exact ⟨1, [], fun w hm => (Inputs_bad s ro rm rs pl il K.f il.length rfl K.l0 K.l10 K.m0 K.m1 c hc w hm).mono (by rintro e w' ⟨rfl, hb⟩; exact ⟨none, 0, rfl, nil _, hb⟩), fun w => (rInputs_bad s ro rm rs pl il K.r il.length rfl K.l0 K.l10 K.m0 K.m1 c hc w).mono (by rintro e w' ⟨rfl, hb⟩; exact ⟨none, 0, rfl, nil _, hb⟩)⟩
    · obtain ⟨m, rfl⟩ : ∃ m : Nat, c = m := ⟨c.toNat, by omega⟩
      have hlen := insK_len il m (by omega)
      refine ⟨0, insK il m, fun w hm => (Inputs_ok s ro rm rs pl il K.f il.length rfl K.l0 K.l10 K.m0 K.m1 m (by omega) (by omega) w hm).mono ?_, fun w => (rInputs_ok s ro rm rs pl il K.r il.length rfl K.l0 K.l10 K.m0 K.m1 m (by omega) (by omega) w).mono ?_⟩
      · rintro e w' ⟨v, rfl, hv, hb⟩
        obtain ⟨a, cc, rfl, hi⟩ := ins_own hv
        exact ⟨a, cc, by rw [hlen], by rw [hlen]; exact hi, hb⟩
      · rintro e w' ⟨v, rfl, hv, hb⟩
        obtain ⟨a, cc, rfl, hi⟩ := ins_own hv
        exact ⟨a, cc, by rw [hlen], by rw [hlen]; exact hi, hb⟩
  · exact ⟨3, [], fun w hm => (Inputs_miss s h1 c w).mono (by rintro e w' ⟨rfl, hb⟩; exact ⟨none, 0, rfl, nil _, hb⟩), fun w => (rInputs_miss s h2 c w).mono (by rintro e w' ⟨rfl, hb⟩; exact ⟨none, 0, rfl, nil _, hb⟩)⟩
set_option maxHeartbeats 4000000 in
set_option maxRecDepth 100000 in
theorem inputs_law (s : ByteArray) (c : Int) (w : World) (hs : s.size ≤ maxLen) (hm : MaxAt w) :
    Calls Tryd.prog 5 #[.string s, .int .i64 c] w fun e w' => e = .returned (.bool true) ∧ Below w.heap.size w w' := by
  have KAW := Lib.hid (awake_yes w hm)
  unfold maxLen at hs
  have HMX := Lib.hid (fun (x : World) (hb : Below w.heap.size w x) => hm.keep hb)
  clear hm
  by_cases hbig : 100 < s.size
  · go_enter Tryd.func5, Tryd.ntmps5
    go_wp2_with fail
    refine KAW.out.mono ?_
    rintro e w1 ⟨rfl, hb⟩
    have HB1 := Lib.hid hb
    clear hb
    go_wp2_with fail
    go_ret
    exact ⟨rfl, HB1.out⟩
  · obtain ⟨E, xs, k1, k2⟩ := inputs_all s c
    have K1 := Lib.hid k1
    have K2 := Lib.hid k2
    obtain ⟨M, hM⟩ : ∃ M, M = xs.length := ⟨_, rfl⟩
    have HM := Lib.hid hM
    rw [← hM] at K1 K2
    have e0 : (E == E) = true := by simp
    clear k1 k2 hM
    go_enter Tryd.func5, Tryd.ntmps5
    go_wp2_with fail
    refine KAW.out.mono ?_
    rintro e w1 ⟨rfl, hb⟩
    have HB1 := Lib.hid hb
    clear hb
    go_wp2_with fail
    refine (K1.out _ (HMX.out _ HB1.out)).mono ?_
    rintro e w2 ⟨a, ca, rfl, hi, hb⟩
    have HB2 := Lib.hid (HB1.out.trans (hb.mono HB1.out.size))
    have HI2 := Lib.hid hi
    clear hb hi
    go_wp2_with fail
    refine (K2.out _).mono ?_
    rintro e w3 ⟨a2, ca2, rfl, hi, hb⟩
    have HB3 := Lib.hid (HB2.out.trans (hb.mono HB2.out.size))
    have HI3 := Lib.hid (HI2.out.keep hb)
    have HJ3 := Lib.hid hi
    clear hb hi
    go_wp2_with fail
    refine (ports_yes xs M HM.out a a2 ca ca2 _ HI3.out HJ3.out).mono ?_
    rintro e w4 ⟨rfl, hb⟩
    have HB4 := Lib.hid (HB3.out.trans (hb.mono HB3.out.size))
    clear hb
    go_wp2_with fail
    go_ret
    exact ⟨rfl, HB4.out⟩
end Go.Proofs.YtaobbedajgkmiaaDoor
