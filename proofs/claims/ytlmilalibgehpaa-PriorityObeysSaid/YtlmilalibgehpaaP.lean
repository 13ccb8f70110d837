/- The contract of the specification's Join. -/
import Derived.Test.YtlmilalibgehpaaO
namespace Go.Proofs.Ytlmilalibgehpaa
open Go.RowKit


theorem run_append_none {P : Program} (t ty e : TypeId) (i : TypeInfo) (ht : P.underlying t = some (.slice e)) (hi : P.info? e = some i) {w : World} {base size n c : Nat} {v : Value} {xs : List Value} (hown : w.ownsRow base e size v n xs) :
    (Builtin.append_ #[t, t] ty #[v, .slice none 0 c]).run P w = .ok v w := by
  rcases hown.2 with ⟨rfl, rfl⟩ | ⟨g, cap, cur, rfl, hbg, hg, hnc, hcm, hcs, htake⟩
  · simp [Builtin.append_, run_underlying ht, sizeOf, typeInfo, hi, Builtin.lenOf, Builtin.firstCells]
  · simp [Builtin.append_, run_underlying ht, sizeOf, typeInfo, hi, Builtin.lenOf, Builtin.firstCells, loadCells, hnc, storeCells]
theorem wpList_append_none {P : Program} {ops : Array Oper} {rest : List Oper} {o : Oper} {a : Act} {w : World} {Q : Exit → Act → World → Prop} (hgd : o.guard = none) (s x : Operand) (t e : TypeId) (i : TypeInfo) (ht : P.underlying t = some (.slice e)) (hi : P.info? e = some i)
    (ho : o.op = .call { callee := .builtin .append, args := #[s, x], argTypes := #[t, t] })
    {base size n c : Nat} (v : Value) {xs : List Value} (hs : a.eval s = v) (hx : a.eval x = .slice none 0 c) (hown : w.ownsRow base e size v n xs)
    (h : wpList P ops Q rest (a.put o.dst v) w) : wpList P ops Q (o :: rest) a w :=
  wpList_plain hgd fun _ hK => by
    have hr := run_append_none (P := P) t o.type e i ht hi (c := c) hown
    unfold Oper.wp execOp
    simp only [ho, resolve, invoke, builtin, Sem.run_bind, Sem.run_pure, Result.andThen_ok, List.map_toArray, List.map_cons, List.map_nil, hs, hx, hr]
    exact hK _ _ h
theorem flat_one (xs : List WrD) : ∀ u ∈ flat wrL xs, u.oneCell' = true := by
  intro v hv
  unfold flat at hv
  rw [List.mem_flatMap] at hv
  obtain ⟨x, _, hx⟩ := hv
  exact wrL_one x v hx
theorem ins_none {w : World} {a : Option Addr} {n sz : Nat} {L : List Value} (h : InS w a n sz L) : (a = none ∧ n = 0) ∨ ∃ ad, a = some ad := by
  cases a with
  | some ad => exact .inr ⟨ad, rfl⟩
  | none =>
    obtain ⟨_, _, h0 | ⟨b, off, ha, _⟩⟩ := h
    · exact .inl ⟨rfl, h0⟩
    · cases ha
theorem ins_news {w : World} {ad : Addr} {n sz : Nat} {L : List Value} (h : InS w (some ad) n sz L) : ∀ j u, L[j]? = some u → w.cell? (ad.add j) = some u := by
  obtain ⟨hl, _, h0 | ⟨b, off, ha, _, hc⟩⟩ := h
  · intro j u hu
    have := (List.getElem?_eq_some_iff.1 hu).1
    rw [hl, h0, Nat.zero_mul] at this
    omega
  · injection ha with ha
    subst ha
    intro j u hu
    rw [add_plain]
    exact hc j u hu
set_option maxHeartbeats 4000000 in
set_option maxRecDepth 100000 in
theorem rjoin_any (a b : Option Addr) (ca cb : Nat) (xs ys : List WrD) (w : World) (hx : xs.length ≤ 100) (hy : ys.length ≤ 100) (hin : InS w a xs.length 4 (flat wrL xs)) (hin2 : InS w b ys.length 4 (flat wrL ys)) : Calls Try.prog 18 #[.slice a xs.length ca, .slice b ys.length cb] w fun e w' => ∃ v, e = .returned v ∧ w'.ownsRow w.heap.size 25 4 v (writesL (bestS (xs ++ ys))).length (flat wrL (writesL (bestS (xs ++ ys)))) ∧ Below w.heap.size w w' := by
  obtain ⟨i0, hif, hz0, hz1, hz2⟩ := info_parts infoWr
  have HOF := Lib.hid (fun v cap w1 hin => rof_any v cap (xs ++ ys) w1 (by rw [List.length_append]; omega) hin)
  have hox := fun u hu => flat_one xs u hu
  have HO1 := Lib.hid hox
  have HO2 := Lib.hid (fun u hu => flat_one ys u hu)
  have HL1 := Lib.hid (flat_len wrL_len xs)
  have HL2 := Lib.hid (flat_len wrL_len ys)
  have HI1 := Lib.hid hin
  have HI2 := Lib.hid hin2
  have HE := Lib.hid (own_empty w 25 4)
  have KW := Lib.hid ((Below.refl w.heap.size w).alloc (Nat.le_refl _) (Obj.cells #[] 25))
  obtain ⟨N, hN⟩ : ∃ N, N = xs.length := ⟨_, rfl⟩
  obtain ⟨K, hK⟩ : ∃ N, N = ys.length := ⟨_, rfl⟩
  have hNb : N ≤ 100 := by omega
  have hKb : K ≤ 100 := by omega
  rw [← hN] at HL1 HI1 ⊢
  rw [← hK] at HL2 HI2 ⊢
  have HN := Lib.hid hN
  have HK := Lib.hid hK
  have hnx := ins_none HI1.out
  have hny := ins_none HI2.out
  clear hox hin hin2 hN hK hx hy
  rcases hnx with ⟨rfl, rfl⟩ | ⟨ad, rfl⟩
  · obtain rfl : xs = [] := List.length_eq_zero_iff.1 HN.out.symm
    rcases hny with ⟨rfl, rfl⟩ | ⟨ad2, rfl⟩
    · obtain rfl : ys = [] := List.length_eq_zero_iff.1 HK.out.symm
      go_enter Try.func18, Try.ntmps18
      go_wp2_with fail
      refine (HOF.out _ _ _ ⟨rfl, by decide, .inl rfl⟩).mono ?_
      rintro e w4 ⟨v, rfl, ho, hb⟩
      have HO := Lib.hid (own_base ho KW.out.size)
      have HB4 := Lib.hid (KW.out.trans (hb.mono KW.out.size))
      clear ho hb
      go_wp2_with fail
      go_ret
      exact ⟨_, rfl, HO.out, HB4.out⟩
    · have HN2 := Lib.hid (ins_news (HI2.out.keep KW.out))
      go_enter Try.func18, Try.ntmps18
      go_wp2_with (at_builtin; refine wpList_append_own _ rfl _ _ 26 rfl w.heap.size 25 i0 (.agg #[.int .i64 0, .int .i64 0, .int .i64 0, .int .i64 0]) 4 32 Try.underlying26 hif hz0 hz1 hz2 rfl (by decide) _ 0 [] rfl HE.out ad2 K cb (flat wrL ys) rfl HL2.out HN2.out HO2.out (by unfold maxLen; omega) (by omega) KW.out.size ?_)
      intro v2 w3 hown hgrow _
      have HW3 := Lib.hid (show w3.ownsRow w.heap.size 25 4 v2 ys.length (flat wrL ys) by rw [← HK.out]; first | exact hown | (rw [Nat.zero_add, List.nil_append] at hown; exact hown))
      have KB3 := Lib.hid (KW.out.grown hgrow KW.out.size (fun k hk => (HE.out.lt k hk).1))
      clear hown hgrow
      obtain ⟨a3, c3, rfl, hi3⟩ := ins_own HW3.out
      have HI3 := Lib.hid hi3
      clear hi3
      go_wp2_with fail
      refine (HOF.out _ _ _ HI3.out).mono ?_
      rintro e w4 ⟨v, rfl, ho, hb⟩
      have HO := Lib.hid (own_base ho KB3.out.size)
      have HB4 := Lib.hid (KB3.out.trans (hb.mono KB3.out.size))
      clear ho hb
      go_wp2_with fail
      go_ret
      exact ⟨_, rfl, HO.out, HB4.out⟩
  · have HN1 := Lib.hid (ins_news (HI1.out.keep KW.out))
    go_enter Try.func18, Try.ntmps18
    go_wp2_with (at_builtin; refine wpList_append_own _ rfl _ _ 26 rfl w.heap.size 25 i0 (.agg #[.int .i64 0, .int .i64 0, .int .i64 0, .int .i64 0]) 4 32 Try.underlying26 hif hz0 hz1 hz2 rfl (by decide) _ 0 [] rfl HE.out ad N ca (flat wrL xs) rfl HL1.out HN1.out HO1.out (by unfold maxLen; omega) (by omega) KW.out.size ?_)
    intro v1 w2 hown hgrow _
    have HW2 := Lib.hid (show w2.ownsRow w.heap.size 25 4 v1 N (flat wrL xs) from by first | exact hown | (rw [Nat.zero_add, List.nil_append] at hown; exact hown))
    have KB2 := Lib.hid (KW.out.grown hgrow KW.out.size (fun k hk => (HE.out.lt k hk).1))
    clear hown hgrow
    rcases hny with ⟨rfl, rfl⟩ | ⟨ad2, rfl⟩
    · obtain rfl : ys = [] := List.length_eq_zero_iff.1 HK.out.symm
      have HXN := Lib.hid (show xs ++ [] = xs from List.append_nil xs)
      clear HOF
      have HOF2 : Hid (∀ (v : Option Addr) (cap : Nat) (w1 : World), InS w1 v N 4 (flat wrL xs) → Calls Try.prog 16 #[.slice v N cap] w1 fun e w' => ∃ v, e = .returned v ∧ w'.ownsRow w1.heap.size 25 4 v (writesL (bestS xs)).length (flat wrL (writesL (bestS xs))) ∧ Below w1.heap.size w1 w') := Lib.hid (by
        rw [HN.out]; exact fun v cap w1 hin => rof_any v cap xs w1 (by have := HN.out; omega) hin)
      go_wp2_with (at_builtin; refine wpList_append_none rfl _ _ 26 25 i0 Try.underlying26 hif rfl _ rfl rfl HW2.out ?_)
      obtain ⟨a3, c3, rfl, hi3⟩ := ins_own HW2.out
      have HI3 := Lib.hid hi3
      clear hi3
      go_wp2_with fail
      have hcall := HOF2.out a3 c3 w2 HI3.out
      refine hcall.mono ?_
      rintro e w4 ⟨v, rfl, ho, hb⟩
      have HO := Lib.hid (own_base ho KB2.out.size)
      have HB4 := Lib.hid (KB2.out.trans (hb.mono KB2.out.size))
      clear ho hb
      go_wp2_with fail
      go_ret
      exact ⟨_, rfl, by rw [HXN.out]; exact HO.out, HB4.out⟩
    · obtain ⟨zs, hzs⟩ : ∃ zs, zs = xs ++ ys := ⟨_, rfl⟩
      obtain ⟨M, hM⟩ : ∃ M, M = N + K := ⟨_, rfl⟩
      have HZS := Lib.hid hzs
      have HM := Lib.hid hM
      have hzl : zs.length = M := by rw [HZS.out, List.length_append, ← HN.out, ← HK.out, HM.out]
      have hzf : flat wrL xs ++ flat wrL ys = flat wrL zs := by rw [HZS.out, flat_append]
      have HZL := Lib.hid hzl
      have HZF := Lib.hid hzf
      have hMb : M ≤ 200 := by omega
      clear HOF hzs hM hzl hzf
      have HOF2 : Hid (∀ (v : Option Addr) (cap : Nat) (w1 : World), InS w1 v M 4 (flat wrL zs) → Calls Try.prog 16 #[.slice v M cap] w1 fun e w' => ∃ v, e = .returned v ∧ w'.ownsRow w1.heap.size 25 4 v (writesL (bestS zs)).length (flat wrL (writesL (bestS zs))) ∧ Below w1.heap.size w1 w') := Lib.hid (by
        rw [← HZL.out]; exact fun v cap w1 hin => rof_any v cap zs w1 (by have := HZL.out; omega) hin)
      have HN2 := Lib.hid (ins_news (HI2.out.keep KB2.out))
      go_wp2_with (at_builtin; refine wpList_append_own _ rfl _ _ 26 rfl w.heap.size 25 i0 (.agg #[.int .i64 0, .int .i64 0, .int .i64 0, .int .i64 0]) 4 32 Try.underlying26 hif hz0 hz1 hz2 rfl (by decide) _ N (flat wrL xs) rfl HW2.out ad2 K cb (flat wrL ys) rfl HL2.out HN2.out HO2.out (by unfold maxLen; omega) (by omega) KB2.out.size ?_)
      intro v2 w3 hown hgrow _
      have HW3 := Lib.hid (show w3.ownsRow w.heap.size 25 4 v2 M (flat wrL zs) by rw [HM.out, ← HZF.out]; exact hown)
      have KB3 := Lib.hid (KB2.out.grown hgrow KB2.out.size (fun k hk => (HW2.out.lt k hk).1))
      clear hown hgrow
      obtain ⟨a3, c3, rfl, hi3⟩ := ins_own HW3.out
      have HI3 := Lib.hid hi3
      clear hi3
      go_wp2_with fail
      have hcall := HOF2.out a3 c3 w3 HI3.out
      refine hcall.mono ?_
      rintro e w4 ⟨v, rfl, ho, hb⟩
      have HO := Lib.hid (own_base ho KB3.out.size)
      have HB4 := Lib.hid (KB3.out.trans (hb.mono KB3.out.size))
      clear ho hb
      go_wp2_with fail
      go_ret
      exact ⟨_, rfl, by rw [← HZS.out]; exact HO.out, HB4.out⟩
end Go.Proofs.Ytlmilalibgehpaa
