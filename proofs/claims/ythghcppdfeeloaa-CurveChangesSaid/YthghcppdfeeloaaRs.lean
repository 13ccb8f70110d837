/- The contract of the specification's Shift. -/
import Derived.Test.YthghcppdfeeloaaCr
import Derived.Test.YthghcppdfeeloaaSf
import Derived.Deep.RegionHeld3
namespace Go.Proofs.Ythghcppdfeeloaa
open Go.RowKit

/-- append to a row of the call's own, as one step of a region that draws its order -/
theorem step_append_own {P : Program} {ops : Array Oper} {o : Oper} {a : Act} {w : World} {K : Act → World → Prop} {Q : Exit → Act → World → Prop} {E : Prop} (hgd : o.guard = none) (s x : Operand) (t : TypeId)
    (ho : o.op = .call { callee := .builtin .append, args := #[s, x], argTypes := #[t, t] })
    (base : Nat) (e : TypeId) (i : TypeInfo) (z : Value) (size bytes : Nat) (ht : P.underlying t = some (.slice e)) (hi : P.info? e = some i) (hz : i.zero = some z)
    (hsize : i.size = size) (hby : i.bytes = bytes) (hzs : z.cells.size = size) (hsz : 0 < size)
    (v : Value) (n : Nat) (xs : List Value) (hs : a.eval s = v) (hown : w.ownsRow base e size v n xs)
    (ad : Addr) (m c : Nat) (news : List Value) (hx : a.eval x = .slice (some ad) m c) (hl : news.length = m * size) (hnews : ∀ j u, news[j]? = some u → w.cell? (ad.add j) = some u) (h1 : ∀ u ∈ news, u.oneCell' = true)
    (h63 : n + m ≤ maxLen) (hbytes : (n + m) * bytes ≤ 140737488355328) (hbase : base ≤ w.heap.size)
    (h : ∀ v' w', w'.ownsRow base e size v' (n + m) (xs ++ news) → w.grownBy w' v.ownBlock → (v' = .slice none 0 0 ↔ v = .slice none 0 0 ∧ m = 0) → K (a.put o.dst v') w') :
    if Region.wanted o (yielded ops a.tmps) = true then Oper.wp P o a w K Q else E := by
  have hw : Region.wanted o (yielded ops a.tmps) = true := by simp [Region.wanted, hgd]
  rw [if_pos hw]
  exact wp_append_own w s x t ho base e i z size bytes ht hi hz hsize hby hzs hsz v n xs hs hown ad m c news hx hl hnews h1 h63 hbytes hbase h

theorem cellsK_one (ks : List (Int × Int)) : ∀ u ∈ cellsK ks, u.oneCell' = true := by
  intro u hu
  unfold cellsK at hu
  rw [List.mem_flatMap] at hu
  obtain ⟨k, _, hk⟩ := hu
  simp at hk
  rcases hk with rfl | rfl <;> rfl
theorem cellsK_append (ks ls : List (Int × Int)) : cellsK (ks ++ ls) = cellsK ks ++ cellsK ls := List.flatMap_append
theorem take_shift (ks : List (Int × Int)) (dx dy : Int) (k : Nat) (hk : k < ks.length) : cellsK ((shiftK ks dx dy).take (k + 1)) = cellsK ((shiftK ks dx dy).take k) ++ [.int .i64 (kx ks k + dx), .int .i64 (ky ks k + dy)] := by
  rw [List.take_succ_eq_append_getElem (by rw [shiftK_len]; exact hk), cellsK_append]
  congr 1
  unfold shiftK cellsK kx ky
  simp [List.getD, List.getElem?_eq_getElem hk]
theorem own_knots {w : World} {B : Nat} {v : Value} {ks : List (Int × Int)} (h : OwnK w B v ks) (h32 : ks.length ≤ 32) : ∃ a c, v = .slice a ks.length c ∧ IsKnots w a ks.length ks ∧ ks.length ≤ c := by
  by_cases h0 : 0 < ks.length
  · obtain ⟨g, cap, rfl, _, hr⟩ := own_row h h0
    exact ⟨_, _, rfl, row_known hr h32, hr.le⟩
  · have hz : ks = [] := List.length_eq_zero_iff.1 (by omega)
    subst hz
    obtain ⟨_, ⟨rfl, _⟩ | ⟨g, cap, cur, rfl, hrest⟩⟩ := h
    · exact ⟨none, 0, rfl, .inl ⟨rfl, rfl⟩, Nat.le_refl _⟩
    · exact ⟨_, cap, rfl, .inl ⟨rfl, rfl⟩, Nat.zero_le _⟩

set_option maxRecDepth 100000 in
set_option maxHeartbeats 8000000 in
theorem rshift_in (b off cap : Nat) (dx dy : Int) (ks : List (Int × Int)) (w : World) (he : checkL ks = 0) (hb : b < w.heap.size) (hc : Knots w b off ks) (x1 : -2000000000000 ≤ dx) (x2 : dx ≤ 2000000000000) (y1 : -2000000000000 ≤ dy) (y2 : dy ≤ 2000000000000) :
    Calls Try.prog 23 #[.slice (some ⟨b, off, none⟩) ks.length cap, .int .i64 dx, .int .i64 dy] w fun e w' => (∃ a' c', e = .returned (.tuple #[.slice a' (shiftR ks dx dy).length c', .int .i64 (shiftE ks dx dy)]) ∧ IsKnots w' a' (shiftR ks dx dy).length (shiftR ks dx dy)) ∧ Below w.heap.size w w' := by
  obtain ⟨h0, h32, hf, hr⟩ := check_zero ks he
  obtain ⟨i0, hi, hz0, hz1, hz2⟩ := info_parts infoKnot
  have hk := rcheck_any (some ⟨b, off, none⟩) ks.length cap ks w (.inr ⟨b, off, rfl, hb, rfl, by omega, hc⟩)
  rw [he] at hk
  have HK := Lib.hid hk
  have HF := Lib.hid fun i hi => fitb_at ks hf i hi
  have hE : shiftE ks dx dy = if fitL (shiftK ks dx dy) ks.length = true then 0 else 6 := by unfold shiftE; rw [if_neg (by omega)]
  have hE0 : fitL (shiftK ks dx dy) ks.length = true → shiftE ks dx dy = 0 ∧ shiftR ks dx dy = shiftK ks dx dy := fun h => by
    have e : shiftE ks dx dy = 0 := by rw [hE, if_pos h]
    exact ⟨e, if_pos e⟩
  have hE6 : ∀ k, k < ks.length → ¬ (inR (kx ks k + dx) = true ∧ inR (ky ks k + dy) = true) → shiftE ks dx dy = 6 ∧ shiftR ks dx dy = [] := fun k hk hn => by
    have e : shiftE ks dx dy = 6 := by
      rw [hE, if_neg]
      intro h
      have g := all_at _ k _ h hk
      rw [Bool.and_eq_true, kx_shiftK _ _ _ _ hk, ky_shiftK _ _ _ _ hk] at g
      exact hn g
    exact ⟨e, if_neg (by rw [e]; decide)⟩
  have hS : ∀ k, k < ks.length → fitL (shiftK ks dx dy) k = true → inR (kx ks k + dx) = true → inR (ky ks k + dy) = true → fitL (shiftK ks dx dy) (k + 1) = true := fun k hk h1 h2 h3 => by
    unfold fitL at h1 ⊢
    rw [all_succ, h1, kx_shiftK _ _ _ _ hk, ky_shiftK _ _ _ _ hk, h2, h3]; rfl
  have HE0 := Lib.hid hE0
  have HE6 := Lib.hid hE6
  have HS := Lib.hid hS
  have HT := Lib.hid fun k hk => take_shift ks dx dy k hk
  have HEnd := Lib.hid (show (shiftK ks dx dy).take ks.length = shiftK ks dx dy from List.take_of_length_le (by rw [shiftK_len]; exact Nat.le_refl _))
  have HLen := Lib.hid (shiftK_len ks dx dy)
  have HC := Lib.hid hc
  obtain ⟨n, hn⟩ : ∃ n, n = ks.length := ⟨_, rfl⟩
  rw [← hn] at HK HF HE0 HE6 HS HT HEnd HLen h0 h32 ⊢
  have HN := Lib.hid hn
  obtain ⟨LS, hLS⟩ : ∃ LS, LS = shiftK ks dx dy := ⟨_, rfl⟩
  rw [← hLS] at HE0 HS HT HEnd HLen
  obtain ⟨E, hEE⟩ : ∃ E, E = shiftE ks dx dy := ⟨_, rfl⟩
  obtain ⟨R, hRR⟩ : ∃ R, R = shiftR ks dx dy := ⟨_, rfl⟩
  rw [← hEE, ← hRR] at HE0 HE6 ⊢
  have t1 : decide (dx < -2000000000000) = false := decide_eq_false (by omega)
  have t2 : decide (2000000000000 < dx) = false := decide_eq_false (by omega)
  have t3 : decide (dy < -2000000000000) = false := decide_eq_false (by omega)
  have t4 : decide (2000000000000 < dy) = false := decide_eq_false (by omega)
  clear hk he hf hr hc hE hE0 hE6 hS hn hLS hEE hRR
  go_enter Try.func23, Try.ntmps23
  go_wp2_with fail
  refine HK.out.mono ?_
  rintro e w1 ⟨rfl, hb1⟩
  have B1 := Lib.hid hb1
  clear hb1
  go_wp2_with fail
  have HO := Lib.hid (show (w1.alloc (Obj.cells #[] 50)).ownsRow w.heap.size 50 2 (.slice (some ⟨w1.heap.size, 0, none⟩) 0 0) 0 (cellsK (LS.take 0)) from
    ⟨rfl, .inr ⟨w1.heap.size, 0, #[], rfl, B1.out.size, (by show (w1.heap.push (Obj.cells #[] 50))[w1.heap.size]? = _; simp), Nat.le_refl _, by simp, rfl, rfl⟩⟩)
  have B2 := Lib.hid (B1.out.alloc B1.out.size (Obj.cells #[] 50))
  obtain ⟨w2, hw2⟩ : ∃ w2, w2 = w1.alloc (Obj.cells #[] 50) := ⟨_, rfl⟩
  rw [← hw2] at HO B2 ⊢
  clear hw2
  go_loopw [9, 10] (fun v i wr => ∃ k : Nat, k ≤ n ∧ i = .int .i64 k ∧ wr.ownsRow w.heap.size 50 2 v k (cellsK (LS.take k)) ∧ Hid (fitL LS k = true) ∧ Below w.heap.size w wr) (fun _ i _ => n - (intOf i).toNat)
  case atStart => exact ⟨0, by omega, rfl, HO.out, rfl, B2.out⟩
  case round =>
    obtain ⟨k, hk, rfl, hown, hfitk, hbel⟩ := hrel
    have HOw := Lib.hid hown
    have BR := Lib.hid hbel
    clear hown hbel
    by_cases hlt : k < n
    · obtain ⟨c0, c1⟩ := HC.out.at hb BR.out k (by rw [← HN.out]; exact hlt)
      have f1 := HF.out k hlt
      have hT := HT.out k hlt
      have h6 := HE6.out k hlt
      have hs := HS.out k hlt hfitk.out
      obtain ⟨X, hX⟩ : ∃ t, t = kx ks k := ⟨_, rfl⟩
      obtain ⟨Y, hY⟩ : ∃ t, t = ky ks k := ⟨_, rfl⟩
      rw [← hX] at c0 f1 hT h6 hs
      rw [← hY] at c1 f1 hT h6 hs
      have e1 : IntKind.i64.wrap (X + dx) = X + dx := IntWalk.i64_in _ ⟨by omega, by omega⟩
      have e2 : IntKind.i64.wrap (Y + dy) = Y + dy := IntWalk.i64_in _ ⟨by omega, by omega⟩
      obtain ⟨X', hX'⟩ : ∃ t, t = X + dx := ⟨_, rfl⟩
      obtain ⟨Y', hY'⟩ : ∃ t, t = Y + dy := ⟨_, rfl⟩
      rw [← hX'] at hT h6 hs
      rw [← hY'] at hT h6 hs
      have e1 : IntKind.i64.wrap (X + dx) = X' := by rw [e1, hX']
      have e2 : IntKind.i64.wrap (Y + dy) = Y' := by rw [e2, hY']
      have e3 : wrap64 (X + dx) = X' := by unfold wrap64; omega
      have e4 : wrap64 (Y + dy) = Y' := by unfold wrap64; omega
      have HI1 := Lib.hid fun w' => inside_any X' w'
      have HI2 := Lib.hid fun w' => inside_any Y' w'
      have HTk := Lib.hid hT
      have H6 := Lib.hid h6
      have HSk := Lib.hid hs
      have k1 : (0 : Int) ≤ (k : Int) := by omega
      have k2 : (k : Int) < (n : Int) := by omega
      have hbr : wr.heap.size ≠ b := by have := BR.out.size; omega
      have HX := Lib.hid hX'
      have HY := Lib.hid hY'
      clear hX hY f1 hT h6 hs hX' hY'
      go_wp2_with fail
      go_region_held3 (fun w' => w'.cell? ⟨b, off + k * 2, none⟩ = some (.int .i64 X) ∧ w'.cell? ⟨b, off + k * 2 + 1, none⟩ = some (.int .i64 Y)) (first | go_keep) ((fail))
      all_goals
        rename_i hHeld
        clear hHeld
        go_wp2_with fail
        (try rw [← HX.out])
        (try rw [← HY.out])
        have BA := Lib.hid ((BR.out.alloc BR.out.size (Obj.cells #[.int .i64 X', .int .i64 Y'] 50)).drew)
        have HOA := Lib.hid ((HOw.out.alloc (Obj.cells #[.int .i64 X', .int .i64 Y'] 50)).drew)
        have q0 : (wr.alloc (Obj.cells #[.int .i64 X', .int .i64 Y'] 50)).drew.cell? ⟨wr.heap.size, 0, none⟩ = some (.int .i64 X') := cell_two0 _ _ _ _
        have q1 : (wr.alloc (Obj.cells #[.int .i64 X', .int .i64 Y'] 50)).drew.cell? ⟨wr.heap.size, 1, none⟩ = some (.int .i64 Y') := cell_two1 _ _ _ _
        obtain ⟨p, hp⟩ : ∃ p, p = wr.heap.size := ⟨_, rfl⟩
        obtain ⟨W2, hW2⟩ : ∃ W2, W2 = (wr.alloc (Obj.cells #[.int .i64 X', .int .i64 Y'] 50)).drew := ⟨_, rfl⟩
        rw [← hp, ← hW2] at q0 q1
        rw [← hW2] at BA HOA
        rw [← hp, ← hW2]
        clear hp hW2 c0 c1 BR HOw hbr
        go_wp2_with fail
        refine (HI1.out _).mono ?_
        rintro e w3 ⟨rfl, rfl⟩
        cases hx : inR X'
        · obtain ⟨g1, g2⟩ := H6.out (by rw [hx]; simp)
          subst g1
          subst g2
          go_wp2_with fail
          go_ret2
          exact ⟨⟨_, _, rfl, .inl ⟨rfl, rfl⟩⟩, BA.out⟩
        · go_wp2_with fail
          refine (HI2.out _).mono ?_
          rintro e w4 ⟨rfl, rfl⟩
          cases hy : inR Y'
          · obtain ⟨g1, g2⟩ := H6.out (by rw [hy]; simp)
            subst g1
            subst g2
            go_wp2_with fail
            go_ret2
            exact ⟨⟨_, _, rfl, .inl ⟨rfl, rfl⟩⟩, BA.out⟩
          · have HFk := Lib.hid (HSk.out hx hy)
            have n0 := cell_two0 W2 (.int .i64 X') (.int .i64 Y') 50
            have n1 := cell_two1 W2 (.int .i64 X') (.int .i64 Y') 50
            have HNn := Lib.hid (And.intro n0 n1)
            have HLt := HOA.out.lt
            have HLl := Lib.hid HLt
            clear n0 n1 HLt hx hy
            go_wp2_with (at_builtin; refine wpList_append_own _ rfl _ _ 22 rfl w.heap.size 50 i0 (.agg #[.int .i64 0, .int .i64 0]) 2 16 Try.underlying22 hi hz0 hz1 hz2 rfl (by decide) _ _ _ rfl (HOA.out.alloc _) ⟨W2.heap.size, 0, none⟩ 1 1 [.int .i64 X', .int .i64 Y'] rfl rfl ?c1 ?c2 ?c3 ?c4 ?c5 ?_)
            case c1 =>
              intro j u hu
              obtain rfl | rfl : j = 0 ∨ j = 1 := by
                have := (List.getElem?_eq_some_iff.1 hu).1
                simp at this; omega
              · simp at hu; subst hu; rw [add_plain]; exact HNn.out.1
              · simp at hu; subst hu; rw [add_plain]; exact HNn.out.2
            case c2 =>
              intro u hu
              simp at hu
              rcases hu with rfl | rfl <;> rfl
            case c3 => unfold maxLen; omega
            case c4 => omega
            case c5 => have := BA.out.size; simp; omega
            intro v' w5 hown' hgrow _
            have HO5 := Lib.hid (show w5.ownsRow w.heap.size 50 2 v' (k + 1) (cellsK (LS.take (k + 1))) by rw [HTk.out]; exact hown')
            have B5 := Lib.hid ((BA.out.alloc BA.out.size (Obj.cells #[.int .i64 X', .int .i64 Y'] 50)).grown hgrow (Nat.le_trans BA.out.size (by simp)) (fun k hk => (HLl.out k hk).1))
            clear hown' hgrow
            go_wp2_with fail
            go_roundw
            case rel => exact ⟨k + 1, by omega, by go_num, HO5.out, HFk, B5.out⟩
            case measure => simp [intOf]; omega
    · obtain rfl : k = n := by omega
      obtain ⟨r1, r2⟩ := HE0.out hfitk.out
      have hO2 : OwnK wr w.heap.size u9 LS := by
        have := HOw.out
        rw [HEnd.out] at this
        unfold OwnK
        rw [HLen.out]; exact this
      obtain ⟨a', c', rfl, hkn, _⟩ := own_knots hO2 (by rw [HLen.out]; exact h32)
      subst r1
      subst r2
      have HKn := Lib.hid hkn
      clear hO2 hkn
      go_wp2_with fail
      go_ret2
      exact ⟨⟨a', ⟨c', rfl⟩, HKn.out⟩, BR.out⟩

theorem rshift_any (a : Option Addr) (n cap : Nat) (dx dy : Int) (ks : List (Int × Int)) (w : World) (h : IsKnots w a n ks) (_ : -9223372036854775808 ≤ dx) (_ : dx ≤ 9223372036854775807) (_ : -9223372036854775808 ≤ dy) (_ : dy ≤ 9223372036854775807) :
    Calls Try.prog 23 #[.slice a n cap, .int .i64 dx, .int .i64 dy] w fun e w' => (∃ a' c', e = .returned (.tuple #[.slice a' (shiftR ks dx dy).length c', .int .i64 (shiftE ks dx dy)]) ∧ IsKnots w' a' (shiftR ks dx dy).length (shiftR ks dx dy)) ∧ Below w.heap.size w w' := by
  have hk := rcheck_any a n cap ks w h
  by_cases he : checkL ks = 0
  · by_cases hin : (-2000000000000 ≤ dx ∧ dx ≤ 2000000000000) ∧ (-2000000000000 ≤ dy ∧ dy ≤ 2000000000000)
    · obtain ⟨h0, h32, _, _⟩ := check_zero ks he
      obtain ⟨b, off, rfl, hb, rfl, hc⟩ := h.some h0
      exact rshift_in b off cap dx dy ks w he hb hc hin.1.1 hin.1.2 hin.2.1 hin.2.2
    · have hE : shiftE ks dx dy = 6 := by
        unfold shiftE
        rw [if_neg (by omega), if_neg]
        intro hfit
        exact hin (shift_near he dx dy hfit)
      rw [show shiftR ks dx dy = [] from if_neg (by rw [hE]; decide), hE]
      rw [he] at hk
      have HK := Lib.hid hk
      have t1 : (decide (dx < -2000000000000) = true) ∨ (decide (dx < -2000000000000) = false ∧ decide (2000000000000 < dx) = true) ∨ (decide (dx < -2000000000000) = false ∧ decide (2000000000000 < dx) = false ∧ decide (dy < -2000000000000) = true) ∨ (decide (dx < -2000000000000) = false ∧ decide (2000000000000 < dx) = false ∧ decide (dy < -2000000000000) = false ∧ decide (2000000000000 < dy) = true) := by
        simp only [decide_eq_true_eq, decide_eq_false_iff_not]
        omega
      clear hk he h hin hE
      rcases t1 with t1 | ⟨t1, t2⟩ | ⟨t1, t2, t3⟩ | ⟨t1, t2, t3, t4⟩
      all_goals
        go_enter Try.func23, Try.ntmps23
        go_wp2_with fail
        refine HK.out.mono ?_
        rintro e w1 ⟨rfl, hb1⟩
        have B1 := Lib.hid hb1
        clear hb1
        go_wp2_with fail
        go_ret2
        exact ⟨⟨_, _, rfl, .inl ⟨rfl, rfl⟩⟩, B1.out⟩
  · have hE : shiftE ks dx dy = checkL ks := if_pos he
    rw [show shiftR ks dx dy = [] from if_neg (by rw [hE]; exact he), hE]
    obtain ⟨E, hE⟩ : ∃ E, E = checkL ks := ⟨_, rfl⟩
    rw [← hE] at hk he ⊢
    have HK := Lib.hid hk
    have t0 : (E != 0) = true := by rw [bne_iff_ne]; exact he
    clear hk he h hE
    go_enter Try.func23, Try.ntmps23
    go_wp2_with fail
    refine HK.out.mono ?_
    rintro e w1 ⟨rfl, hb1⟩
    have B1 := Lib.hid hb1
    clear hb1
    go_wp2_with fail
    go_ret2
    exact ⟨⟨_, _, rfl, .inl ⟨rfl, rfl⟩⟩, B1.out⟩
end Go.Proofs.Ythghcppdfeeloaa
