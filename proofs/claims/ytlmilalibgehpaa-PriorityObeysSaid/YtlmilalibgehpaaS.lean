/- The contract of the specification's Keep. -/
import Derived.Test.YtlmilalibgehpaaN
import Derived.Test.YtlmilalibgehpaaKl
namespace Go.Proofs.Ytlmilalibgehpaa
open Go.RowKit


set_option maxHeartbeats 4000000 in
set_option maxRecDepth 100000 in
theorem rkeep_any (a b : Option Addr) (cap cb : Nat) (xs : List WrD) (ls : List Int) (w : World) (hmax : xs.length ≤ 200) (hin : InS w a xs.length 4 (flat wrL xs)) (hin2 : InS w b ls.length 1 (flat iL ls)) : Calls Try.prog 20 #[.slice a xs.length cap, .slice b ls.length cb] w fun e w' => ∃ v, e = .returned v ∧ w'.ownsRow w.heap.size 25 4 v ((writesL (bestS xs)).filter (lsB ls)).length (flat wrL ((writesL (bestS xs)).filter (lsB ls))) ∧ Below w.heap.size w w' := by
  obtain ⟨i0, hif, hz0, hz1, hz2⟩ := info_parts infoWr
  have HOF := Lib.hid (rof_any a cap xs w hmax hin)
  have HI2 := Lib.hid hin2
  have HAX := Lib.hid (writes_len (bestS xs))
  obtain ⟨N, hN⟩ : ∃ N, N = xs.length := ⟨_, rfl⟩
  rw [← hN] at HOF ⊢
  obtain ⟨K, hK⟩ : ∃ K, K = ls.length := ⟨_, rfl⟩
  have HK := Lib.hid hK
  rw [← hK]
  obtain ⟨AL, hAL⟩ : ∃ L, L = writesL (bestS xs) := ⟨_, rfl⟩
  rw [← hAL] at HOF HAX ⊢
  clear hmax hin hin2 hN hK hAL
  go_enter Try.func20, Try.ntmps20
  go_wp2_with fail
  refine HOF.out.mono ?_
  rintro e w1 ⟨v, rfl, ho, hb⟩
  obtain ⟨a3, c3, rfl, hi3⟩ := ins_own ho
  obtain ⟨M, hM⟩ : ∃ M, M = AL.length := ⟨_, rfl⟩
  have hM16 : M ≤ 16 := by rw [hM]; exact HAX.out
  have HM := Lib.hid hM
  have HI3 := Lib.hid hi3
  have HB1 := Lib.hid hb
  rw [← hM]
  clear ho hb hi3 HOF hM
  go_wp2_with fail
  go_loopw [5, 7] (fun o i wr => ∃ j : Nat, j ≤ M ∧ i = .int .i64 j ∧ Hid (wr.ownsRow w1.heap.size 25 4 o ((AL.take j).filter (lsB ls)).length (flat wrL ((AL.take j).filter (lsB ls))) ∧ Below w1.heap.size w1 wr)) (fun _ i _ => M - (intOf i).toNat)
  case atStart => exact ⟨0, by omega, rfl, Lib.hid ⟨World.ownsRow_nil _ _ _ _, Below.refl _ _⟩⟩
  case round =>
    obtain ⟨j, hj, rfl, hH⟩ := hrel
    obtain ⟨wo, rfl⟩ : ∃ wo : World, wo = wr := ⟨_, rfl⟩
    obtain ⟨vo, rfl⟩ : ∃ v : Value, v = u5 := ⟨_, rfl⟩
    by_cases hlt : j < M
    · have hjx : j < AL.length := by rw [← HM.out]; exact hlt
      obtain ⟨x, hx⟩ : ∃ x, AL[j]? = some x := ⟨_, List.getElem?_eq_getElem hjx⟩
      have HFT := Lib.hid (filter_takeP (lsB ls) AL j x hx)
      obtain ⟨D, hD⟩ : ∃ D, D = (AL.take j).filter (lsB ls) := ⟨_, rfl⟩
      have hlen : D.length ≤ 16 := by
        rw [hD]
        exact Nat.le_trans (List.length_filter_le _ _) (by rw [List.length_take]; omega)
      rw [← hD] at HFT
      have HOw := Lib.hid (show wo.ownsRow w1.heap.size 25 4 vo D.length (flat wrL D) by rw [hD]; exact hH.out.1)
      have BR := Lib.hid hH.out.2
      have HLEN := Lib.hid hlen
      obtain ⟨d, o, rfl, hbl, hcell⟩ := (HI3.out.keep BR.out).at wrL_len (by omega)
      obtain ⟨xl, xq, xk, xn⟩ := x
      have HC0 := Lib.hid (fun (i : Nat) v hv => hcell j _ hx i v hv)
      have HBL := Lib.hid hbl
      have k1 : (0 : Int) ≤ (j : Int) := by omega
      have k2 : (j : Int) < (M : Int) := by omega
      clear hjx hx hD hlen hH hbl hcell
      go_wp2_with fail
      go_loopw [5, 8] (fun v k wr => v = vo ∧ ∃ r : Nat, r ≤ K ∧ k = .int .i64 r ∧ Hid ((∀ i, i < r → ls[i]? ≠ some xl) ∧ Below wo.heap.size wo wr)) (fun _ k _ => K - (intOf k).toNat)
      case atStart => exact ⟨rfl, 0, by omega, rfl, Lib.hid ⟨fun i hi => by omega, Below.refl _ _⟩⟩
      case round =>
        obtain ⟨rfl, r, hr, rfl, hR⟩ := hrel
        by_cases hlr : r < K
        · have hrx : r < ls.length := by rw [← HK.out]; exact hlr
          have HBW := Lib.hid hR.out.2
          have HNO := Lib.hid hR.out.1
          have HBA := Lib.hid (HB1.out.trans ((BR.out.trans (HBW.out.mono BR.out.size)).mono HB1.out.size))
          obtain ⟨d2, o2, rfl, hbl2, hcell2⟩ := (HI2.out.keep HBA.out).at iL_len (by omega)
          obtain ⟨l, hl⟩ : ∃ x, ls[r]? = some x := ⟨_, List.getElem?_eq_getElem hrx⟩
          have c0 := hcell2 r _ hl 0 _ rfl
          rw [Nat.add_zero, Nat.mul_one] at c0
          have x0 := (HBW.out.cell (p := ⟨d, o + j * 4 + 0, none⟩) HBL.out).trans (HC0.out 0 _ rfl)
          have x1 := (HBW.out.cell (p := ⟨d, o + j * 4 + 1, none⟩) HBL.out).trans (HC0.out 1 _ rfl)
          have x2 := (HBW.out.cell (p := ⟨d, o + j * 4 + 2, none⟩) HBL.out).trans (HC0.out 2 _ rfl)
          have x3 := (HBW.out.cell (p := ⟨d, o + j * 4 + 3, none⟩) HBL.out).trans (HC0.out 3 _ rfl)
          rw [Nat.add_zero] at x0
          have k4 : (0 : Int) ≤ (r : Int) := by omega
          have k5 : (r : Int) < (K : Int) := by omega
          have k6 : K ≤ 9223372036854775807 := by have := HI2.out.2.1; have := HK.out; omega
          have HLL := Lib.hid hl
          clear hrx hcell2 hl hbl2 hR
          by_cases he : l = xl
          · subst he
            have HN := Lib.hid (show (AL.take (j + 1)).filter (lsB ls) = D ++ [⟨l, xq, xk, xn⟩] from HFT.out.trans (by
              rw [if_pos (show lsB ls ⟨l, xq, xk, xn⟩ = true from decide_eq_true (List.mem_of_getElem? HLL.out))]))
            go_wp2_with fail
            go_quiet (fail)
            obtain ⟨W, hW⟩ : ∃ W, W = wr.drewN nq := ⟨_, rfl⟩
            have hbw : Below wr.heap.size wr W := by rw [hW]; exact bdrewN (Below.refl _ _) _
            have hlo : d < wr.heap.size := Nat.lt_of_lt_of_le HBL.out HBW.out.size
            have hx0 := (hbw.cell (p := ⟨d, o + j * 4, none⟩) hlo).trans x0
            have hx1 := (hbw.cell (p := ⟨d, o + j * 4 + 1, none⟩) hlo).trans x1
            have hx2 := (hbw.cell (p := ⟨d, o + j * 4 + 2, none⟩) hlo).trans x2
            have hx3 := (hbw.cell (p := ⟨d, o + j * 4 + 3, none⟩) hlo).trans x3
            have HO2 := Lib.hid (own_keep (own_keep HOw.out HBW.out) hbw)
            have BR2 := Lib.hid (BR.out.trans ((HBW.out.trans (hbw.mono HBW.out.size)).mono BR.out.size))
            have HLl := Lib.hid HO2.out.lt
            have NW := Lib.hid (row_fresh W #[.int .i64 l, .int .i64 xq, .int .i64 xk, .int .i64 xn] 25)
            rw [← hW]
            clear hW hbw hlo x0 x1 x2 x3 c0
            have hlen := HLEN.out
            go_wp2_with (at_builtin; refine wpList_append_own _ rfl _ _ 26 rfl w1.heap.size 25 i0 (.agg #[.int .i64 0, .int .i64 0, .int .i64 0, .int .i64 0]) 4 32 Try.underlying26 hif hz0 hz1 hz2 rfl (by decide) _ _ _ rfl (HO2.out.alloc _) ⟨W.heap.size, 0, none⟩ 1 1 [.int .i64 l, .int .i64 xq, .int .i64 xk, .int .i64 xn] rfl rfl ?c1 ?c2 ?c3 ?c4 ?c5 ?_)
            case c2 => exact ⟨rfl, rfl, rfl, rfl⟩
            case c3 => unfold maxLen; omega
            case c4 => omega
            case c5 => have := BR2.out.size; simp; omega
            intro v' w5 hown' hgrow _
            have HO5 := Lib.hid (show w5.ownsRow w1.heap.size 25 4 v' ((AL.take (j + 1)).filter (lsB ls)).length (flat wrL ((AL.take (j + 1)).filter (lsB ls))) by
              rw [HN.out, flat_append, List.length_append]; exact hown')
            have B5 := Lib.hid ((BR2.out.alloc BR2.out.size (Obj.cells #[.int .i64 l, .int .i64 xq, .int .i64 xk, .int .i64 xn] 25)).grown hgrow (Nat.le_trans BR2.out.size (by simp)) (fun k hk => (HLl.out k hk).1))
            clear hown' hgrow
            go_wp2_with fail
            go_roundw
            case rel => exact ⟨j + 1, by omega, by go_num, Lib.hid ⟨HO5.out, B5.out⟩⟩
            case measure => simp [intOf]; omega
          · have t1 : (l == xl) = false := by rw [beq_eq_false_iff_ne]; exact he
            have HNO2 := Lib.hid (show ∀ i, i < r + 1 → ls[i]? ≠ some xl from fun i hi => by
              by_cases e : i = r
              · subst e; rw [HLL.out]; intro h; injection h with h; exact he h
              · exact HNO.out i (by omega))
            clear he
            go_wp2_with fail
            go_quiet (fail)
            go_wp2_with fail
            go_roundw
            case rel => exact ⟨rfl, r + 1, by omega, by go_num, Lib.hid ⟨HNO2.out, bdrewN HBW.out _⟩⟩
            case measure => simp [intOf]; omega
        · obtain rfl : r = K := by omega
          have HNL := Lib.hid (show (AL.take (j + 1)).filter (lsB ls) = D from HFT.out.trans (by
            rw [if_neg (fun h => by
              obtain ⟨i, hi, e⟩ := List.mem_iff_getElem.1 (of_decide_eq_true h)
              exact hR.out.1 i (by rw [HK.out]; exact hi) ((List.getElem?_eq_getElem hi).trans (congrArg some e)))]
            exact List.append_nil D))
          have HOW2 := Lib.hid (own_keep HOw.out hR.out.2)
          have HB5 := Lib.hid (BR.out.trans (hR.out.2.mono BR.out.size))
          clear hR
          go_wp2_with fail
          go_roundw
          case rel => exact ⟨j + 1, by omega, by go_num, Lib.hid ⟨by rw [HNL.out]; exact HOW2.out, HB5.out⟩⟩
          case measure => simp [intOf]; omega
    · obtain rfl : j = M := by omega
      have HE := Lib.hid (show AL.take j = AL from by rw [HM.out, List.take_length])
      have HO := Lib.hid (show wo.ownsRow w1.heap.size 25 4 vo (AL.filter (lsB ls)).length (flat wrL (AL.filter (lsB ls))) by
        have := hH.out.1
        rw [HE.out] at this
        exact this)
      have HBE := Lib.hid (HB1.out.trans (hH.out.2.mono HB1.out.size))
      clear hH
      go_wp2_with fail
      go_ret
      exact ⟨_, rfl, own_base HO.out HB1.out.size, HBE.out⟩
end Go.Proofs.Ytlmilalibgehpaa
