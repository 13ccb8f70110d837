/- Contracts of the specification's Active and Of. -/
import Derived.Test.YtlmilalibgehpaaM
import Derived.Test.YtlmilalibgehpaaJ
namespace Go.Proofs.Ytlmilalibgehpaa
open Go.RowKit

set_option maxHeartbeats 4000000 in
set_option maxRecDepth 100000 in
theorem ractive_any (a : Option Addr) (cap : Nat) (xs : List WrD) (c m : Int) (w : World) (hmax : xs.length ≤ 200) (hin : InS w a xs.length 4 (flat wrL xs)) : Calls Try.prog 22 #[.slice a xs.length cap, .agg #[.int .i64 c, .int .i64 m]] w fun e w' => e = .returned (undV (bestS xs) 0 c m) ∧ Below w.heap.size w w' := by
  obtain ⟨x, y, z, hu⟩ := undV_is (bestS xs) 0 c m
  have hun := fun w1 hb => runder_any a cap xs 0 (by omega) c m w1 hmax (hin.keep (w' := w1) hb)
  rw [hu] at hun ⊢
  have HU := Lib.hid (show ∀ w1, Below w.heap.size w w1 → Calls Try.prog 26 #[.slice a xs.length cap, .int .i64 0, .agg #[.int .i64 c, .int .i64 m]] w1 fun e w' => e = .returned (.tuple #[.int .i64 x, .agg #[.int .i64 y, .int .i64 z]]) ∧ Below w1.heap.size w1 w' from hun)
  obtain ⟨N, hN⟩ : ∃ N, N = xs.length := ⟨_, rfl⟩
  rw [← hN] at HU ⊢
  obtain ⟨W, h, r, hW, hh, hr, RO, RR, B, sz⟩ := box2 w #[.int .i64 c, .int .i64 m] 23 #[.int .i64 0, .int .i64 0] 23
  have HR0 := Lib.hid RR
  have HO0 := Lib.hid RO
  have HB0 := Lib.hid B
  have HWR := Lib.hid (show w.heap.size ≤ r by omega)
  clear hu hun hmax hin hN RO RR B sz
  go_enter Try.func22, Try.ntmps22
  go_wp2_with fail
  rw [← hW]
  try rw [← hr]
  try rw [← hh]
  clear hW hr hh
  have o_0 := HO0.out.c 0 _ rfl
  have o_1 := HO0.out.c 1 _ rfl
  go_wp2_with fail
  refine (HU.out _ HB0.out).mono ?_
  rintro e w1 ⟨rfl, hb⟩
  have HR1 := Lib.hid (HR0.out.keep hb)
  have HB1 := Lib.hid (HB0.out.trans (hb.mono HB0.out.size))
  clear hb HR0 HB0 HU o_0 o_1
  have r_0 := HR1.out.c 0 _ rfl
  have r_1 := HR1.out.c 1 _ rfl
  have r_z := HR1.out.fz
  go_wp2_with fail
  have hs := (HR1.out).setRow [.int .i64 y, .int .i64 z] rfl
  have y0 : ((w1.setCell ⟨r, 0, none⟩ (.int .i64 y)).setCell ⟨r, 1, none⟩ (.int .i64 z)).cell? ⟨r, 0, none⟩ = some (.int .i64 y) := hs.c 0 _ rfl
  have y1 : ((w1.setCell ⟨r, 0, none⟩ (.int .i64 y)).setCell ⟨r, 1, none⟩ (.int .i64 z)).cell? ⟨r, 1, none⟩ = some (.int .i64 z) := hs.c 1 _ rfl
  (try simp only [Exit.inBlock, Exit.then])
  refine bodyPost_ret (by simp [results, Try.results22, go_sem, y0, y1]; try rfl) rfl ?_
  exact ⟨rfl, set_below HB1.out HWR.out [.int .i64 y, .int .i64 z]⟩

set_option maxHeartbeats 4000000 in
set_option maxRecDepth 100000 in
theorem rof_any (a : Option Addr) (cap : Nat) (xs : List WrD) (w : World) (hmax : xs.length ≤ 200) (hin : InS w a xs.length 4 (flat wrL xs)) : Calls Try.prog 16 #[.slice a xs.length cap] w fun e w' => ∃ v, e = .returned v ∧ w'.ownsRow w.heap.size 25 4 v (writesL (bestS xs)).length (flat wrL (writesL (bestS xs))) ∧ Below w.heap.size w w' := by
  obtain ⟨i0, hif, hz0, hz1, hz2⟩ := info_parts infoWr
  have HAT := Lib.hid (fun lev p hl w1 hb => at_any a cap xs lev p hl w1 hmax (hin.keep (w' := w1) hb))
  obtain ⟨N, hN⟩ : ∃ N, N = xs.length := ⟨_, rfl⟩
  rw [← hN] at HAT ⊢
  obtain ⟨S, hS⟩ : ∃ S, S = bestS xs := ⟨_, rfl⟩
  rw [← hS] at HAT ⊢
  clear hmax hin hN hS
  go_enter Try.func16, Try.ntmps16
  go_wp2_with fail
  go_loopw [3, 4] (fun v i wr => ∃ j : Nat, j ≤ 16 ∧ i = .int .i64 ((j : Int) + 1) ∧ Hid (wr.ownsRow w.heap.size 25 4 v (((slotL S).take j).filter (fun x => decide (x.q ≠ 0))).length (flat wrL (((slotL S).take j).filter (fun x => decide (x.q ≠ 0)))) ∧ Below w.heap.size w wr)) (fun _ i _ => 17 - (intOf i).toNat)
  case atStart => exact ⟨0, by omega, rfl, Lib.hid ⟨World.ownsRow_nil _ _ _ _, Below.refl _ _⟩⟩
  case round =>
    obtain ⟨j, hj, rfl, hH⟩ := hrel
    by_cases hlt : j < 16
    · obtain ⟨J, hJ⟩ : ∃ J, J = (j : Int) + 1 := ⟨_, rfl⟩
      have hft := filter_take _ j _ (slotL_at S j hlt)
      have hat := fun w1 hb => HAT.out J j hJ w1 hb
      obtain ⟨⟨yl, yq, yk, yn⟩, hy⟩ : ∃ y, S j = y := ⟨_, rfl⟩
      rw [hy] at hft hat
      obtain ⟨D, hD⟩ : ∃ D, D = ((slotL S).take j).filter (fun x => decide (x.q ≠ 0)) := ⟨_, rfl⟩
      have hlen : D.length ≤ 16 := by
        rw [hD]
        exact Nat.le_trans (List.length_filter_le _ _) (by rw [List.length_take]; omega)
      rw [← hD] at hft
      have HOw := Lib.hid (show wr.ownsRow w.heap.size 25 4 u3 D.length (flat wrL D) by rw [hD]; exact hH.out.1)
      have BR := Lib.hid hH.out.2
      have HF := Lib.hid hft
      have HA1 := Lib.hid hat
      have HJJ := Lib.hid hJ
      have HLEN := Lib.hid hlen
      have k1 : J ≤ 16 := by omega
      have w1 : IntKind.i64.wrap (J + 1) = J + 1 := IntWalk.i64_in _ ⟨by omega, by omega⟩
      rw [← hJ]
      clear hft hat hy hD hH hJ hlen
      go_wp2_with fail
      refine (HA1.out _ BR.out).mono ?_
      rintro e w2 ⟨rfl, hb⟩
      have hk := hb.alloc hb.size (Obj.cells #[.int .i64 yl, .int .i64 yq, .int .i64 yk, .int .i64 yn] 25)
      have HO2 := Lib.hid (own_keep HOw.out hk)
      have BR2 := Lib.hid (BR.out.trans (hk.mono BR.out.size))
      have HY2 := Lib.hid (row_fresh w2 #[.int .i64 yl, .int .i64 yq, .int .i64 yk, .int .i64 yn] 25)
      have HLl := Lib.hid HO2.out.lt
      have HSZ := Lib.hid (Nat.le_trans BR.out.size hb.size)
      clear hb hk HA1 HOw BR
      by_cases hq : yq = 0
      · have HN := Lib.hid (show ((slotL S).take (j + 1)).filter (fun x => decide (x.q ≠ 0)) = D from HF.out.trans (by rw [if_pos hq]; exact List.append_nil D))
        have hfb : foundB ⟨yl, yq, yk, yn⟩ = false := by unfold foundB; simp [hq]
        rw [hfb]
        clear hfb hq
        go_wp2_with fail
        have hjj := HJJ.out
        go_roundw
        case rel => exact ⟨j + 1, by omega, by subst hjj; go_num, Lib.hid ⟨by rw [HN.out]; exact HO2.out, BR2.out⟩⟩
        case measure => simp [intOf]; omega
      · have HN := Lib.hid (show ((slotL S).take (j + 1)).filter (fun x => decide (x.q ≠ 0)) = D ++ [⟨yl, yq, yk, yn⟩] from HF.out.trans (by rw [if_neg hq]))
        have hfb : foundB ⟨yl, yq, yk, yn⟩ = true := by unfold foundB; simp [hq]
        rw [hfb]
        clear hfb hq
        have y_0 := HY2.out.c 0 _ rfl
        have y_1 := HY2.out.c 1 _ rfl
        have y_2 := HY2.out.c 2 _ rfl
        have y_3 := HY2.out.c 3 _ rfl
        have hlen := HLEN.out
        have NW := Lib.hid (show RowAt ((w2.alloc (Obj.cells #[.int .i64 yl, .int .i64 yq, .int .i64 yk, .int .i64 yn] 25)).alloc (Obj.cells #[.int .i64 yl, .int .i64 yq, .int .i64 yk, .int .i64 yn] 25)) (w2.heap.size + 1) [.int .i64 yl, .int .i64 yq, .int .i64 yk, .int .i64 yn] by
          have := row_fresh (w2.alloc (Obj.cells #[.int .i64 yl, .int .i64 yq, .int .i64 yk, .int .i64 yn] 25)) #[.int .i64 yl, .int .i64 yq, .int .i64 yk, .int .i64 yn] 25
          rwa [World.size_alloc] at this)
        go_wp2_with (at_builtin; refine wpList_append_own _ rfl _ _ 26 rfl w.heap.size 25 i0 (.agg #[.int .i64 0, .int .i64 0, .int .i64 0, .int .i64 0]) 4 32 Try.underlying26 hif hz0 hz1 hz2 rfl (by decide) _ _ _ rfl (HO2.out.alloc _) ⟨w2.heap.size + 1, 0, none⟩ 1 1 [.int .i64 yl, .int .i64 yq, .int .i64 yk, .int .i64 yn] rfl rfl ?c1 ?c2 ?c3 ?c4 ?c5 ?_)
        case c1 => exact fun j u hu => by rw [add_plain, Nat.zero_add]; exact NW.out.c j u hu
        case c2 => exact fun u hu => wrL_one ⟨yl, yq, yk, yn⟩ u hu
        case c3 => unfold maxLen; omega
        case c4 => omega
        case c5 => have := HSZ.out; simp; omega
        intro v' w5 hown' hgrow _
        have HO5 := Lib.hid (show w5.ownsRow w.heap.size 25 4 v' (((slotL S).take (j + 1)).filter (fun x => decide (x.q ≠ 0))).length (flat wrL (((slotL S).take (j + 1)).filter (fun x => decide (x.q ≠ 0)))) by
          rw [HN.out, flat_append, List.length_append]; exact hown')
        have B5 := Lib.hid ((BR2.out.alloc BR2.out.size (Obj.cells #[.int .i64 yl, .int .i64 yq, .int .i64 yk, .int .i64 yn] 25)).grown hgrow (Nat.le_trans HSZ.out (by simp; omega)) (fun k hk => (HLl.out k hk).1))
        clear hown' hgrow
        go_wp2_with fail
        have hjj := HJJ.out
        go_roundw
        case rel => exact ⟨j + 1, by omega, by subst hjj; go_num, Lib.hid ⟨HO5.out, B5.out⟩⟩
        case measure => simp [intOf]; omega
    · obtain rfl : j = 16 := by omega
      have HE := Lib.hid (show (slotL S).take 16 = slotL S from List.take_of_length_le (by rw [slotL_len]; exact Nat.le_refl _))
      have HO := Lib.hid (show wr.ownsRow w.heap.size 25 4 u3 (writesL S).length (flat wrL (writesL S)) by
        have := hH.out.1
        rw [HE.out] at this
        exact this)
      go_wp2_with fail
      go_ret
      exact ⟨_, rfl, HO.out, hH.out.2⟩
end Go.Proofs.Ytlmilalibgehpaa
