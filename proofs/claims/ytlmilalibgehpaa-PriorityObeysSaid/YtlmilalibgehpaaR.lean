/- The contract of Keep. -/
import Derived.Test.YtlmilalibgehpaaI
import Derived.Test.YtlmilalibgehpaaKl
namespace Go.Proofs.Ytlmilalibgehpaa
open Go.RowKit

/-- two blocks newly made alike, both stored whole -/
theorem two_slots (w : World) (A B : Array Value) (ty : TypeId) (L M : List Value) (hA : A.toList = L) (hB : B.toList = M) (hl : L.length = M.length) (W2 W3 W4 : World) (h2 : W2 = (w.alloc (Obj.cells B ty)).alloc (Obj.cells B ty)) (h3 : W3 = W2.setCells w.heap.size 0 A.toList) (h4 : W4 = W3.setCells (w.heap.size + 1) 0 B.toList) :
    W2.there w.heap.size 0 A.size ∧ W3.there (w.heap.size + 1) 0 B.size ∧ RowAt W4 w.heap.size L ∧ RowAt W4 (w.heap.size + 1) M ∧ Below w.heap.size w W4 := by
  have f1 := row_fresh w B ty
  have f2 := row_fresh (w.alloc (Obj.cells B ty)) B ty
  have e : (w.alloc (Obj.cells B ty)).heap.size = w.heap.size + 1 := by simp
  have b1 := (Below.refl w.heap.size w).alloc (Nat.le_refl _) (Obj.cells B ty)
  have b2 := b1.alloc b1.size (Obj.cells B ty)
  have k1 := f1.keep ((Below.refl (w.alloc (Obj.cells B ty)).heap.size (w.alloc (Obj.cells B ty))).alloc (Nat.le_refl _) (Obj.cells B ty))
  have sA : A.size = B.toList.length := by rw [← Array.length_toList, hA, hB, hl]
  have sB : B.size = B.toList.length := by rw [Array.length_toList]
  rw [e, ← h2] at f2
  rw [← h2] at b2 k1
  have t1 : W2.there w.heap.size 0 A.size := by rw [sA]; exact row_there k1
  have n1 := k1.setRow A.toList (by rw [hA, hB, hl])
  have n2 := f2.other (show w.heap.size ≠ w.heap.size + 1 by omega) A.toList
  have b3 := set_below b2 (Nat.le_refl _) A.toList
  rw [← h3] at n1 n2 b3
  have t2 : W3.there (w.heap.size + 1) 0 B.size := by rw [sB]; exact row_there n2
  have m1 := n1.other (show w.heap.size + 1 ≠ w.heap.size by omega) B.toList
  have m2 := n2.setRow B.toList rfl
  have b4 := set_below b3 (Nat.le_succ _) B.toList
  rw [← h4] at m1 m2 b4
  rw [hA] at m1
  rw [hB] at m2
  exact ⟨t1, t2, m1, m2, b4⟩



set_option maxHeartbeats 8000000 in
set_option maxRecDepth 100000 in
theorem keep_any (a b : Option Addr) (cap cb : Nat) (xs : List WrD) (ls : List Int) (w : World) (hmax : xs.length ≤ 200) (hin : InS w a xs.length 4 (flat wrL xs)) (hin2 : InS w b ls.length 1 (flat iL ls)) : Calls Try.prog 19 #[.slice a xs.length cap, .slice b ls.length cb] w fun e w' => ∃ v, e = .returned v ∧ w'.ownsRow w.heap.size 25 4 v (writesL (keepF (bestS xs) ls)).length (flat wrL (writesL (keepF (bestS xs) ls))) ∧ Below w.heap.size w w' := by
  have HS := Lib.hid (slotsOf_any a cap xs w hmax hin)
  have HI := Lib.hid hin2
  obtain ⟨N, hN⟩ : ∃ N, N = xs.length := ⟨_, rfl⟩
  obtain ⟨K, hK⟩ : ∃ N, N = ls.length := ⟨_, rfl⟩
  rw [← hN] at HS ⊢
  have HK := Lib.hid hK
  rw [← hK]
  clear hmax hin hin2 hN hK
  go_enter Try.func19, Try.ntmps19
  go_wp2_with fail
  refine HS.out.mono ?_
  rintro e w1 ⟨rfl, hb⟩
  have HB := Lib.hid hb
  clear hb HS
  rw [best_slots]
  obtain ⟨S, hS⟩ : ∃ S, S = bestS xs := ⟨_, rfl⟩
  rw [← hS]
  have HSS := Lib.hid hS
  clear hS
  obtain ⟨W2, h2⟩ : ∃ x, x = (w1.alloc (Obj.cells #[.int .i64 0, .int .i64 0, .int .i64 0, .int .i64 0, .int .i64 0, .int .i64 0, .int .i64 0, .int .i64 0, .int .i64 0, .int .i64 0, .int .i64 0, .int .i64 0, .int .i64 0, .int .i64 0, .int .i64 0, .int .i64 0, .int .i64 0, .int .i64 0, .int .i64 0, .int .i64 0, .int .i64 0, .int .i64 0, .int .i64 0, .int .i64 0, .int .i64 0, .int .i64 0, .int .i64 0, .int .i64 0, .int .i64 0, .int .i64 0, .int .i64 0, .int .i64 0, .int .i64 0, .int .i64 0, .int .i64 0, .int .i64 0, .int .i64 0, .int .i64 0, .int .i64 0, .int .i64 0, .int .i64 0, .int .i64 0, .int .i64 0, .int .i64 0, .int .i64 0, .int .i64 0, .int .i64 0, .int .i64 0, .int .i64 0, .int .i64 0, .int .i64 0, .int .i64 0, .int .i64 0, .int .i64 0, .int .i64 0, .int .i64 0, .int .i64 0, .int .i64 0, .int .i64 0, .int .i64 0, .int .i64 0, .int .i64 0, .int .i64 0, .int .i64 0] 55)).alloc (Obj.cells #[.int .i64 0, .int .i64 0, .int .i64 0, .int .i64 0, .int .i64 0, .int .i64 0, .int .i64 0, .int .i64 0, .int .i64 0, .int .i64 0, .int .i64 0, .int .i64 0, .int .i64 0, .int .i64 0, .int .i64 0, .int .i64 0, .int .i64 0, .int .i64 0, .int .i64 0, .int .i64 0, .int .i64 0, .int .i64 0, .int .i64 0, .int .i64 0, .int .i64 0, .int .i64 0, .int .i64 0, .int .i64 0, .int .i64 0, .int .i64 0, .int .i64 0, .int .i64 0, .int .i64 0, .int .i64 0, .int .i64 0, .int .i64 0, .int .i64 0, .int .i64 0, .int .i64 0, .int .i64 0, .int .i64 0, .int .i64 0, .int .i64 0, .int .i64 0, .int .i64 0, .int .i64 0, .int .i64 0, .int .i64 0, .int .i64 0, .int .i64 0, .int .i64 0, .int .i64 0, .int .i64 0, .int .i64 0, .int .i64 0, .int .i64 0, .int .i64 0, .int .i64 0, .int .i64 0, .int .i64 0, .int .i64 0, .int .i64 0, .int .i64 0, .int .i64 0] 55) := ⟨_, rfl⟩
  obtain ⟨W3, h3⟩ : ∃ x, x = W2.setCells w1.heap.size 0 (slotC S).toArray.toList := ⟨_, rfl⟩
  obtain ⟨W4, h4⟩ : ∃ x, x = W3.setCells (w1.heap.size + 1) 0 (#[.int .i64 0, .int .i64 0, .int .i64 0, .int .i64 0, .int .i64 0, .int .i64 0, .int .i64 0, .int .i64 0, .int .i64 0, .int .i64 0, .int .i64 0, .int .i64 0, .int .i64 0, .int .i64 0, .int .i64 0, .int .i64 0, .int .i64 0, .int .i64 0, .int .i64 0, .int .i64 0, .int .i64 0, .int .i64 0, .int .i64 0, .int .i64 0, .int .i64 0, .int .i64 0, .int .i64 0, .int .i64 0, .int .i64 0, .int .i64 0, .int .i64 0, .int .i64 0, .int .i64 0, .int .i64 0, .int .i64 0, .int .i64 0, .int .i64 0, .int .i64 0, .int .i64 0, .int .i64 0, .int .i64 0, .int .i64 0, .int .i64 0, .int .i64 0, .int .i64 0, .int .i64 0, .int .i64 0, .int .i64 0, .int .i64 0, .int .i64 0, .int .i64 0, .int .i64 0, .int .i64 0, .int .i64 0, .int .i64 0, .int .i64 0, .int .i64 0, .int .i64 0, .int .i64 0, .int .i64 0, .int .i64 0, .int .i64 0, .int .i64 0, .int .i64 0] : Array Value).toList := ⟨_, rfl⟩
  obtain ⟨t1, t2, r1, r2, hb4⟩ := two_slots w1 (slotC S).toArray zC 55 (slotC S) (slotC (fun _ => zW)) List.toList_toArray zC_list (by rw [slotC_len, slotC_len]) W2 W3 W4 h2 h3 h4
  have HT1 := Lib.hid t1
  have HT2 := Lib.hid t2
  have HA4 := Lib.hid r1
  have HK4 := Lib.hid r2
  have HB4 := Lib.hid (HB.out.trans (hb4.mono HB.out.size))
  have HBS := Lib.hid HB.out.size
  clear t1 t2 r1 r2 hb4
  rw [h2] at HT1
  rw [h3, h2] at HT2
  go_wp2_with (first | (with_reducible refine wpList_store_mid rfl 55 _ _ rfl w1.heap.size 0 (slotC S).toArray rfl rfl HT1.out (info_slotsA S) (slotC_oneA S) ?_) | (with_reducible refine wpList_store_mid rfl 55 _ _ rfl (w1.heap.size + 1) 0 #[.int .i64 0, .int .i64 0, .int .i64 0, .int .i64 0, .int .i64 0, .int .i64 0, .int .i64 0, .int .i64 0, .int .i64 0, .int .i64 0, .int .i64 0, .int .i64 0, .int .i64 0, .int .i64 0, .int .i64 0, .int .i64 0, .int .i64 0, .int .i64 0, .int .i64 0, .int .i64 0, .int .i64 0, .int .i64 0, .int .i64 0, .int .i64 0, .int .i64 0, .int .i64 0, .int .i64 0, .int .i64 0, .int .i64 0, .int .i64 0, .int .i64 0, .int .i64 0, .int .i64 0, .int .i64 0, .int .i64 0, .int .i64 0, .int .i64 0, .int .i64 0, .int .i64 0, .int .i64 0, .int .i64 0, .int .i64 0, .int .i64 0, .int .i64 0, .int .i64 0, .int .i64 0, .int .i64 0, .int .i64 0, .int .i64 0, .int .i64 0, .int .i64 0, .int .i64 0, .int .i64 0, .int .i64 0, .int .i64 0, .int .i64 0, .int .i64 0, .int .i64 0, .int .i64 0, .int .i64 0, .int .i64 0, .int .i64 0, .int .i64 0, .int .i64 0] rfl rfl HT2.out info_zC zC_one ?_))
  rw [← h2, ← h3, ← h4]
  clear h2 h3 h4
  obtain ⟨p, hp⟩ : ∃ x, x = w1.heap.size := ⟨_, rfl⟩
  obtain ⟨q, hq⟩ : ∃ x, x = p + 1 := ⟨_, rfl⟩
  rw [← hp] at HA4 HK4 HBS ⊢
  rw [← hq] at HK4 ⊢
  have hpq : p ≠ q := by omega
  have HWP := Lib.hid HBS.out
  have HWQ := Lib.hid (show w.heap.size ≤ q by have := HBS.out; omega)
  clear hp hq HT1 HT2 HB HBS
  have HK0 := Lib.hid (show RowAt W4 q (slotC (keepF S (ls.take 0))) by rw [List.take_zero, keepF_nil]; exact HK4.out)
  clear HK4
  go_loopw [8, 14] (fun _ i wr => ∃ j : Nat, j ≤ K ∧ i = .int .i64 j ∧ Hid (RowAt wr p (slotC S) ∧ RowAt wr q (slotC (keepF S (ls.take j))) ∧ Below w.heap.size w wr)) (fun _ i _ => K - (intOf i).toNat)
  case atStart => exact ⟨0, by omega, rfl, Lib.hid ⟨HA4.out, HK0.out, HB4.out⟩⟩
  case round =>
    obtain ⟨j, hj, rfl, hH⟩ := hrel
    by_cases hlt : j < K
    · have hjx : j < ls.length := by rw [← HK.out]; exact hlt
      obtain ⟨d, o, rfl, hbl, hcell⟩ := (HI.out.keep hH.out.2.2).at iL_len (by omega)
      obtain ⟨l, hl⟩ : ∃ x, ls[j]? = some x := ⟨_, List.getElem?_eq_getElem hjx⟩
      have HT := Lib.hid (keepF_take S ls j l hl)
      obtain ⟨T, hT⟩ : ∃ T, T = keepF S (ls.take j) := ⟨_, rfl⟩
      have HR := Lib.hid hH.out.1
      have HQ := Lib.hid hH.out.2.1
      have HBR := Lib.hid hH.out.2.2
      rw [← hT] at HT HQ
      have c0 := hcell j _ hl 0 _ rfl
      rw [Nat.add_zero, Nat.mul_one] at c0
      have k1 : (0 : Int) ≤ (j : Int) := by omega
      have k2 : (j : Int) < (K : Int) := by omega
      have k3 : K ≤ 9223372036854775807 := by have := HI.out.2.1; have := HK.out; omega
      obtain ⟨F, hF⟩ : ∃ F, F = lvB l := ⟨_, rfl⟩
      have hlv := fun w => level_any l w
      rw [← hF] at hlv
      have HLV := Lib.hid hlv
      have HFF := Lib.hid hF
      clear hcell hjx hl hT hH hbl hF hlv
      go_wp2_with fail
      refine (HLV.out _).mono ?_
      rintro e w2 ⟨rfl, hb⟩
      have HR2 := Lib.hid (HR.out.keep hb)
      have HQ2 := Lib.hid (HQ.out.keep hb)
      have HB2 := Lib.hid (HBR.out.trans (hb.mono HBR.out.size))
      clear hb HR HQ HBR c0 HLV
      cases F
      · have HN := Lib.hid (show keepF S (ls.take (j + 1)) = T from HT.out.trans (by unfold keepStep; rw [← HFF.out]; rfl))
        go_wp2_with fail
        go_roundw
        case rel => exact ⟨j + 1, by omega, by go_num, Lib.hid ⟨HR2.out, by rw [HN.out]; exact HQ2.out, HB2.out⟩⟩
        case measure => simp [intOf]; omega
      · have hl2 : 1 ≤ l ∧ l ≤ 16 := by
          have h := HFF.out.symm
          unfold lvB at h
          simpa using h
        obtain ⟨s, hs⟩ : ∃ s : Nat, (l - 1).toNat = s := ⟨_, rfl⟩
        have hs16 : s < 16 := by omega
        have hsl : (s : Int) = l - 1 := by omega
        obtain ⟨⟨yl, yq, yk, yn⟩, hy⟩ : ∃ y, S s = y := ⟨_, rfl⟩
        obtain ⟨⟨zl, zq, zk, zn⟩, hz⟩ : ∃ y, T s = y := ⟨_, rfl⟩
        have HN := Lib.hid (show keepF S (ls.take (j + 1)) = setS T s ⟨yl, yq, yk, yn⟩ from HT.out.trans (by unfold keepStep; rw [← HFF.out, if_pos rfl, hs, hy]))
        have hat := fun i v hv => HR2.out.c (s * 4 + i) v ((slotC_at S s i hs16 (by
          have := (List.getElem?_eq_some_iff.1 hv).1; exact this)).trans hv)
        have haz := fun i v hv => HQ2.out.c (s * 4 + i) v ((slotC_at T s i hs16 (by
          have := (List.getElem?_eq_some_iff.1 hv).1; exact this)).trans hv)
        rw [hy] at hat
        rw [hz] at haz
        have y0 := hat 0 _ rfl
        have y1 := hat 1 _ rfl
        have y2 := hat 2 _ rfl
        have y3 := hat 3 _ rfl
        have z0 := haz 0 _ rfl
        have z1 := haz 1 _ rfl
        have z2 := haz 2 _ rfl
        have z3 := haz 3 _ rfl
        rw [Nat.add_zero] at y0 z0
        have zz := HQ2.out.fz
        have w1' : IntKind.i64.wrap (l - 1) = (s : Int) := by rw [IntWalk.i64_in _ ⟨by omega, by omega⟩]; omega
        have k4 : (0 : Int) ≤ (s : Int) := by omega
        have k5 : (s : Int) < 16 := by omega
        have HS16 := Lib.hid hs16
        have HST := Lib.hid (slot_set HQ2.out s hs16 ⟨yl, yq, yk, yn⟩)
        have HRN := Lib.hid (show RowAt (w2.setCells q (s * 4) (wrL ⟨yl, yq, yk, yn⟩)) p (slotC S) from ⟨fun i v hv => (cell_setCells_other (fun e => hpq e.symm) (wrL ⟨yl, yq, yk, yn⟩) (s * 4) w2 i).trans (HR2.out.c i v hv), fun o => by rw [World.frozen?_setCells]; exact HR2.out.fz o, by rw [sz_setCells]; exact HR2.out.lt⟩)
        have HBN := Lib.hid (HB2.out.trans (Lib.below_setCells_w HWQ.out (wrL ⟨yl, yq, yk, yn⟩) (s * 4) _))
        clear hl2 hs hs16 hsl hy hz hat haz
        go_wp2_with fail
        go_roundw
        case rel => exact ⟨j + 1, by omega, by go_num, Lib.hid ⟨HRN.out, by rw [HN.out]; exact HST.out, HBN.out⟩⟩
        case measure => simp [intOf]; omega
    · obtain rfl : j = K := by omega
      have HE := Lib.hid (show ls.take j = ls from by rw [HK.out, List.take_length])
      have HQ := Lib.hid (show RowAt wr q (slotC (keepF S ls)) from by have h := hH.out.2.1; rw [HE.out] at h; exact h)
      have HBR := Lib.hid hH.out.2.2
      obtain ⟨T, hT⟩ : ∃ T, T = keepF S ls := ⟨_, rfl⟩
      rw [← hT] at HQ
      have HRG := Lib.hid (row_range HQ.out)
      have HTT := Lib.hid hT
      clear hT hH HQ
      go_wp2_with ((with_reducible refine wpList_load_mid rfl 55 _ rfl q 0 rfl (slotC T) _ HRG.out Try.underlying55 rfl (info_slots T) ?_))
      refine (writes_any T wr).mono ?_
      rintro e w4 ⟨v, rfl, ho, hb⟩
      have HO := Lib.hid (own_base ho HBR.out.size)
      have HB4 := Lib.hid (HBR.out.trans (hb.mono HBR.out.size))
      clear ho hb
      go_wp2_with fail
      go_ret
      exact ⟨_, rfl, by rw [← HSS.out, ← HTT.out]; exact HO.out, HB4.out⟩
end Go.Proofs.Ytlmilalibgehpaa
