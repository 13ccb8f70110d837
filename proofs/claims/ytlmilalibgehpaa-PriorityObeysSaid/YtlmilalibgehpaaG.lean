/- The contract of writes. -/
import Derived.Test.YtlmilalibgehpaaF
namespace Go.Proofs.Ytlmilalibgehpaa
open Go.RowKit

def writesL (S : Nat → WrD) : List WrD := (slotL S).filter (fun x => decide (x.q ≠ 0))
theorem filter_take (L : List WrD) (k : Nat) (x : WrD) (h : L[k]? = some x) : (L.take (k + 1)).filter (fun x => decide (x.q ≠ 0)) = (L.take k).filter (fun x => decide (x.q ≠ 0)) ++ (if x.q = 0 then [] else [x]) := by
  rw [List.take_add_one, h, List.filter_append]
  by_cases hq : x.q = 0 <;> simp [hq]
theorem slot_extract (S : Nat → WrD) (k : Nat) (hk : k < 16) : (slotC S).toArray.extract (k * 4) (k * 4 + 4) = (wrL (S k)).toArray := by
  apply Array.ext_getElem?
  intro i
  by_cases hi : i < 4
  · have h := slotC_at S k i hk hi
    have hs := slotC_len S
    rw [Array.getElem?_extract]
    rw [if_pos (by rw [List.size_toArray, hs]; omega), List.getElem?_toArray, List.getElem?_toArray]
    exact h
  · rw [Array.getElem?_eq_none (by simp; omega), Array.getElem?_eq_none (by simp [wrL]; omega)]
theorem idx_run (C Y : Array Value) (k : Nat) (h : k < 16) (hC : C.extract (k * 4) (k * 4 + 4) = Y) (w : World) : (Instr.index 55 (.agg C) (.int .i64 k)).run Try.prog w = .ok (.agg Y) w := by
  have u := Try.underlying55
  have a := Try.isAgg25
  have z := Try.sizeOf25
  have h2 : (k : Int) < 16 := by omega
  simp [Instr.index, asIntOf, run_underlying u, part, a, z, hC, h, go_sem]
theorem infoWr : (Try.prog.info? 25).map (fun i => (i.zero, i.size, i.bytes)) = some (some (.agg #[.int .i64 0, .int .i64 0, .int .i64 0, .int .i64 0]), 4, 32) := by kernel_rfl

set_option maxHeartbeats 4000000 in
set_option maxRecDepth 100000 in
theorem writes_any (S : Nat → WrD) (w : World) : Calls Try.prog 34 #[.agg (slotC S).toArray] w fun e w' => ∃ v, e = .returned v ∧ w'.ownsRow w.heap.size 25 4 v (writesL S).length (flat wrL (writesL S)) ∧ Below w.heap.size w w' := by
  obtain ⟨i0, hif, hz0, hz1, hz2⟩ := info_parts infoWr
  obtain ⟨C, hC⟩ : ∃ C, C = (slotC S).toArray := ⟨_, rfl⟩
  have HX := Lib.hid (show ∀ k, k < 16 → C.extract (k * 4) (k * 4 + 4) = (wrL (S k)).toArray by rw [hC]; exact slot_extract S)
  obtain ⟨W, g, hW, hg, RR, B, sz⟩ := box1 w C 55
  have HRG := Lib.hid (row_range (show RowAt (w.alloc (Obj.cells C 55)) w.heap.size (slotC S) by rw [← hW, ← hg]; rw [hC] at RR; exact RR))
  have HB0 := Lib.hid (show Below w.heap.size w (w.alloc (Obj.cells C 55)) by rw [← hW]; exact B)
  have HC := Lib.hid hC
  rw [← hC]
  clear hC hW hg RR B sz
  go_enter Try.func34, Try.ntmps34
  go_wp2_with ((with_reducible refine wpList_load_mid rfl 55 _ rfl w.heap.size 0 rfl (slotC S) _ HRG.out Try.underlying55 rfl (info_slots S) ?_))
  rw [← HC.out]
  obtain ⟨W, hW⟩ : ∃ x, x = w.alloc (Obj.cells C 55) := ⟨_, rfl⟩
  rw [← hW] at HRG HB0 ⊢
  clear hW
  go_loopw [3, 7] (fun v i wr => ∃ j : Nat, j ≤ 16 ∧ i = .int .i64 j ∧ Hid (wr.ownsRow w.heap.size 25 4 v (((slotL S).take j).filter (fun x => decide (x.q ≠ 0))).length (flat wrL (((slotL S).take j).filter (fun x => decide (x.q ≠ 0)))) ∧ Below w.heap.size w wr)) (fun _ i _ => 16 - (intOf i).toNat)
  case atStart => exact ⟨0, by omega, rfl, Lib.hid ⟨World.ownsRow_nil _ _ _ _, HB0.out⟩⟩
  case round =>
    obtain ⟨j, hj, rfl, hH⟩ := hrel
    by_cases hlt : j < 16
    · have hat := slotL_at S j hlt
      have hft := filter_take _ j _ hat
      have hex := HX.out j hlt
      obtain ⟨⟨xl, xq, xk, xn⟩, hx⟩ : ∃ x, S j = x := ⟨_, rfl⟩
      rw [hx] at hft hex
      have hidx := idx_run C #[.int .i64 xl, .int .i64 xq, .int .i64 xk, .int .i64 xn] j hlt hex
      obtain ⟨D, hD⟩ : ∃ D, D = ((slotL S).take j).filter (fun x => decide (x.q ≠ 0)) := ⟨_, rfl⟩
      have hlen : D.length ≤ 16 := by
        rw [hD]
        exact Nat.le_trans (List.length_filter_le _ _) (by rw [List.length_take]; omega)
      rw [← hD] at hft
      have HOw := Lib.hid (show wr.ownsRow w.heap.size 25 4 u3 D.length (flat wrL D) by rw [hD]; exact hH.out.1)
      have BR := Lib.hid hH.out.2
      have HF := Lib.hid hft
      have HLl := Lib.hid HOw.out.lt
      have fr := row_fresh wr #[.int .i64 xl, .int .i64 xq, .int .i64 xk, .int .i64 xn] 25
      have m0 := fr.c 0 _ rfl
      have m1 := fr.c 1 _ rfl
      have m2 := fr.c 2 _ rfl
      have m3 := fr.c 3 _ rfl
      have k1 : (0 : Int) ≤ (j : Int) := by omega
      have k2 : (j : Int) < 16 := by omega
      clear hat hft hex hx hD hH fr
      by_cases hq : xq = 0
      · subst hq
        have HN := Lib.hid (show ((slotL S).take (j + 1)).filter (fun x => decide (x.q ≠ 0)) = D from HF.out.trans (List.append_nil D))
        have B2 := Lib.hid (BR.out.alloc BR.out.size (Obj.cells #[.int .i64 xl, .int .i64 0, .int .i64 xk, .int .i64 xn] 25))
        go_wp2_with fail
        go_roundw
        case rel => exact ⟨j + 1, by omega, by go_num, Lib.hid ⟨by rw [HN.out]; exact HOw.out.alloc _, B2.out⟩⟩
        case measure => simp [intOf]; omega
      · have HN := Lib.hid (show ((slotL S).take (j + 1)).filter (fun x => decide (x.q ≠ 0)) = D ++ [⟨xl, xq, xk, xn⟩] from HF.out.trans (by rw [if_neg hq]))
        have t1 : (xq != 0) = true := by simpa using hq
        clear hq
        go_wp2_with (at_builtin; refine wpList_append_own _ rfl _ _ 26 rfl w.heap.size 25 i0 (.agg #[.int .i64 0, .int .i64 0, .int .i64 0, .int .i64 0]) 4 32 Try.underlying26 hif hz0 hz1 hz2 rfl (by decide) _ _ _ rfl ((HOw.out.alloc _).alloc _) ⟨wr.heap.size + 1, 0, none⟩ 1 1 [.int .i64 xl, .int .i64 xq, .int .i64 xk, .int .i64 xn] rfl rfl ?c1 ?c2 ?c3 ?c4 ?c5 ?_)
        case c2 => exact ⟨rfl, rfl, rfl, rfl⟩
        case c3 => unfold maxLen; omega
        case c4 => omega
        case c5 => have := BR.out.size; simp; omega
        intro v' w5 hown' hgrow _
        have HO5 := Lib.hid (show w5.ownsRow w.heap.size 25 4 v' (((slotL S).take (j + 1)).filter (fun x => decide (x.q ≠ 0))).length (flat wrL (((slotL S).take (j + 1)).filter (fun x => decide (x.q ≠ 0)))) by
          rw [HN.out, flat_append, List.length_append]; exact hown')
        have B2 := (BR.out.alloc BR.out.size (Obj.cells #[.int .i64 xl, .int .i64 xq, .int .i64 xk, .int .i64 xn] 25))
        have B5 := Lib.hid ((B2.alloc B2.size (Obj.cells #[.int .i64 xl, .int .i64 xq, .int .i64 xk, .int .i64 xn] 25)).grown hgrow (Nat.le_trans BR.out.size (by simp; omega)) (fun k hk => (HLl.out k hk).1))
        clear hown' hgrow B2
        go_wp2_with fail
        go_roundw
        case rel => exact ⟨j + 1, by omega, by go_num, Lib.hid ⟨HO5.out, B5.out⟩⟩
        case measure => simp [intOf]; omega
    · obtain rfl : j = 16 := by omega
      have HE := Lib.hid (show (slotL S).take 16 = slotL S from List.take_of_length_le (by rw [slotL_len]; exact Nat.le_refl _))
      have HO := Lib.hid (show wr.ownsRow w.heap.size 25 4 u3 (writesL S).length (flat wrL (writesL S)) by
        have := hH.out.1
        rw [HE.out] at this
        exact this)
      go_wp2_with fail
      go_ret
      exact ⟨_, rfl, HO.out, hH.out.2⟩
end Go.Proofs.Ytlmilalibgehpaa
