/- Contract of block.Find at a name of the library. -/
import Derived.Test.YtaobbedajgkmiaaDoorBe
namespace Go.Proofs.YtaobbedajgkmiaaDoor
open Go.RowKit Go.Shelf

def rowAt (k : Nat) : RowB := rowsB.getD k ⟨⟨#[]⟩, ⟨#[]⟩, ⟨#[]⟩, 0, 0⟩
theorem idx_row_0 : tableC.toArray.extract (0 * 5) (0 * 5 + 5) = rowC (rowAt 0) := by kernel_rfl
theorem idx_row_1 : tableC.toArray.extract (1 * 5) (1 * 5 + 5) = rowC (rowAt 1) := by kernel_rfl
theorem idx_row_2 : tableC.toArray.extract (2 * 5) (2 * 5 + 5) = rowC (rowAt 2) := by kernel_rfl
theorem idx_row_3 : tableC.toArray.extract (3 * 5) (3 * 5 + 5) = rowC (rowAt 3) := by kernel_rfl
theorem idx_row_4 : tableC.toArray.extract (4 * 5) (4 * 5 + 5) = rowC (rowAt 4) := by kernel_rfl
theorem idx_row_5 : tableC.toArray.extract (5 * 5) (5 * 5 + 5) = rowC (rowAt 5) := by kernel_rfl
theorem idx_row_6 : tableC.toArray.extract (6 * 5) (6 * 5 + 5) = rowC (rowAt 6) := by kernel_rfl
theorem idx_row_7 : tableC.toArray.extract (7 * 5) (7 * 5 + 5) = rowC (rowAt 7) := by kernel_rfl
theorem idx_row_8 : tableC.toArray.extract (8 * 5) (8 * 5 + 5) = rowC (rowAt 8) := by kernel_rfl
theorem idx_row_9 : tableC.toArray.extract (9 * 5) (9 * 5 + 5) = rowC (rowAt 9) := by kernel_rfl
theorem idx_row_10 : tableC.toArray.extract (10 * 5) (10 * 5 + 5) = rowC (rowAt 10) := by kernel_rfl
theorem idx_row_11 : tableC.toArray.extract (11 * 5) (11 * 5 + 5) = rowC (rowAt 11) := by kernel_rfl
theorem idx_row_12 : tableC.toArray.extract (12 * 5) (12 * 5 + 5) = rowC (rowAt 12) := by kernel_rfl
theorem idx_row_13 : tableC.toArray.extract (13 * 5) (13 * 5 + 5) = rowC (rowAt 13) := by kernel_rfl
theorem idx_row_14 : tableC.toArray.extract (14 * 5) (14 * 5 + 5) = rowC (rowAt 14) := by kernel_rfl
theorem idx_row_15 : tableC.toArray.extract (15 * 5) (15 * 5 + 5) = rowC (rowAt 15) := by kernel_rfl
theorem idx_row_16 : tableC.toArray.extract (16 * 5) (16 * 5 + 5) = rowC (rowAt 16) := by kernel_rfl
theorem idx_row_17 : tableC.toArray.extract (17 * 5) (17 * 5 + 5) = rowC (rowAt 17) := by kernel_rfl
theorem idx_row_18 : tableC.toArray.extract (18 * 5) (18 * 5 + 5) = rowC (rowAt 18) := by kernel_rfl
theorem idx_row_19 : tableC.toArray.extract (19 * 5) (19 * 5 + 5) = rowC (rowAt 19) := by kernel_rfl
theorem idx_row_20 : tableC.toArray.extract (20 * 5) (20 * 5 + 5) = rowC (rowAt 20) := by kernel_rfl
theorem idx_row_21 : tableC.toArray.extract (21 * 5) (21 * 5 + 5) = rowC (rowAt 21) := by kernel_rfl
theorem idx_row_22 : tableC.toArray.extract (22 * 5) (22 * 5 + 5) = rowC (rowAt 22) := by kernel_rfl
theorem idx_row_23 : tableC.toArray.extract (23 * 5) (23 * 5 + 5) = rowC (rowAt 23) := by kernel_rfl
theorem idx_row_24 : tableC.toArray.extract (24 * 5) (24 * 5 + 5) = rowC (rowAt 24) := by kernel_rfl
theorem idx_row_25 : tableC.toArray.extract (25 * 5) (25 * 5 + 5) = rowC (rowAt 25) := by kernel_rfl
theorem idx_row_26 : tableC.toArray.extract (26 * 5) (26 * 5 + 5) = rowC (rowAt 26) := by kernel_rfl
theorem idx_row_27 : tableC.toArray.extract (27 * 5) (27 * 5 + 5) = rowC (rowAt 27) := by kernel_rfl
theorem idx_row_28 : tableC.toArray.extract (28 * 5) (28 * 5 + 5) = rowC (rowAt 28) := by kernel_rfl
theorem idx_row_29 : tableC.toArray.extract (29 * 5) (29 * 5 + 5) = rowC (rowAt 29) := by kernel_rfl
theorem idx_row_30 : tableC.toArray.extract (30 * 5) (30 * 5 + 5) = rowC (rowAt 30) := by kernel_rfl
theorem idx_row_31 : tableC.toArray.extract (31 * 5) (31 * 5 + 5) = rowC (rowAt 31) := by kernel_rfl
theorem idx_row_32 : tableC.toArray.extract (32 * 5) (32 * 5 + 5) = rowC (rowAt 32) := by kernel_rfl
theorem idx_row (k : Nat) (h : k < 33) : tableC.toArray.extract (k * 5) (k * 5 + 5) = rowC (rowAt k) := by
  have hk : k = 0 ∨ k = 1 ∨ k = 2 ∨ k = 3 ∨ k = 4 ∨ k = 5 ∨ k = 6 ∨ k = 7 ∨ k = 8 ∨ k = 9 ∨ k = 10 ∨ k = 11 ∨ k = 12 ∨ k = 13 ∨ k = 14 ∨ k = 15 ∨ k = 16 ∨ k = 17 ∨ k = 18 ∨ k = 19 ∨ k = 20 ∨ k = 21 ∨ k = 22 ∨ k = 23 ∨ k = 24 ∨ k = 25 ∨ k = 26 ∨ k = 27 ∨ k = 28 ∨ k = 29 ∨ k = 30 ∨ k = 31 ∨ k = 32 := by omega
  rcases hk with rfl | rfl | rfl | rfl | rfl | rfl | rfl | rfl | rfl | rfl | rfl | rfl | rfl | rfl | rfl | rfl | rfl | rfl | rfl | rfl | rfl | rfl | rfl | rfl | rfl | rfl | rfl | rfl | rfl | rfl | rfl | rfl | rfl
  · exact idx_row_0
  · exact idx_row_1
  · exact idx_row_2
  · exact idx_row_3
  · exact idx_row_4
  · exact idx_row_5
  · exact idx_row_6
  · exact idx_row_7
  · exact idx_row_8
  · exact idx_row_9
  · exact idx_row_10
  · exact idx_row_11
  · exact idx_row_12
  · exact idx_row_13
  · exact idx_row_14
  · exact idx_row_15
  · exact idx_row_16
  · exact idx_row_17
  · exact idx_row_18
  · exact idx_row_19
  · exact idx_row_20
  · exact idx_row_21
  · exact idx_row_22
  · exact idx_row_23
  · exact idx_row_24
  · exact idx_row_25
  · exact idx_row_26
  · exact idx_row_27
  · exact idx_row_28
  · exact idx_row_29
  · exact idx_row_30
  · exact idx_row_31
  · exact idx_row_32
theorem idx_run (C Y : Array Value) (k : Nat) (h : k < 33) (hC : C.extract (k * 5) (k * 5 + 5) = Y) (w : World) : (Instr.index 70 (.agg C) (.int .i64 k)).run Tryd.prog w = .ok (.agg Y) w := by
  have u := Tryd.underlying70
  have a := Tryd.isAgg69
  have z := Tryd.sizeOf69
  have h2 : (k : Int) < 33 := by omega
  simp [Instr.index, asIntOf, run_underlying u, part, a, z, hC, h, go_sem]
theorem loop_eq (s : ByteArray) : ∀ (n i : Nat) (r : List UInt8), s.size - i = n → ByteArray.toList.loop s i r = r.reverse ++ s.data.toList.drop i
  | 0, i, r, h => by
    unfold ByteArray.toList.loop
    rw [if_neg (by omega), List.drop_of_length_le (by simpa using (by omega : s.size ≤ i)), List.append_nil]
  | n + 1, i, r, h => by
    unfold ByteArray.toList.loop
    have hi : i < s.data.toList.length := by simpa using (by omega : i < s.size)
    rw [if_pos (by omega), loop_eq s n (i + 1) _ (by omega), List.reverse_cons, List.append_assoc, List.drop_eq_getElem_cons hi]
    have e : s.get! i = s.data.toList[i] := by
      have hs : i < s.size := by omega
      simp [ByteArray.get!, getElem!_pos, hs]
    rw [e]; rfl
theorem toList_eq (s : ByteArray) : s.toList = s.data.toList := by
  unfold ByteArray.toList
  rw [loop_eq s _ 0 [] rfl]; rfl
theorem bytes_inj {a b : ByteArray} : a.data.toList = b.data.toList ↔ a = b := by
  obtain ⟨⟨l⟩⟩ := a
  obtain ⟨⟨m⟩⟩ := b
  exact ⟨fun e => congrArg (fun l => ByteArray.mk (Array.mk l)) e, fun e => by rw [e]⟩
set_option maxHeartbeats 4000000 in
set_option maxRecDepth 100000 in
theorem find_core (C : Array Value) (HT : Hid (∀ w, Calls Tryd.prog 27 #[] w fun e w' => e = .returned (.agg C) ∧ Below w.heap.size w w')) (HI : Hid (∀ k, k < 33 → C.extract (k * 5) (k * 5 + 5) = rowC (rowAt k)))
    (K : Nat) (hK : K < 33) (pl : List BndD) (il : List PortD) (s : ByteArray) (hs : (rowAt K).nm = s) (hn : ∀ j, j < K → ¬ (rowAt j).nm = s) (ho : RowOk (rowAt K) pl il) (w : World) (hm : MaxAt w) :
    Calls Tryd.prog 13 #[.string s] w fun e w' => ∃ D, e = .returned (.tuple #[D, .int .i64 0]) ∧ DescOk w.heap.size s (rowAt K).out (rowAt K).most (rowAt K).st pl il D w' ∧ Below w.heap.size w w' := by
  have HKN := Lib.hid hK
  have HS := Lib.hid hs
  have HNN := Lib.hid hn
  have HRO := Lib.hid ho
  have n33 : K < 33 := hK
  clear hs hn ho hK
  obtain ⟨W, q, hW, hq, RQ, B, sz⟩ := box1 w #[.string ⟨#[]⟩, .slice none 0 0, .slice none 0 0, .slice none 0 0, .int .i64 0, .int .i64 0] 30
  have HQ := Lib.hid RQ
  have HB := Lib.hid B
  have HM := Lib.hid (hm.keep B)
  have HWQ := Lib.hid (show w.heap.size ≤ q by omega)
  go_enter Tryd.func13, Tryd.ntmps13
  go_upto_region 1 with fail
  rw [← hW]
  try rw [← hq]
  clear hW hq RQ B sz hm
  go_wp2_with fail
  refine (HT.out _).mono ?_
  rintro e w1 ⟨rfl, hb⟩
  have HQ1 := Lib.hid (HQ.out.keep hb)
  have HB1 := Lib.hid (HB.out.trans (hb.mono HB.out.size))
  have HM1 := Lib.hid (HM.out.keep hb)
  clear hb HQ HB HM
  go_wp2_with fail
  go_loopw [7] (fun i wr => ∃ k : Nat, k ≤ K ∧ i = .int .i64 k ∧ Hid (RowAt wr q [.string ⟨#[]⟩, .slice none 0 0, .slice none 0 0, .slice none 0 0, .int .i64 0, .int .i64 0] ∧ Below w.heap.size w wr ∧ MaxAt wr)) (fun i _ => 33 - (intOf i).toNat)
  case atStart => exact ⟨0, Nat.zero_le _, rfl, Lib.hid ⟨HQ1.out, HB1.out, HM1.out⟩⟩
  case round =>
    obtain ⟨k, hk, rfl, HH⟩ := hrel
    have hkn : k < 33 := by omega
    have HQ := Lib.hid HH.out.1
    have HB := Lib.hid HH.out.2.1
    have HM := Lib.hid HH.out.2.2
    clear HH HQ1 HB1 HM1
    have nal := (Below.refl wr.heap.size wr).alloc (Nat.le_refl _)
    by_cases hlt : k < K
    · obtain ⟨r, hr⟩ : ∃ r, r = rowAt k := ⟨_, rfl⟩
      have hi := HI.out k (by have := HKN.out; omega)
      rw [← hr] at hi
      have HRK := Lib.hid hr
      obtain ⟨rn, ri, ro, rm, rs⟩ := r
      have hi := idx_run C #[.string rn, .string ri, .string ro, .int .i64 rm, .int .i64 rs] k (by have := HKN.out; omega) hi
      clear hr
      have hne : ¬ rn = s := by have h := HNN.out k hlt; rw [← HRK.out] at h; exact h
      have hs2 : (rn.toList == s.toList) = false := by
        rw [beq_eq_false_iff_ne, toList_eq, toList_eq]
        intro e
        exact hne (bytes_inj.1 e)
      have Q2 := Lib.hid (HQ.out.keep (nal (Obj.cells #[.string rn, .string ri, .string ro, .int .i64 rm, .int .i64 rs] 69)))
      have B2 := Lib.hid (HB.out.trans ((nal (Obj.cells #[.string rn, .string ri, .string ro, .int .i64 rm, .int .i64 rs] 69)).mono HB.out.size))
      have M2 := Lib.hid (HM.out.keep (nal (Obj.cells #[.string rn, .string ri, .string ro, .int .i64 rm, .int .i64 rs] 69)))
      clear hne nal
      go_wp2_with fail
      go_roundw
      case rel => exact ⟨k + 1, by omega, by go_num, Lib.hid ⟨Q2.out, B2.out, M2.out⟩⟩
      case measure => (simp [intOf]) <;> omega
    · obtain rfl : k = K := by omega
      obtain ⟨r, hr⟩ : ∃ r, r = rowAt k := ⟨_, rfl⟩
      have hi := HI.out k (by have := HKN.out; omega)
      rw [← hr] at hi
      have HRK := Lib.hid hr
      obtain ⟨rn, ri, ro, rm, rs⟩ := r
      have hi := idx_run C #[.string rn, .string ri, .string ro, .int .i64 rm, .int .i64 rs] k (by have := HKN.out; omega) hi
      clear hr
      have hss : rn = s := by have h := HS.out; rw [← HRK.out] at h; exact h
      subst hss
      have KR := Lib.hid (show RowOk ⟨rn, ri, ro, rm, rs⟩ pl il by rw [HRK.out]; exact HRO.out)
      obtain ⟨W3, g, hW3, hg, RG, B3, sz3⟩ := box1 wr #[.string rn, .string ri, .string ro, .int .i64 rm, .int .i64 rs] 69
      have HG3 := Lib.hid RG
      have Q3 := Lib.hid (HQ.out.keep B3)
      have HB3 := Lib.hid (HB.out.trans (B3.mono HB.out.size))
      have HM3 := Lib.hid (HM.out.keep B3)
      clear nal
      go_upto_region 5 with fail
      rw [← hW3]
      try rw [← hg]
      clear hW3 hg RG B3 sz3
      have g_0 := HG3.out.c 0 _ rfl
      have g_1 := HG3.out.c 1 _ rfl
      have g_2 := HG3.out.c 2 _ rfl
      have g_3 := HG3.out.c 3 _ rfl
      have g_4 := HG3.out.c 4 _ rfl
      go_wp2_with fail
      refine (KR.out _ HM3.out).mono ?_
      rintro e w5 ⟨D, rfl, ⟨v1, v2, ob, rfl, p1, p2, p3, p4⟩, hb⟩
      obtain ⟨a1, c1, rfl, _⟩ := ins_own p1
      obtain ⟨a2, c2, rfl, _⟩ := ins_own p2
      have Q5 := Lib.hid (Q3.out.keep hb)
      have HB5 := Lib.hid (HB3.out.trans (hb.mono HB3.out.size))
      have q1 := own_ne_old p1 q Q3.out.lt
      have q2 := own_ne_old p2 q Q3.out.lt
      have q3 := own_ne_old p3 q Q3.out.lt
      have O1 := Lib.hid (own_base p1 HB3.out.size)
      have O2 := Lib.hid (own_base p2 HB3.out.size)
      have O3 := Lib.hid (own_base p3 HB3.out.size)
      have P1 := Lib.hid q1
      have P2 := Lib.hid q2
      have P3 := Lib.hid q3
      have P4 := Lib.hid p4
      clear g_0 g_1 g_2 g_3 g_4 hb p1 p2 p3 p4 q1 q2 q3
      have q_0 := Q5.out.c 0 _ rfl
      have q_1 := Q5.out.c 1 _ rfl
      have q_2 := Q5.out.c 2 _ rfl
      have q_3 := Q5.out.c 3 _ rfl
      have q_4 := Q5.out.c 4 _ rfl
      have q_5 := Q5.out.c 5 _ rfl
      have q_z := Q5.out.fz
      go_wp2_with fail
      have hs := Q5.out.setRow [.string rn, .slice a1 pl.length c1, .slice a2 il.length c2, .slice (some ⟨ob, 0, none⟩) 1 1, .int .i64 rs, .int .i64 rm] rfl
      have hB := set_below HB5.out HWQ.out [.string rn, .slice a1 pl.length c1, .slice a2 il.length c2, .slice (some ⟨ob, 0, none⟩) 1 1, .int .i64 rs, .int .i64 rm]
      have y0 : ((((((w5.setCell ⟨q, 0, none⟩ (.string rn)).setCell ⟨q, 1, none⟩ (.slice a1 pl.length c1)).setCell ⟨q, 2, none⟩ (.slice a2 il.length c2)).setCell ⟨q, 3, none⟩ (.slice (some ⟨ob, 0, none⟩) 1 1)).setCell ⟨q, 4, none⟩ (.int .i64 rs)).setCell ⟨q, 5, none⟩ (.int .i64 rm)).cell? ⟨q, 0, none⟩ = some (.string rn) := hs.c 0 _ rfl
      have y1 : ((((((w5.setCell ⟨q, 0, none⟩ (.string rn)).setCell ⟨q, 1, none⟩ (.slice a1 pl.length c1)).setCell ⟨q, 2, none⟩ (.slice a2 il.length c2)).setCell ⟨q, 3, none⟩ (.slice (some ⟨ob, 0, none⟩) 1 1)).setCell ⟨q, 4, none⟩ (.int .i64 rs)).setCell ⟨q, 5, none⟩ (.int .i64 rm)).cell? ⟨q, 1, none⟩ = some (.slice a1 pl.length c1) := hs.c 1 _ rfl
      have y2 : ((((((w5.setCell ⟨q, 0, none⟩ (.string rn)).setCell ⟨q, 1, none⟩ (.slice a1 pl.length c1)).setCell ⟨q, 2, none⟩ (.slice a2 il.length c2)).setCell ⟨q, 3, none⟩ (.slice (some ⟨ob, 0, none⟩) 1 1)).setCell ⟨q, 4, none⟩ (.int .i64 rs)).setCell ⟨q, 5, none⟩ (.int .i64 rm)).cell? ⟨q, 2, none⟩ = some (.slice a2 il.length c2) := hs.c 2 _ rfl
      have y3 : ((((((w5.setCell ⟨q, 0, none⟩ (.string rn)).setCell ⟨q, 1, none⟩ (.slice a1 pl.length c1)).setCell ⟨q, 2, none⟩ (.slice a2 il.length c2)).setCell ⟨q, 3, none⟩ (.slice (some ⟨ob, 0, none⟩) 1 1)).setCell ⟨q, 4, none⟩ (.int .i64 rs)).setCell ⟨q, 5, none⟩ (.int .i64 rm)).cell? ⟨q, 3, none⟩ = some (.slice (some ⟨ob, 0, none⟩) 1 1) := hs.c 3 _ rfl
      have y4 : ((((((w5.setCell ⟨q, 0, none⟩ (.string rn)).setCell ⟨q, 1, none⟩ (.slice a1 pl.length c1)).setCell ⟨q, 2, none⟩ (.slice a2 il.length c2)).setCell ⟨q, 3, none⟩ (.slice (some ⟨ob, 0, none⟩) 1 1)).setCell ⟨q, 4, none⟩ (.int .i64 rs)).setCell ⟨q, 5, none⟩ (.int .i64 rm)).cell? ⟨q, 4, none⟩ = some (.int .i64 rs) := hs.c 4 _ rfl
      have y5 : ((((((w5.setCell ⟨q, 0, none⟩ (.string rn)).setCell ⟨q, 1, none⟩ (.slice a1 pl.length c1)).setCell ⟨q, 2, none⟩ (.slice a2 il.length c2)).setCell ⟨q, 3, none⟩ (.slice (some ⟨ob, 0, none⟩) 1 1)).setCell ⟨q, 4, none⟩ (.int .i64 rs)).setCell ⟨q, 5, none⟩ (.int .i64 rm)).cell? ⟨q, 5, none⟩ = some (.int .i64 rm) := hs.c 5 _ rfl
      (try simp only [Exit.inBlock, Exit.then])
      refine bodyPost_ret (by simp [results, Tryd.results13, go_sem, y0, y1, y2, y3, y4, y5]; try rfl) rfl ?_
      have e : ((((((w5.setCell ⟨q, 0, none⟩ (.string rn)).setCell ⟨q, 1, none⟩ (.slice a1 pl.length c1)).setCell ⟨q, 2, none⟩ (.slice a2 il.length c2)).setCell ⟨q, 3, none⟩ (.slice (some ⟨ob, 0, none⟩) 1 1)).setCell ⟨q, 4, none⟩ (.int .i64 rs)).setCell ⟨q, 5, none⟩ (.int .i64 rm)) = w5.setCells q 0 [.string rn, .slice a1 pl.length c1, .slice a2 il.length c2, .slice (some ⟨ob, 0, none⟩) 1 1, .int .i64 rs, .int .i64 rm] := rfl
      have f1 := O1.out.kept (grown_set w5 q [.string rn, .slice a1 pl.length c1, .slice a2 il.length c2, .slice (some ⟨ob, 0, none⟩) 1 1, .int .i64 rs, .int .i64 rm]) (.inr P1.out)
      have f2 := O2.out.kept (grown_set w5 q [.string rn, .slice a1 pl.length c1, .slice a2 il.length c2, .slice (some ⟨ob, 0, none⟩) 1 1, .int .i64 rs, .int .i64 rm]) (.inr P2.out)
      have f3 := O3.out.kept (grown_set w5 q [.string rn, .slice a1 pl.length c1, .slice a2 il.length c2, .slice (some ⟨ob, 0, none⟩) 1 1, .int .i64 rs, .int .i64 rm]) (.inr P3.out)
      rw [e, ← HRK.out]
      exact ⟨_, rfl, ⟨_, _, ob, rfl, f1, f2, f3, P4.out⟩, hB⟩
theorem find_any (K : Nat) (hK : K < 33) (pl : List BndD) (il : List PortD) (s : ByteArray) (hs : (rowAt K).nm = s) (hn : ∀ j, j < K → ¬ (rowAt j).nm = s) (ho : RowOk (rowAt K) pl il) (w : World) (hm : MaxAt w) :
    Calls Tryd.prog 13 #[.string s] w fun e w' => ∃ D, e = .returned (.tuple #[D, .int .i64 0]) ∧ DescOk w.heap.size s (rowAt K).out (rowAt K).most (rowAt K).st pl il D w' ∧ Below w.heap.size w w' :=
  find_core tableC.toArray (Lib.hid library_any) (Lib.hid idx_row) K hK pl il s hs hn ho w hm
/-- Find answers with a descriptor of these parameters and inputs -/
def FindOk (s ro : ByteArray) (rm rs : Int) (pl : List BndD) (il : List PortD) : Prop := ∀ w, MaxAt w → Calls Tryd.prog 13 #[.string s] w fun e w' => ∃ D, e = .returned (.tuple #[D, .int .i64 0]) ∧ DescOk w.heap.size s ro rm rs pl il D w' ∧ Below w.heap.size w w'
theorem find_count : FindOk ⟨#[99, 111, 117, 110, 116]⟩ ⟨#[97, 110, 97, 108, 111, 103]⟩ 1 2 [] [⟨⟨#[97]⟩, ⟨#[98, 105, 110, 97, 114, 121]⟩⟩, ⟨⟨#[114, 101, 115, 101, 116]⟩, ⟨#[98, 105, 110, 97, 114, 121]⟩⟩] := fun w hm => find_any 6 (by decide) _ _ _ (by kernel_rfl) (by decide +kernel) row_count w hm
theorem find_edge : FindOk ⟨#[101, 100, 103, 101]⟩ ⟨#[98, 105, 110, 97, 114, 121]⟩ 1 1 [] [⟨⟨#[97]⟩, ⟨#[98, 105, 110, 97, 114, 121]⟩⟩] := fun w hm => find_any 9 (by decide) _ _ _ (by kernel_rfl) (by decide +kernel) row_edge w hm
theorem find_hyst : FindOk ⟨#[104, 121, 115, 116]⟩ ⟨#[98, 105, 110, 97, 114, 121]⟩ 1 1 [⟨⟨#[111, 110]⟩, (-1000000000000), 1000000000000, 1000⟩, ⟨⟨#[111, 102, 102]⟩, (-1000000000000), 1000000000000, 0⟩] [⟨⟨#[97]⟩, ⟨#[85]⟩⟩] := fun w hm => find_any 11 (by decide) _ _ _ (by kernel_rfl) (by decide +kernel) row_hyst w hm
theorem find_latch : FindOk ⟨#[108, 97, 116, 99, 104]⟩ ⟨#[98, 105, 110, 97, 114, 121]⟩ 1 1 [] [⟨⟨#[115, 101, 116]⟩, ⟨#[98, 105, 110, 97, 114, 121]⟩⟩, ⟨⟨#[114, 101, 115, 101, 116]⟩, ⟨#[98, 105, 110, 97, 114, 121]⟩⟩] := fun w hm => find_any 12 (by decide) _ _ _ (by kernel_rfl) (by decide +kernel) row_latch w hm
theorem find_minrun : FindOk ⟨#[109, 105, 110, 114, 117, 110]⟩ ⟨#[98, 105, 110, 97, 114, 121]⟩ 1 2 [⟨⟨#[111, 110]⟩, 0, 86400, 0⟩, ⟨⟨#[111, 102, 102]⟩, 0, 86400, 0⟩] [⟨⟨#[97]⟩, ⟨#[98, 105, 110, 97, 114, 121]⟩⟩] := fun w hm => find_any 18 (by decide) _ _ _ (by kernel_rfl) (by decide +kernel) row_minrun w hm
theorem find_offdelay : FindOk ⟨#[111, 102, 102, 100, 101, 108, 97, 121]⟩ ⟨#[98, 105, 110, 97, 114, 121]⟩ 1 1 [⟨⟨#[116, 105, 109, 101]⟩, 0, 86400, 0⟩] [⟨⟨#[97]⟩, ⟨#[98, 105, 110, 97, 114, 121]⟩⟩] := fun w hm => find_any 22 (by decide) _ _ _ (by kernel_rfl) (by decide +kernel) row_offdelay w hm
theorem find_ondelay : FindOk ⟨#[111, 110, 100, 101, 108, 97, 121]⟩ ⟨#[98, 105, 110, 97, 114, 121]⟩ 1 1 [⟨⟨#[116, 105, 109, 101]⟩, 0, 86400, 0⟩] [⟨⟨#[97]⟩, ⟨#[98, 105, 110, 97, 114, 121]⟩⟩] := fun w hm => find_any 23 (by decide) _ _ _ (by kernel_rfl) (by decide +kernel) row_ondelay w hm
theorem find_pulse : FindOk ⟨#[112, 117, 108, 115, 101]⟩ ⟨#[98, 105, 110, 97, 114, 121]⟩ 1 2 [⟨⟨#[116, 105, 109, 101]⟩, 0, 86400, 0⟩] [⟨⟨#[97]⟩, ⟨#[98, 105, 110, 97, 114, 121]⟩⟩] := fun w hm => find_any 27 (by decide) _ _ _ (by kernel_rfl) (by decide +kernel) row_pulse w hm
theorem find_limit : FindOk ⟨#[108, 105, 109, 105, 116]⟩ ⟨#[85]⟩ 1 0 [⟨⟨#[108, 111, 119]⟩, (-1000000000000), 1000000000000, (-1000000000000)⟩, ⟨⟨#[104, 105, 103, 104]⟩, (-1000000000000), 1000000000000, 1000000000000⟩] [⟨⟨#[97]⟩, ⟨#[85]⟩⟩] := fun w hm => find_any 13 (by decide) _ _ _ (by kernel_rfl) (by decide +kernel) row_limit w hm
end Go.Proofs.YtaobbedajgkmiaaDoor
