/- Contract of ask. -/
import Derived.Test.YtojbhbifbennfaaN
import Derived.Laws.AppendOwn
namespace Go.Proofs.Ytojbhbifbennfaa
open Go.RowKit Go.Shelf

def iL (l : Int) : List Value := [.int .i64 l]
theorem iL_len (l : Int) : (iL l).length = 1 := rfl
def askR (l : Int) : RqD := if l = 0 then ⟨17, 2, 0⟩ else ⟨l, 2, 1⟩
theorem infoRq : (Try.prog.info? 113).map (fun i => (i.zero, i.size, i.bytes)) = some (some (.agg #[.int .i64 0, .int .i64 0, .int .i64 0]), 3, 24) := by kernel_rfl

set_option maxHeartbeats 4000000 in
set_option maxRecDepth 100000 in
theorem ask_any (a : Option Addr) (cap : Nat) (ls : List Int) (w : World) (hmax : ls.length ≤ 100000) (hin : InS w a ls.length 1 (flat iL ls)) : Calls Try.prog 33 #[.slice a ls.length cap] w fun e w' => ∃ v, e = .returned v ∧ w'.ownsRow w.heap.size 113 3 v ls.length (flat rqL (ls.map askR)) ∧ Below w.heap.size w w' := by
  obtain ⟨i0, hif, hz0, hz1, hz2⟩ := info_parts infoRq
  obtain ⟨N, hN⟩ : ∃ N, N = ls.length := ⟨_, rfl⟩
  have HN := Lib.hid hN
  have HI := Lib.hid hin
  have HE := Lib.hid (own_empty w 113 3)
  have HBE := Lib.hid ((Below.refl w.heap.size w).alloc (Nat.le_refl _) (Obj.cells #[] 113))
  have hmx : N ≤ 100000 := by omega
  rw [← hN]
  clear hN hin hmax
  go_enter Try.func33, Try.ntmps33
  go_wp2_with fail
  go_loopw [3, 4] (fun v i wr => ∃ j : Nat, j ≤ N ∧ i = .int .i64 j ∧ Hid (wr.ownsRow w.heap.size 113 3 v j (flat rqL ((ls.take j).map askR)) ∧ Below w.heap.size w wr)) (fun _ i _ => N - (intOf i).toNat)
  case atStart => exact ⟨0, by omega, rfl, Lib.hid ⟨HE.out, HBE.out⟩⟩
  case round =>
    obtain ⟨j, hj, rfl, hH⟩ := hrel
    by_cases hlt : j < N
    · have hjx : j < ls.length := by rw [← HN.out]; exact hlt
      obtain ⟨b, o, rfl, hbl, hcell⟩ := (HI.out.keep hH.out.2).at iL_len (by omega)
      obtain ⟨l, hl⟩ : ∃ x, ls[j]? = some x := ⟨_, List.getElem?_eq_getElem hjx⟩
      have c0 := hcell j _ hl 0 _ rfl
      rw [Nat.add_zero, Nat.mul_one] at c0
      obtain ⟨D, hD⟩ : ∃ D, D = (ls.take j).map askR := ⟨_, rfl⟩
      have HOw := Lib.hid (show wr.ownsRow w.heap.size 113 3 u3 j (flat rqL D) by rw [hD]; exact hH.out.1)
      have BR := Lib.hid hH.out.2
      have HLl := Lib.hid hH.out.1.lt
      have HM0 := Lib.hid (show (ls.take (j + 1)).map askR = D ++ [askR l] by rw [hD, List.take_add_one, hl, List.map_append]; rfl)
      have k1 : (0 : Int) ≤ (j : Int) := by omega
      have k2 : (j : Int) < (N : Int) := by omega
      clear hcell hl hjx hbl hH hD
      by_cases h0 : l = 0
      · have HM := Lib.hid (show (ls.take (j + 1)).map askR = D ++ [⟨17, 2, 0⟩] by rw [HM0.out]; unfold askR; rw [if_pos h0])
        subst h0
        have NW := Lib.hid (row_fresh wr #[.int .i64 17, .int .i64 2, .int .i64 0] 113)
        go_wp2_with (at_builtin; refine wpList_append_own _ rfl _ _ 34 rfl w.heap.size 113 i0 (.agg #[.int .i64 0, .int .i64 0, .int .i64 0]) 3 24 Try.underlying34 hif hz0 hz1 hz2 rfl (by decide) _ _ _ rfl (HOw.out.alloc _) ⟨wr.heap.size, 0, none⟩ 1 1 [.int .i64 17, .int .i64 2, .int .i64 0] rfl rfl ?c1 ?c2 ?c3 ?c4 ?c5 ?_)
        case c2 => exact ⟨rfl, rfl, rfl⟩
        case c3 => unfold maxLen; omega
        case c4 => omega
        case c5 => have := BR.out.size; simp; omega
        intro v' w5 hown' hgrow _
        have HO5 := Lib.hid (show w5.ownsRow w.heap.size 113 3 v' (j + 1) (flat rqL ((ls.take (j + 1)).map askR)) by
          rw [HM.out, flat_append]; exact hown')
        have B5 := Lib.hid ((BR.out.alloc BR.out.size (Obj.cells #[.int .i64 17, .int .i64 2, .int .i64 0] 113)).grown hgrow (Nat.le_trans BR.out.size (by simp)) (fun k hk => (HLl.out k hk).1))
        clear hown' hgrow
        go_wp2_with fail
        go_roundw
        case rel => exact ⟨j + 1, by omega, by go_num, Lib.hid ⟨HO5.out, B5.out⟩⟩
        case measure => (simp [intOf]) <;> omega
      · have HM := Lib.hid (show (ls.take (j + 1)).map askR = D ++ [⟨l, 2, 1⟩] by rw [HM0.out]; unfold askR; rw [if_neg h0])
        have t1 : (l == 0) = false := by rw [beq_eq_false_iff_ne]; exact h0
        clear h0
        have NW := Lib.hid (row_fresh wr #[.int .i64 l, .int .i64 2, .int .i64 1] 113)
        go_wp2_with (at_builtin; refine wpList_append_own _ rfl _ _ 34 rfl w.heap.size 113 i0 (.agg #[.int .i64 0, .int .i64 0, .int .i64 0]) 3 24 Try.underlying34 hif hz0 hz1 hz2 rfl (by decide) _ _ _ rfl (HOw.out.alloc _) ⟨wr.heap.size, 0, none⟩ 1 1 [.int .i64 l, .int .i64 2, .int .i64 1] rfl rfl ?d1 ?d2 ?d3 ?d4 ?d5 ?_)
        case d2 => exact ⟨rfl, rfl, rfl⟩
        case d3 => unfold maxLen; omega
        case d4 => omega
        case d5 => have := BR.out.size; simp; omega
        intro v' w5 hown' hgrow _
        have HO5 := Lib.hid (show w5.ownsRow w.heap.size 113 3 v' (j + 1) (flat rqL ((ls.take (j + 1)).map askR)) by
          rw [HM.out, flat_append]; exact hown')
        have B5 := Lib.hid ((BR.out.alloc BR.out.size (Obj.cells #[.int .i64 l, .int .i64 2, .int .i64 1] 113)).grown hgrow (Nat.le_trans BR.out.size (by simp)) (fun k hk => (HLl.out k hk).1))
        clear hown' hgrow
        go_wp2_with fail
        go_roundw
        case rel => exact ⟨j + 1, by omega, by go_num, Lib.hid ⟨HO5.out, B5.out⟩⟩
        case measure => (simp [intOf]) <;> omega
    · obtain rfl : j = N := by omega
      have HO := Lib.hid (show wr.ownsRow w.heap.size 113 3 u3 j (flat rqL (ls.map askR)) by
        have h := hH.out.1
        rw [HN.out, List.take_length] at h
        rw [HN.out]
        exact h)
      have BR := Lib.hid hH.out.2
      clear hH
      go_wp2_with fail
      go_ret
      exact ⟨_, rfl, HO.out, BR.out⟩
end Go.Proofs.Ytojbhbifbennfaa
