/- Contract of areDistinct: as many keys in the set as there are names. -/
import Derived.Test.YtojbhbifbennfaaP
import Derived.Maps.OwnOps
import Derived.Maps.OwnSet
import Derived.Maps.Views
import Derived.Maps.Keyed
import Derived.Maps.StringElems
namespace Go.Proofs.Ytojbhbifbennfaa
open Go.RowKit Go.Shelf Go.Maps Go.WideMaps

def keyAt (ss : List ByteArray) (k : Nat) : Lit := .string (ss.getD k ByteArray.empty).data.toList
def keysS (ss : List ByteArray) (k : Nat) : List Lit := (ss.take k).map fun s => .string s.data.toList
def Sn {H : Type} (ss : List ByteArray) (k : Nat) : DataW H := setOf (.lit (.bool true)) (keysS ss k)
theorem keysS_succ (ss : List ByteArray) (k : Nat) (hk : k < ss.length) : keysS ss (k + 1) = keysS ss k ++ [keyAt ss k] := by
  unfold keysS keyAt
  rw [List.take_add_one, List.map_append]
  simp [List.getD, List.getElem?_eq_getElem hk]
theorem Sn_succ {H : Type} (ss : List ByteArray) (k : Nat) (hk : k < ss.length) : Sn (H := H) ss (k + 1) = (Sn ss k).put (keyAt ss k) (.lit (.bool true)) := by
  unfold Sn
  rw [keysS_succ ss k hk, setOf_snoc]
theorem Sn_zero {H : Type} (ss : List ByteArray) : Sn (H := H) ss 0 = .map [] := by simp [Sn, keysS, setOf]
theorem lawS : Keyed Try.prog 9 := string_keyed Try.underlying9
theorem key_ok {ss : List ByteArray} (hsz : ∀ s ∈ ss, s.size ≤ maxLen) (k : Nat) : keyOf Try.prog 9 (.string (ss.getD k ByteArray.empty)) = some (keyAt ss k) := by
  refine keyOf_string_mk Try.underlying9 ?_
  by_cases hk : k < ss.length
  · rw [List.getD, List.getElem?_eq_getElem hk]
    exact hsz _ (List.getElem_mem hk)
  · rw [List.getD, List.getElem?_eq_none (by omega)]
    exact Nat.zero_le _
def distB (ss : List ByteArray) : Bool := decide (Maps.size (Sn (H := Unit) ss ss.length) = ss.length)

set_option maxHeartbeats 4000000 in
set_option maxRecDepth 100000 in
theorem distinct_any (a : Option Addr) (cap : Nat) (ss : List ByteArray) (w : World) (hmax : ss.length ≤ 100000) (hsz : ∀ s ∈ ss, s.size ≤ maxLen) (hin : InS w a ss.length 1 (flat stL ss)) : Calls Try.prog 45 #[.slice a ss.length cap] w fun e w' => e = .returned (.bool (distB ss)) ∧ Below w.heap.size w w' := by
  obtain ⟨N, hN⟩ : ∃ N, N = ss.length := ⟨_, rfl⟩
  have HN := Lib.hid hN
  have HI := Lib.hid hin
  have HSZ := Lib.hid hsz
  have hmx : N ≤ 100000 := by omega
  have HD := Lib.hid (show distB ss = decide (Maps.size (Sn (H := Unit) ss N) = N) by unfold distB; rw [hN])
  rw [← hN]
  clear hN hin hmax hsz
  have hmm := @run_makeMap Try.prog
  go_enter Try.func45, Try.ntmps45
  go_wp2_with fail
  go_loopw [5, 9] (fun _ i wr => ∃ k : Nat, k ≤ N ∧ i = .int .i64 k ∧ Hid (wr.ownsMap Try.prog 9 (plainElem Try.prog 4) w.heap.size k (Sn (H := Unit) ss k) ∧ Below w.heap.size w wr)) (fun _ i _ => N - (intOf i).toNat)
  case atStart => exact ⟨0, Nat.zero_le _, rfl, Lib.hid ⟨by rw [Sn_zero]; exact World.ownsMap_made _ _ _ _, (Below.refl _ _).alloc (Nat.le_refl _) _⟩⟩
  case round =>
    obtain ⟨k, hk, rfl, hH⟩ := hrel
    by_cases hlt : k < N
    · have hkx : k < ss.length := by rw [← HN.out]; exact hlt
      obtain ⟨b, o, rfl, hbl, hcell⟩ := (HI.out.keep hH.out.2).at stL_len (by omega)
      have hx : ss[k]? = some (ss.getD k ByteArray.empty) := by rw [List.getD, List.getElem?_eq_getElem hkx]; rfl
      have c0 := hcell k _ hx 0 _ rfl
      rw [Nat.add_zero, Nat.mul_one] at c0
      have hkey := key_ok HSZ.out k
      have HSU := Lib.hid (Sn_succ (H := Unit) ss k hkx)
      obtain ⟨s, hs⟩ : ∃ s, s = ss.getD k ByteArray.empty := ⟨_, rfl⟩
      rw [← hs] at c0 hkey
      have HKEY := Lib.hid hkey
      have HOW := Lib.hid hH.out.1
      have HBW := Lib.hid hH.out.2
      have k1 : (0 : Int) ≤ (k : Int) := by omega
      have k2 : (k : Int) < (N : Int) := by omega
      clear hkx hcell hbl hx hkey hs hH
      go_wp2_with (at_mapUpdate; refine wpList_mapUpdate_own _ rfl _ _ _ 116 rfl 9 4 lawS Try.underlying116 (plainElem (H := Unit) Try.prog 4) w.heap.size k _ rfl HOW.out (by unfold maxLen; omega) _ _ _ rfl rfl HKEY.out _ [] (plainElem_bool Try.underlying4 true) ?_; intro w1 hown1 hgrow1)
      have HO1 := Lib.hid (HSU.out.symm ▸ hown1)
      have HB1 := Lib.hid (HBW.out.grown hgrow1 HBW.out.size (fun j hj => by cases hj; exact Nat.le_refl _))
      clear hown1 hgrow1
      go_wp2_with fail
      go_roundw
      case rel => exact ⟨k + 1, by omega, by go_num, Lib.hid ⟨HO1.out, HB1.out⟩⟩
      case measure => (simp [intOf]) <;> omega
    · obtain rfl : k = N := by omega
      have HOW := Lib.hid hH.out.1
      have HBW := Lib.hid hH.out.2
      obtain ⟨M, hM⟩ : ∃ M, M = Maps.size (Sn (H := Unit) ss k) := ⟨_, rfl⟩
      have HM := Lib.hid hM
      have HDD := Lib.hid (show distB ss = decide (M = k) by rw [HD.out, hM])
      clear hH hM
      by_cases hmk : M = k
      · have HY := Lib.hid (show distB ss = true by rw [HDD.out]; exact decide_eq_true hmk)
        go_wp2_with (at_len; refine wpList_len_own _ rfl _ 116 rfl 9 4 Try.underlying116 _ w.heap.size k _ rfl HOW.out ?_)
        go_ret
        exact ⟨by rw [HY.out]; (first | done | rfl | (simp [← HM.out, hmk])), HBW.out⟩
      · have HY := Lib.hid (show distB ss = false by rw [HDD.out]; exact decide_eq_false hmk)
        go_wp2_with (at_len; refine wpList_len_own _ rfl _ 116 rfl 9 4 Try.underlying116 _ w.heap.size k _ rfl HOW.out ?_)
        go_ret
        exact ⟨by rw [HY.out]; (first | done | rfl | (simp [← HM.out]; omega)), HBW.out⟩
end Go.Proofs.Ytojbhbifbennfaa
