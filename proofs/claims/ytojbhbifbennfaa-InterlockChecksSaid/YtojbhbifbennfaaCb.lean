/- Contracts of areIncreasing, members; Find of both sides. -/
import Derived.Test.YtojbhbifbennfaaCa
namespace Go.Proofs.Ytojbhbifbennfaa
open Go.RowKit Go.Shelf

def indexS (s : ByteArray) (ns : List ByteArray) : Int := firstS (fun x => decide (x = s)) ns 0
theorem beqS (x s : ByteArray) : (x.toList == s.toList) = decide (x = s) := by
  by_cases h : x = s
  · subst h; rw [decide_eq_true rfl]; exact beq_self_eq_true _
  · rw [decide_eq_false h, beq_eq_false_iff_ne]
    intro h2
    apply h
    rw [toList_eq, toList_eq] at h2
    obtain ⟨⟨a⟩⟩ := x
    obtain ⟨⟨b⟩⟩ := s
    have : a = b := h2
    rw [this]

set_option maxHeartbeats 4000000 in
set_option maxRecDepth 100000 in
theorem index_any (s : ByteArray) (a : Option Addr) (cap : Nat) (ns : List ByteArray) (w : World) (hin : InS w a ns.length 1 (flat stL ns)) : Calls Try.prog 35 #[.slice a ns.length cap, .string s] w fun e w' => e = .returned (.int .i64 (indexS s ns)) ∧ Below w.heap.size w w' := by
  obtain ⟨N, hN⟩ : ∃ N, N = ns.length := ⟨_, rfl⟩
  have HN := Lib.hid hN
  have HI := Lib.hid hin
  have hmx : N ≤ 9223372036854775807 := by have := hin.2.1; omega
  rw [← hN]
  clear hN hin
  go_enter Try.func35, Try.ntmps35
  go_wp2_with fail
  go_loopw [8] (fun i wr => ∃ j : Nat, j ≤ N ∧ i = .int .i64 j ∧ Hid (indexS s ns = firstS (fun x => decide (x = s)) (ns.drop j) j ∧ Below w.heap.size w wr)) (fun i _ => N - (intOf i).toNat)
  case atStart => exact ⟨0, by omega, rfl, Lib.hid ⟨rfl, Below.refl _ _⟩⟩
  case round =>
    obtain ⟨j, hj, rfl, hH⟩ := hrel
    have HQ := Lib.hid hH.out.1
    have HBR := Lib.hid hH.out.2
    clear hH
    by_cases hlt : j < N
    · obtain ⟨b, o, rfl, hbl, hcell⟩ := (HI.out.keep HBR.out).at stL_len (by have := HN.out; omega)
      obtain ⟨x, hx⟩ : ∃ x, ns[j]? = some x := ⟨_, List.getElem?_eq_getElem (by rw [← HN.out]; exact hlt)⟩
      have c0 := hcell j _ hx 0 _ rfl
      rw [Nat.add_zero, Nat.mul_one] at c0
      have k1 : (0 : Int) ≤ (j : Int) := by omega
      have k2 : (j : Int) < (N : Int) := by omega
      have HX := Lib.hid hx
      clear hcell hbl hx
      by_cases hs : x = s
      · have HM := Lib.hid (show indexS s ns = j from HQ.out.trans (firstS_hit HX.out (decide_eq_true hs)))
        have t1 : (s.toList == x.toList) = true := by rw [hs]; exact beq_self_eq_true _
        clear hs
        go_wp2_with fail
        go_ret
        exact ⟨by rw [HM.out]; (first | done | rfl), HBR.out⟩
      · have HM := Lib.hid (HQ.out.trans (firstS_miss HX.out (decide_eq_false hs)))
        have t1 : (s.toList == x.toList) = false := by rw [beqS]; exact decide_eq_false (fun h => hs h.symm)
        clear hs
        go_wp2_with fail
        go_roundw
        case rel => exact ⟨j + 1, by omega, by go_num, Lib.hid ⟨HM.out, HBR.out⟩⟩
        case measure => (simp [intOf]) <;> omega
    · obtain rfl : j = N := by omega
      have HM := Lib.hid (show indexS s ns = -1 from HQ.out.trans (by rw [HN.out]; exact firstS_end _ ns))
      go_wp2_with fail
      go_ret
      exact ⟨by rw [HM.out]; (first | done | rfl), HBR.out⟩
def findG (s : ByteArray) : List GrD → Nat → Int × Int × Int
  | [], _ => (0, 0, 9)
  | x :: r, i => if 0 ≤ indexS s x.ns then (i, indexS s x.ns, 0) else findG s r (i + 1)
def findV (s : ByteArray) (gs : List GrD) : Value := .tuple #[.int .i64 (findG s gs 0).1, .int .i64 (findG s gs 0).2.1, .int .i64 (findG s gs 0).2.2]
theorem findG_hit {s : ByteArray} {gs : List GrD} {j : Nat} {x : GrD} (hx : gs[j]? = some x) (h : 0 ≤ indexS s x.ns) : findG s (gs.drop j) j = ((j : Int), indexS s x.ns, 0) := by
  rw [drop_cons hx]; exact if_pos h
theorem findG_miss {s : ByteArray} {gs : List GrD} {j : Nat} {x : GrD} (hx : gs[j]? = some x) (h : ¬ 0 ≤ indexS s x.ns) : findG s (gs.drop j) j = findG s (gs.drop (j + 1)) (j + 1) := by
  rw [drop_cons hx]; exact if_neg h
theorem findG_end (s : ByteArray) (gs : List GrD) : findG s (gs.drop gs.length) gs.length = (0, 0, 9) := by rw [List.drop_length]; rfl

set_option maxHeartbeats 4000000 in
set_option maxRecDepth 100000 in
theorem find_any (s : ByteArray) (a : Option Addr) (cap : Nat) (gs : List GrD) (w : World) (hin : InS w a gs.length 3 (flat grL gs)) (hgood : ∀ x ∈ gs, GoodG w x) : Calls Try.prog 12 #[.slice a gs.length cap, .string s] w fun e w' => e = .returned (findV s gs) ∧ Below w.heap.size w w' := by
  obtain ⟨N, hN⟩ : ∃ N, N = gs.length := ⟨_, rfl⟩
  have HN := Lib.hid hN
  have HI := Lib.hid hin
  have HGG := Lib.hid hgood
  have hmx : N ≤ 9223372036854775807 := by have := hin.2.1; omega
  unfold findV
  rw [← hN]
  clear hN hin hgood
  go_enter Try.func12, Try.ntmps12
  go_wp2_with fail
  go_loopw [12] (fun i wr => ∃ j : Nat, j ≤ N ∧ i = .int .i64 j ∧ Hid (findG s gs 0 = findG s (gs.drop j) j ∧ Below w.heap.size w wr)) (fun i _ => N - (intOf i).toNat)
  case atStart => exact ⟨0, by omega, rfl, Lib.hid ⟨rfl, Below.refl _ _⟩⟩
  case round =>
    obtain ⟨j, hj, rfl, hH⟩ := hrel
    have HQ := Lib.hid hH.out.1
    have HBR := Lib.hid hH.out.2
    clear hH
    by_cases hlt : j < N
    · obtain ⟨b, o, rfl, hbl, hcell⟩ := (HI.out.keep HBR.out).at grL_len (by have := HN.out; omega)
      obtain ⟨x, hx⟩ : ∃ x, gs[j]? = some x := ⟨_, List.getElem?_eq_getElem (by rw [← HN.out]; exact hlt)⟩
      have c0 := hcell j _ hx 0 _ rfl
      have c1 := hcell j _ hx 1 _ rfl
      have c2 := hcell j _ hx 2 _ rfl
      rw [Nat.add_zero] at c0
      have k1 : (0 : Int) ≤ (j : Int) := by omega
      have k2 : (j : Int) < (N : Int) := by omega
      have HX := Lib.hid hx
      have hix := fun (W' : World) (hb : Below wr.heap.size wr W') => index_any s x.a x.c x.ns W' (((HGG.out x (List.mem_of_getElem? hx)).1.keep HBR.out).keep hb)
      obtain ⟨K, hK⟩ : ∃ K, K = indexS s x.ns := ⟨_, rfl⟩
      rw [← hK] at hix
      have HK := Lib.hid hK
      have HIX := Lib.hid hix
      have NW := Lib.hid (row_fresh wr #[.string x.nm, .slice x.a x.ns.length x.c, .int .i64 x.dd] 33)
      clear hcell hbl hx hix hK
      have n_0 := NW.out.c 0 _ rfl
      have n_1 := NW.out.c 1 _ rfl
      have n_2 := NW.out.c 2 _ rfl
      go_wp2_with fail
      refine (HIX.out _ (bel_fresh _)).mono ?_
      rintro e w2 ⟨rfl, hb⟩
      have HB2 := Lib.hid (HBR.out.trans (((bel_fresh (w := wr) (Obj.cells #[.string x.nm, .slice x.a x.ns.length x.c, .int .i64 x.dd] 33)).trans (hb.mono (by rw [World.size_alloc]; omega))).mono HBR.out.size))
      clear hb n_0 n_1 n_2 c0 c1 c2
      by_cases hk : 0 ≤ K
      · have HM := Lib.hid (show findG s gs 0 = ((j : Int), K, 0) from HQ.out.trans ((findG_hit HX.out (by rw [← HK.out]; exact hk)).trans (by rw [← HK.out])))
        go_wp2_with fail
        go_ret3
        exact ⟨by rw [HM.out]; (first | done | rfl), HB2.out⟩
      · have HM := Lib.hid (HQ.out.trans (findG_miss HX.out (by rw [← HK.out]; exact hk)))
        go_wp2_with fail
        go_roundw
        case rel => exact ⟨j + 1, by omega, by go_num, Lib.hid ⟨HM.out, HB2.out⟩⟩
        case measure => (simp [intOf]) <;> omega
    · obtain rfl : j = N := by omega
      have HM := Lib.hid (show findG s gs 0 = (0, 0, 9) from HQ.out.trans (by rw [HN.out]; exact findG_end s gs))
      go_wp2_with fail
      go_ret3
      exact ⟨by rw [HM.out]; (first | done | rfl), HBR.out⟩
end Go.Proofs.Ytojbhbifbennfaa
