/- Contracts of the specification's Find, point, Small; of areIncreasing and members. -/
import Derived.Test.YtojbhbifbennfaaCb
import Derived.Test.YtojbhbifbennfaaNc
namespace Go.Proofs.Ytojbhbifbennfaa
open Go.RowKit Go.Shelf


set_option maxHeartbeats 4000000 in
set_option maxRecDepth 100000 in
theorem rfind_any (s : ByteArray) (a : Option Addr) (cap : Nat) (gs : List GrD) (w : World) (hin : InS w a gs.length 3 (flat grL gs)) (hgood : ∀ x ∈ gs, GoodG w x) : Calls Try.prog 13 #[.slice a gs.length cap, .string s] w fun e w' => e = .returned (findV s gs) ∧ Below w.heap.size w w' := by
  obtain ⟨N, hN⟩ : ∃ N, N = gs.length := ⟨_, rfl⟩
  have HN := Lib.hid hN
  have HI := Lib.hid hin
  have HGG := Lib.hid hgood
  have hmx : N ≤ 9223372036854775807 := by have := hin.2.1; omega
  unfold findV
  rw [← hN]
  clear hN hin hgood
  go_enter Try.func13, Try.ntmps13
  go_wp2_with fail
  go_loopw [7] (fun i wr => ∃ j : Nat, j ≤ N ∧ i = .int .i64 j ∧ Hid (findG s gs 0 = findG s (gs.drop j) j ∧ Below w.heap.size w wr)) (fun i _ => N - (intOf i).toNat)
  case atStart => exact ⟨0, by omega, rfl, Lib.hid ⟨rfl, Below.refl _ _⟩⟩
  case round =>
    obtain ⟨j, hj, rfl, hH⟩ := hrel
    obtain ⟨wo, rfl⟩ : ∃ x : World, x = wr := ⟨_, rfl⟩
    have HQ := Lib.hid hH.out.1
    have HBO := Lib.hid hH.out.2
    clear hH
    by_cases hlt : j < N
    · obtain ⟨b, o, rfl, hbl, hcell⟩ := HI.out.at grL_len (by have := HN.out; omega)
      obtain ⟨x, hx⟩ : ∃ x, gs[j]? = some x := ⟨_, List.getElem?_eq_getElem (by rw [← HN.out]; exact hlt)⟩
      have HD1 := Lib.hid (hcell j _ hx 1 _ rfl)
      have HBL := Lib.hid hbl
      have k1 : (0 : Int) ≤ (j : Int) := by omega
      have k2 : (j : Int) < (N : Int) := by omega
      have HX := Lib.hid hx
      have HGX := Lib.hid (HGG.out x (List.mem_of_getElem? hx)).1
      obtain ⟨nm, xa, xc, ns, dd⟩ := x
      obtain ⟨M, hM⟩ : ∃ M, M = ns.length := ⟨_, rfl⟩
      have HMM := Lib.hid hM
      have HD1' := Lib.hid (show w.cell? ⟨b, o + j * 3 + 1, none⟩ = some (.slice xa M xc) by rw [hM]; exact HD1.out)
      have HGX' := Lib.hid (show InS w xa M 1 (flat stL ns) by rw [hM]; exact HGX.out)
      have hmm : M ≤ 9223372036854775807 := HGX'.out.2.1
      clear hcell hbl hx HD1 HGX hM
      go_wp2_with fail
      go_loopw [8] (fun i wr => ∃ k : Nat, k ≤ M ∧ i = .int .i64 k ∧ Hid (indexS s ns = firstS (fun x => decide (x = s)) (ns.drop k) k ∧ Below w.heap.size w wr)) (fun i _ => M - (intOf i).toNat)
      case atStart => exact ⟨0, by omega, rfl, Lib.hid ⟨rfl, HBO.out⟩⟩
      case round =>
        obtain ⟨k, hk, rfl, hK⟩ := hrel
        have HQ2 := Lib.hid hK.out.1
        have HBR := Lib.hid hK.out.2
        have c1 := (HBR.out.cell (p := ⟨b, o + j * 3 + 1, none⟩) HBL.out).trans HD1'.out
        clear hK
        by_cases hkl : k < M
        · obtain ⟨b2, o2, rfl, hb2, hc2⟩ := InS.at (f := stL) (xs := ns) stL_len (by rw [← HMM.out]; exact HGX'.out.keep HBR.out) (by have := HMM.out; omega)
          obtain ⟨y, hy⟩ : ∃ y, ns[k]? = some y := ⟨_, List.getElem?_eq_getElem (by rw [← HMM.out]; exact hkl)⟩
          have c3 := hc2 k _ hy 0 _ rfl
          rw [Nat.add_zero, Nat.mul_one] at c3
          have HY := Lib.hid hy
          have k3 : (0 : Int) ≤ (k : Int) := by omega
          have k4 : (k : Int) < (M : Int) := by omega
          clear hb2 hc2 hy
          by_cases hs : y = s
          · have HIX := Lib.hid (show indexS s ns = k from HQ2.out.trans (firstS_hit HY.out (decide_eq_true hs)))
            have HM2 := Lib.hid (show findG s gs 0 = ((j : Int), (k : Int), 0) from HQ.out.trans ((findG_hit HX.out (by show 0 ≤ indexS s ns; rw [HIX.out]; omega)).trans (by show ((j : Int), indexS s ns, (0 : Int)) = _; rw [HIX.out])))
            have t1 : (y.toList == s.toList) = true := by rw [hs]; exact beq_self_eq_true _
            clear hs
            go_wp2_with fail
            go_ret3
            exact ⟨by rw [HM2.out]; (first | done | rfl), HBR.out⟩
          · have HM2 := Lib.hid (HQ2.out.trans (firstS_miss HY.out (decide_eq_false hs)))
            have t1 : (y.toList == s.toList) = false := by rw [beqS]; exact decide_eq_false hs
            clear hs
            go_wp2_with fail
            go_roundw
            case rel => exact ⟨k + 1, by omega, by go_num, Lib.hid ⟨HM2.out, HBR.out⟩⟩
            case measure => (simp [intOf]) <;> omega
        · obtain rfl : k = M := by omega
          have HIX := Lib.hid (show indexS s ns = -1 from HQ2.out.trans (by rw [HMM.out]; exact firstS_end _ ns))
          have HM2 := Lib.hid (HQ.out.trans (findG_miss HX.out (by show ¬ 0 ≤ indexS s ns; rw [HIX.out]; omega)))
          go_wp2_with fail
          go_roundw
          case rel => exact ⟨j + 1, by omega, by go_num, Lib.hid ⟨HM2.out, HBR.out⟩⟩
          case measure => (simp [intOf]) <;> omega
    · obtain rfl : j = N := by omega
      have HM := Lib.hid (show findG s gs 0 = (0, 0, 9) from HQ.out.trans (by rw [HN.out]; exact findG_end s gs))
      go_wp2_with fail
      go_ret3
      exact ⟨by rw [HM.out]; (first | done | rfl), HBO.out⟩
end Go.Proofs.Ytojbhbifbennfaa
