/- Contract of the specification's formed. -/
import Derived.Test.YtojbhbifbennfaaF
namespace Go.Proofs.Ytojbhbifbennfaa
open Go.RowKit Go.Shelf

theorem check_yes {P : Nat} {dd on left : Int} {qs : List RqD} (h1 : qs.length = P) (h2 : qs.any noB = false) (h3 : on = -1 ∨ (0 ≤ on ∧ on < P)) (h4 : 0 ≤ left) (h5 : 0 ≤ dd) (h6 : dd ≤ 3600) : checkE P dd on left qs = 0 := by
  unfold checkE
  rw [if_neg (fun h => h h1), if_neg (by rw [h2]; simp)]
  refine if_neg (fun h => ?_)
  unfold stateB mB dB at h
  rcases h3 with h3 | ⟨h3, h7⟩
  · rw [decide_eq_true h3, decide_eq_true h4, decide_eq_true h5, decide_eq_true h6] at h; simp at h
  · rw [decide_eq_true h3, decide_eq_true h7, decide_eq_true h4, decide_eq_true h5, decide_eq_true h6] at h; simp at h
theorem any_step {qs : List RqD} {j : Nat} {x : RqD} (p : RqD → Bool) (hx : qs[j]? = some x) : (qs.take (j + 1)).any p = ((qs.take j).any p || p x) := by
  rw [List.take_add_one, hx, List.any_append]
  simp
theorem any_hit {qs : List RqD} {j : Nat} {x : RqD} {p : RqD → Bool} (hx : qs[j]? = some x) (h : p x = true) : qs.any p = true := List.any_eq_true.2 ⟨x, List.mem_of_getElem? hx, h⟩

set_option maxHeartbeats 8000000 in
set_option maxRecDepth 100000 in
theorem formed_any (nm : Value) (pa : Option Addr) (P pc : Nat) (dd : Int) (on left : Int) (a : Option Addr) (cap : Nat) (qs : List RqD) (w : World) (hin : InS w a qs.length 3 (flat rqL qs)) : Calls Try.prog 52 #[.agg #[nm, .slice pa P pc, .int .i64 dd], .agg #[.int .i64 on, .int .i64 left], .slice a qs.length cap] w fun e w' => e = .returned (.bool (decide (checkE P dd on left qs = 0))) ∧ Below w.heap.size w w' := by
  obtain ⟨W, g, s, hW, hg, hs, R1, R2, B, sz⟩ := box2 w #[nm, .slice pa P pc, .int .i64 dd] 33 #[.int .i64 on, .int .i64 left] 38
  have HB0 := Lib.hid B
  have HG0 := Lib.hid R1
  have HS0 := Lib.hid R2
  have HI := Lib.hid hin
  have HOK := Lib.hid (fun h => check_ok (P := P) (dd := dd) (on := on) (left := left) (qs := qs) h)
  obtain ⟨N, hN⟩ : ∃ N, N = qs.length := ⟨_, rfl⟩
  have HN := Lib.hid hN
  rw [← hN]
  clear hN hin R1 R2 B sz
  go_enter Try.func52, Try.ntmps52
  go_upto_region 1 with fail
  rw [← hW]
  try rw [← hs]
  try rw [← hg]
  clear hW hg hs
  have g_0 := HG0.out.c 0 _ rfl
  have g_1 := HG0.out.c 1 _ rfl
  have g_2 := HG0.out.c 2 _ rfl
  have s_0 := HS0.out.c 0 _ rfl
  have s_1 := HS0.out.c 1 _ rfl
  by_cases hNP : N = P
  · have hx := hNP.symm
    subst hx
    clear hNP
    by_cases h0 : on < -1
    · have HY := Lib.hid (decide_eq_false (show ¬ checkE P dd on left qs = 0 from fun h => by have h' := HOK.out h; have hn := HN.out; omega))
      go_wp2_with fail
      go_ret
      exact ⟨by rw [HY.out]; (first | done | rfl), HB0.out⟩
    · by_cases h1 : (P : Int) ≤ on
      · have HY := Lib.hid (decide_eq_false (show ¬ checkE P dd on left qs = 0 from fun h => by have h' := HOK.out h; have hn := HN.out; omega))
        go_wp2_with fail
        go_ret
        exact ⟨by rw [HY.out]; (first | done | rfl), HB0.out⟩
      · by_cases h2 : left < 0
        · have HY := Lib.hid (decide_eq_false (show ¬ checkE P dd on left qs = 0 from fun h => by have h' := HOK.out h; have hn := HN.out; omega))
          go_wp2_with fail
          go_ret
          exact ⟨by rw [HY.out]; (first | done | rfl), HB0.out⟩
        · by_cases h3 : dd < 0
          · have HY := Lib.hid (decide_eq_false (show ¬ checkE P dd on left qs = 0 from fun h => by have h' := HOK.out h; have hn := HN.out; omega))
            go_wp2_with fail
            go_ret
            exact ⟨by rw [HY.out]; (first | done | rfl), HB0.out⟩
          · by_cases h4 : 3600 < dd
            · have HY := Lib.hid (decide_eq_false (show ¬ checkE P dd on left qs = 0 from fun h => by have h' := HOK.out h; have hn := HN.out; omega))
              go_wp2_with fail
              go_ret
              exact ⟨by rw [HY.out]; (first | done | rfl), HB0.out⟩
            · have HNUM := Lib.hid (show (on = -1 ∨ (0 ≤ on ∧ on < P)) ∧ 0 ≤ left ∧ 0 ≤ dd ∧ dd ≤ 3600 from ⟨by omega, by omega, by omega, by omega⟩)
              go_wp2_with fail
              go_loopw [7] (fun i wr => ∃ j : Nat, j ≤ P ∧ i = .int .i64 j ∧ Hid ((qs.take j).any noB = false ∧ Below w.heap.size w wr)) (fun i _ => P - (intOf i).toNat)
              case atStart => exact ⟨0, by omega, rfl, Lib.hid ⟨by simp, HB0.out⟩⟩
              case round =>
                obtain ⟨j, hj, rfl, hH⟩ := hrel
                by_cases hlt : j < P
                · have hjx : j < qs.length := by rw [← HN.out]; exact hlt
                  obtain ⟨b, o, rfl, hbl, hcell⟩ := (HI.out.keep hH.out.2).at rqL_len (by omega)
                  obtain ⟨⟨l, k, n⟩, hx⟩ : ∃ x, qs[j]? = some x := ⟨_, List.getElem?_eq_getElem hjx⟩
                  have c0 := hcell j _ hx 0 _ rfl
                  rw [Nat.add_zero] at c0
                  have HX := Lib.hid hx
                  have HBW := Lib.hid hH.out.2
                  have HA := Lib.hid hH.out.1
                  have k1 : (0 : Int) ≤ (j : Int) := by omega
                  have k2 : (j : Int) < (P : Int) := by omega
                  have k3 : P ≤ 9223372036854775807 := by have := HI.out.2.1; have := HN.out; omega
                  clear hjx hcell hx hbl hH
                  by_cases h1 : l < 1
                  · have HY := Lib.hid (decide_eq_false (show ¬ checkE P dd on left qs = 0 from fun h => by have h' := (HOK.out h).2.1; rw [any_hit HX.out (show noB ⟨l, k, n⟩ = true by unfold noB; rw [decide_eq_true h1]; rfl)] at h'; cases h'))
                    go_wp2_with fail
                    go_ret
                    exact ⟨by rw [HY.out]; (first | done | rfl), HBW.out⟩
                  · by_cases h2 : 18 < l
                    · have HY := Lib.hid (decide_eq_false (show ¬ checkE P dd on left qs = 0 from fun h => by have h' := (HOK.out h).2.1; rw [any_hit HX.out (show noB ⟨l, k, n⟩ = true by unfold noB; rw [decide_eq_true h2, Bool.or_true])] at h'; cases h'))
                      go_wp2_with fail
                      go_ret
                      exact ⟨by rw [HY.out]; (first | done | rfl), HBW.out⟩
                    · have HM := Lib.hid (show (qs.take (j + 1)).any noB = false by rw [any_step noB HX.out, HA.out]; unfold noB; rw [decide_eq_false h1, decide_eq_false h2]; rfl)
                      go_wp2_with fail
                      go_roundw
                      case rel => exact ⟨j + 1, by omega, by go_num, Lib.hid ⟨HM.out, HBW.out⟩⟩
                      case measure => (simp [intOf]) <;> omega
                · obtain rfl : j = P := by omega
                  have HA := Lib.hid (show qs.any noB = false by have h := hH.out.1; rw [HN.out, List.take_length] at h; exact h)
                  have HBW := Lib.hid hH.out.2
                  have HY := Lib.hid (decide_eq_true (show checkE j dd on left qs = 0 from check_yes HN.out.symm HA.out HNUM.out.1 HNUM.out.2.1 HNUM.out.2.2.1 HNUM.out.2.2.2))
                  clear hH
                  go_wp2_with fail
                  go_ret
                  exact ⟨by rw [HY.out]; (first | done | rfl), HBW.out⟩
  · have t1 : ((N : Int) != (P : Int)) = true := by simp; omega
    have HY := Lib.hid (decide_eq_false (show ¬ checkE P dd on left qs = 0 from fun h => by have h' := HOK.out h; have hn := HN.out; exact hNP (hn.trans h'.1)))
    go_wp2_with fail
    go_ret
    exact ⟨by rw [HY.out]; (first | done | rfl), HB0.out⟩
end Go.Proofs.Ytojbhbifbennfaa
