/- The contract of the specification's Same. -/
import Derived.Test.YtlmilalibgehpaaN
namespace Go.Proofs.Ytlmilalibgehpaa
open Go.RowKit


set_option maxHeartbeats 4000000 in
set_option maxRecDepth 100000 in
theorem same_any (a b : Option Addr) (cap cbp : Nat) (xs ys : List WrD) (w : World) (hx : InS w a xs.length 4 (flat wrL xs)) (hy : InS w b ys.length 4 (flat wrL ys)) : Calls Try.prog 14 #[.slice a xs.length cap, .slice b ys.length cbp] w fun e w' => e = .returned (.bool (decide (xs = ys))) ∧ Below w.heap.size w w' := by
  obtain ⟨N, hN⟩ : ∃ N, N = xs.length := ⟨_, rfl⟩
  obtain ⟨K, hK⟩ : ∃ K, K = ys.length := ⟨_, rfl⟩
  rw [← hN, ← hK]
  have HN := Lib.hid hN
  have HK := Lib.hid hK
  have HX := Lib.hid hx
  have HY := Lib.hid hy
  clear hN hK hx hy
  have hcon : xs ≠ ys → decide (xs = ys) = false := fun h => decide_eq_false h
  have HC := Lib.hid hcon
  clear hcon
  by_cases hl : N = K
  · subst hl
    go_enter Try.func14, Try.ntmps14
    go_wp2_with fail
    go_loopw [5] (fun i wr => ∃ j : Nat, j ≤ N ∧ i = .int .i64 j ∧ Hid (xs.take j = ys.take j ∧ Below w.heap.size w wr)) (fun i _ => N - (intOf i).toNat)
    case atStart => exact ⟨0, by omega, rfl, Lib.hid ⟨rfl, Below.refl _ _⟩⟩
    case round =>
      obtain ⟨j, hj, rfl, hH⟩ := hrel
      by_cases hlt : j < N
      · have hjx : j < xs.length := by rw [← HN.out]; exact hlt
        have hjy : j < ys.length := by rw [← HK.out]; exact hlt
        obtain ⟨b, o, rfl, hbl, hcell⟩ := (HX.out.keep hH.out.2).at wrL_len (by omega)
        obtain ⟨b1, o1, rfl, hbl1, hcell1⟩ := (HY.out.keep hH.out.2).at wrL_len (by omega)
        obtain ⟨x, hx⟩ : ∃ x, xs[j]? = some x := ⟨_, List.getElem?_eq_getElem hjx⟩
        obtain ⟨y, hy⟩ : ∃ x, ys[j]? = some x := ⟨_, List.getElem?_eq_getElem hjy⟩
        obtain ⟨xl, xq, xk, xn⟩ := x
        obtain ⟨yl, yq, yk, yn⟩ := y
        have c0 := hcell j _ hx 0 _ rfl
        have c1 := hcell j _ hx 1 _ rfl
        have c2 := hcell j _ hx 2 _ rfl
        have c3 := hcell j _ hx 3 _ rfl
        have d0 := hcell1 j _ hy 0 _ rfl
        have d1 := hcell1 j _ hy 1 _ rfl
        have d2 := hcell1 j _ hy 2 _ rfl
        have d3 := hcell1 j _ hy 3 _ rfl
        rw [Nat.add_zero] at c0 d0
        have k1 : (0 : Int) ≤ (j : Int) := by omega
        have k2 : (j : Int) < (N : Int) := by omega
        have k3 : N ≤ 9223372036854775807 := by have := HX.out.2.1; have := HN.out; omega
        have HX1 := Lib.hid hx
        have HY1 := Lib.hid hy
        have HB := Lib.hid hH.out.2
        clear hx hy hcell hcell1 hjx hjy
        by_cases hd : xl = yl ∧ xq = yq ∧ xk = yk ∧ xn = yn
        · obtain ⟨rfl, rfl, rfl, rfl⟩ := hd
          go_wp2_with fail
          go_quiet (fail)
          go_wp2_with fail
          go_roundw
          case rel => exact ⟨j + 1, by omega, by go_num, Lib.hid ⟨by rw [List.take_add_one, List.take_add_one, hH.out.1, HX1.out, HY1.out], bdrewN HB.out _⟩⟩
          case measure => simp [intOf]; omega
        · have HD := Lib.hid (show xs ≠ ys from fun e => by
            have h := HX1.out
            rw [e, HY1.out] at h
            injection h with h
            injection h with a b c d
            exact hd ⟨a.symm, b.symm, c.symm, d.symm⟩)
          by_cases h0 : xl = yl
          · subst h0
            by_cases h1 : xq = yq
            · subst h1
              by_cases h2 : xk = yk
              · subst h2
                have h3 : ¬ xn = yn := fun h => hd ⟨rfl, rfl, rfl, h⟩
                have t3 : (xn == yn) = false := by rw [beq_eq_false_iff_ne]; exact h3
                clear hd h3
                go_wp2_with fail
                go_quiet (fail)
                go_wp2_with fail
                go_ret
                exact ⟨congrArg (fun x => Ending.returned (.bool x)) (HC.out HD.out).symm, bdrewN HB.out _⟩
              · have t2 : (xk == yk) = false := by rw [beq_eq_false_iff_ne]; exact h2
                clear hd h2
                go_wp2_with fail
                go_quiet (fail)
                go_wp2_with fail
                go_ret
                exact ⟨congrArg (fun x => Ending.returned (.bool x)) (HC.out HD.out).symm, bdrewN HB.out _⟩
            · have t1 : (xq == yq) = false := by rw [beq_eq_false_iff_ne]; exact h1
              clear hd h1
              go_wp2_with fail
              go_quiet (fail)
              go_wp2_with fail
              go_ret
              exact ⟨congrArg (fun x => Ending.returned (.bool x)) (HC.out HD.out).symm, bdrewN HB.out _⟩
          · have t0 : (xl == yl) = false := by rw [beq_eq_false_iff_ne]; exact h0
            clear hd h0
            go_wp2_with fail
            go_quiet (fail)
            go_wp2_with fail
            go_ret
            exact ⟨congrArg (fun x => Ending.returned (.bool x)) (HC.out HD.out).symm, bdrewN HB.out _⟩
      · obtain rfl : j = N := by omega
        go_wp2_with fail
        go_ret
        exact ⟨congrArg (fun x => Ending.returned (.bool x)) (decide_eq_true (show xs = ys by
          have h := hH.out.1
          rwa [HN.out, List.take_length, ← HN.out, HK.out, List.take_length] at h)).symm, hH.out.2⟩
  · have HD := Lib.hid (show xs ≠ ys from fun e => hl (by rw [HN.out, HK.out, e]))
    have hl2 : ((N : Int) == (K : Int)) = false := by rw [beq_eq_false_iff_ne]; omega
    clear hl
    go_enter Try.func14, Try.ntmps14
    go_wp2_with fail
    go_ret
    exact ⟨congrArg (fun x => Ending.returned (.bool x)) (HC.out HD.out).symm, Below.refl _ _⟩
end Go.Proofs.Ytlmilalibgehpaa
