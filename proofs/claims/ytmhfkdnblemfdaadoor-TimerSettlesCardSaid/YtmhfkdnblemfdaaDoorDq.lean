/- The law Settles of timer, generic over the block. -/
import Derived.Test.YtmhfkdnblemfdaaDoorDp
namespace Go.Proofs.YtmhfkdnblemfdaaDoor
open Go.RowKit Go.Shelf

set_option linter.unusedVariables false
set_option linter.unusedSimpArgs false
theorem ne_hyst (s : ByteArray) (hne : ¬ s = ⟨#[104, 121, 115, 116]⟩) : (s.toList == [104, 121, 115, 116]) = false := by
  rw [beq_eq_false_iff_ne, toList_eq]
  intro h
  apply hne
  have h2 : s.data = #[104, 121, 115, 116] := Array.toList_inj.1 h
  cases s
  simp only at h2
  rw [h2]
theorem stA_eq {E ko : Int} {R : Int × Nat} {k n m k' n' m' : Int} (h : StA E ko R k n m) (h' : StA E ko R k' n' m') : k = k' ∧ n = n' ∧ m = m' := by
  by_cases he : E = 0
  · obtain ⟨a, b, c⟩ := h.2 he
    obtain ⟨a', b', c'⟩ := h'.2 he
    exact ⟨by rw [a, a'], by rw [b, b'], by rw [c, c']⟩
  · obtain ⟨a, b, c⟩ := h.1 he
    obtain ⟨a', b', c'⟩ := h'.1 he
    exact ⟨by rw [a, a'], by rw [b, b'], by rw [c, c']⟩
set_option maxHeartbeats 8000000 in
set_option maxRecDepth 100000 in
theorem settles_core_hyst (pa sa va : Option Addr) (pc sc vc K V : Nat) (ps : List Int) (E ko : Int) (R : Int × Nat) (w : World) (hm : MaxAt w) (hps : InS w pa ps.length 1 (flat iL ps)) (k63 : K ≤ 9223372036854775807) (v63 : V ≤ 9223372036854775807)
    (K1 : Hid (∀ W, Below w.heap.size w W → Calls Tryd.prog 15 #[.string ⟨#[104, 121, 115, 116]⟩, .slice pa ps.length pc, .slice sa K sc, .slice va V vc] W fun e w' => ∃ k n m, e = .returned (.tuple #[.agg #[.int .i64 k, .int .i64 n], .int .i64 m, .int .i64 E]) ∧ StA E ko R k n m ∧ Below W.heap.size W w'))
    (K2 : Hid (∀ W, Below w.heap.size w W → Calls Tryd.prog 16 #[.string ⟨#[104, 121, 115, 116]⟩, .slice pa ps.length pc, .slice sa K sc, .slice va V vc] W fun e w' => ∃ k n m, e = .returned (.tuple #[.agg #[.int .i64 k, .int .i64 n], .int .i64 m, .int .i64 E]) ∧ StA E ko R k n m ∧ Below W.heap.size W w')) :
    Calls Tryd.prog 4 #[.string ⟨#[104, 121, 115, 116]⟩, .slice pa ps.length pc, .slice sa K sc, .slice va V vc] w fun e w' => e = .returned (.bool true) ∧ Below w.heap.size w w' := by
  have KAW := Lib.hid (awake_yes w hm)
  have HPS := Lib.hid hps
  obtain ⟨M, hM⟩ : ∃ M, M = ps.length := ⟨_, rfl⟩
  have HM := Lib.hid hM
  have m63 : M ≤ 9223372036854775807 := by rw [hM]; exact hps.2.1
  rw [← hM]
  rw [← hM] at K1 K2
  clear hm hps hM
  by_cases h1 : 8 < M
  · have i1 : (8 : Int) < ((M : Nat) : Int) := by omega
    go_enter Tryd.func4, Tryd.ntmps4
    go_wp2_with fail
    refine KAW.out.mono ?_
    rintro e wa ⟨rfl, hb⟩
    have HB1 := Lib.hid hb
    clear hb KAW
    go_wp2_with fail
    go_ret
    exact ⟨by first | rfl | simp, HB1.out⟩
  · have i1 : ¬ (8 : Int) < ((M : Nat) : Int) := by omega
    by_cases h2 : 8 < K
    · have i2 : (8 : Int) < ((K : Nat) : Int) := by omega
      go_enter Tryd.func4, Tryd.ntmps4
      go_wp2_with fail
      refine KAW.out.mono ?_
      rintro e wa ⟨rfl, hb⟩
      have HB1 := Lib.hid hb
      clear hb KAW
      go_wp2_with fail
      go_ret
      exact ⟨by first | rfl | simp, HB1.out⟩
    · have i2 : ¬ (8 : Int) < ((K : Nat) : Int) := by omega
      by_cases h3 : 8 < V
      · have i3 : (8 : Int) < ((V : Nat) : Int) := by omega
        go_enter Tryd.func4, Tryd.ntmps4
        go_wp2_with fail
        refine KAW.out.mono ?_
        rintro e wa ⟨rfl, hb⟩
        have HB1 := Lib.hid hb
        clear hb KAW
        go_wp2_with fail
        go_ret
        exact ⟨by first | rfl | simp, HB1.out⟩
      · have i3 : ¬ (8 : Int) < ((V : Nat) : Int) := by omega
        go_enter Tryd.func4, Tryd.ntmps4
        go_wp2_with fail
        refine KAW.out.mono ?_
        rintro e wa ⟨rfl, hb⟩
        have HB1 := Lib.hid hb
        clear hb KAW
        go_wp2_with fail
        go_loopw [9] (fun iv wr => iv = .int .i64 0 ∧ Hid (Below w.heap.size w wr)) (fun iv _ => 0)
        case atStart => exact ⟨rfl, Lib.hid HB1.out⟩
        case round =>
          clear HB1
          obtain ⟨rfl, HB1⟩ := hrel
          by_cases hM0 : (0 : Int) < (M : Int)
          · go_wp2_with fail
            refine (K1.out wr HB1.out).mono ?_
            rintro e wb ⟨k, n, m, rfl, hA, hb⟩
            have HB2 := Lib.hid (HB1.out.trans (hb.mono HB1.out.size))
            clear hb
            obtain ⟨W3, t1, hW3, ht1, R3, B3, sz3⟩ := box1 wb #[.int .i64 k, .int .i64 n] 26
            have HR3 := Lib.hid R3
            have HB3 := Lib.hid (HB2.out.trans (B3.mono HB2.out.size))
            clear R3 B3 sz3
            go_upto_region 11 with fail
            rw [← hW3]
            try rw [← ht1]
            clear hW3 ht1
            go_wp2_with fail
            refine (K2.out W3 HB3.out).mono ?_
            rintro e wc ⟨k', n', m', rfl, hA', hb⟩
            have HB4 := Lib.hid (HB3.out.trans (hb.mono HB3.out.size))
            have HR4 := Lib.hid (HR3.out.keep hb)
            clear hb
            obtain ⟨W5, t2, hW5, ht2, R5, B5, sz5⟩ := box1 wc #[.int .i64 k', .int .i64 n'] 26
            have HR5 := Lib.hid R5
            have HRR := Lib.hid (HR4.out.keep B5)
            have HB5 := Lib.hid (HB4.out.trans (B5.mono HB4.out.size))
            clear R5 B5 sz5 HR4 HR3
            obtain ⟨rfl, rfl, rfl⟩ := stA_eq hA hA'
            clear hA hA'
            go_upto_region 12 with fail
            rw [← hW5]
            try rw [← ht2]
            clear hW5 ht2
            have r0 := HRR.out.c 0 _ rfl
            have r1 := HRR.out.c 1 _ rfl
            have q0 := HR5.out.c 0 _ rfl
            have q1 := HR5.out.c 1 _ rfl
            go_wp2_with fail
            go_ret
            exact ⟨by first | rfl | simp, HB5.out⟩
          · go_wp2_with fail
            refine (K1.out wr HB1.out).mono ?_
            rintro e wb ⟨k, n, m, rfl, hA, hb⟩
            have HB2 := Lib.hid (HB1.out.trans (hb.mono HB1.out.size))
            clear hb
            obtain ⟨W3, t1, hW3, ht1, R3, B3, sz3⟩ := box1 wb #[.int .i64 k, .int .i64 n] 26
            have HR3 := Lib.hid R3
            have HB3 := Lib.hid (HB2.out.trans (B3.mono HB2.out.size))
            clear R3 B3 sz3
            go_upto_region 11 with fail
            rw [← hW3]
            try rw [← ht1]
            clear hW3 ht1
            go_wp2_with fail
            refine (K2.out W3 HB3.out).mono ?_
            rintro e wc ⟨k', n', m', rfl, hA', hb⟩
            have HB4 := Lib.hid (HB3.out.trans (hb.mono HB3.out.size))
            have HR4 := Lib.hid (HR3.out.keep hb)
            clear hb
            obtain ⟨W5, t2, hW5, ht2, R5, B5, sz5⟩ := box1 wc #[.int .i64 k', .int .i64 n'] 26
            have HR5 := Lib.hid R5
            have HRR := Lib.hid (HR4.out.keep B5)
            have HB5 := Lib.hid (HB4.out.trans (B5.mono HB4.out.size))
            clear R5 B5 sz5 HR4 HR3
            obtain ⟨rfl, rfl, rfl⟩ := stA_eq hA hA'
            clear hA hA'
            go_upto_region 12 with fail
            rw [← hW5]
            try rw [← ht2]
            clear hW5 ht2
            have r0 := HRR.out.c 0 _ rfl
            have r1 := HRR.out.c 1 _ rfl
            have q0 := HR5.out.c 0 _ rfl
            have q1 := HR5.out.c 1 _ rfl
            go_wp2_with fail
            go_ret
            exact ⟨by first | rfl | simp, HB5.out⟩
set_option maxHeartbeats 8000000 in
set_option maxRecDepth 100000 in
theorem settles_core (s : ByteArray) (hne : ¬ s = ⟨#[104, 121, 115, 116]⟩) (hss : s.size ≤ 9223372036854775807) (pa sa va : Option Addr) (pc sc vc K V : Nat) (ps : List Int) (E ko : Int) (R : Int × Nat) (w : World) (hm : MaxAt w) (hps : InS w pa ps.length 1 (flat iL ps)) (k63 : K ≤ 9223372036854775807) (v63 : V ≤ 9223372036854775807)
    (K1 : Hid ((∀ v ∈ ps, ¬ (200 < v ∧ v ≤ 86400)) → ∀ W, Below w.heap.size w W → Calls Tryd.prog 15 #[.string s, .slice pa ps.length pc, .slice sa K sc, .slice va V vc] W fun e w' => ∃ k n m, e = .returned (.tuple #[.agg #[.int .i64 k, .int .i64 n], .int .i64 m, .int .i64 E]) ∧ StA E ko R k n m ∧ Below W.heap.size W w'))
    (K2 : Hid ((∀ v ∈ ps, ¬ (200 < v ∧ v ≤ 86400)) → ∀ W, Below w.heap.size w W → Calls Tryd.prog 16 #[.string s, .slice pa ps.length pc, .slice sa K sc, .slice va V vc] W fun e w' => ∃ k n m, e = .returned (.tuple #[.agg #[.int .i64 k, .int .i64 n], .int .i64 m, .int .i64 E]) ∧ StA E ko R k n m ∧ Below W.heap.size W w')) :
    Calls Tryd.prog 4 #[.string s, .slice pa ps.length pc, .slice sa K sc, .slice va V vc] w fun e w' => e = .returned (.bool true) ∧ Below w.heap.size w w' := by
  have KAW := Lib.hid (awake_yes w hm)
  have HPS := Lib.hid hps
  obtain ⟨M, hM⟩ : ∃ M, M = ps.length := ⟨_, rfl⟩
  have HM := Lib.hid hM
  have m63 : M ≤ 9223372036854775807 := by rw [hM]; exact hps.2.1
  rw [← hM]
  rw [← hM] at K1 K2
  clear hm hps hM
  by_cases h0 : 40 < s.size
  · have i0 : (40 : Int) < ((s.size : Nat) : Int) := by omega
    go_enter Tryd.func4, Tryd.ntmps4
    go_wp2_with fail
    refine KAW.out.mono ?_
    rintro e wa ⟨rfl, hb⟩
    have HB1 := Lib.hid hb
    clear hb KAW
    go_wp2_with fail
    go_ret
    exact ⟨by first | rfl | simp, HB1.out⟩
  · have i0 : ¬ (40 : Int) < ((s.size : Nat) : Int) := by omega
    by_cases h1 : 8 < M
    · have i1 : (8 : Int) < ((M : Nat) : Int) := by omega
      go_enter Tryd.func4, Tryd.ntmps4
      go_wp2_with fail
      refine KAW.out.mono ?_
      rintro e wa ⟨rfl, hb⟩
      have HB1 := Lib.hid hb
      clear hb KAW
      go_wp2_with fail
      go_ret
      exact ⟨by first | rfl | simp, HB1.out⟩
    · have i1 : ¬ (8 : Int) < ((M : Nat) : Int) := by omega
      by_cases h2 : 8 < K
      · have i2 : (8 : Int) < ((K : Nat) : Int) := by omega
        go_enter Tryd.func4, Tryd.ntmps4
        go_wp2_with fail
        refine KAW.out.mono ?_
        rintro e wa ⟨rfl, hb⟩
        have HB1 := Lib.hid hb
        clear hb KAW
        go_wp2_with fail
        go_ret
        exact ⟨by first | rfl | simp, HB1.out⟩
      · have i2 : ¬ (8 : Int) < ((K : Nat) : Int) := by omega
        by_cases h3 : 8 < V
        · have i3 : (8 : Int) < ((V : Nat) : Int) := by omega
          go_enter Tryd.func4, Tryd.ntmps4
          go_wp2_with fail
          refine KAW.out.mono ?_
          rintro e wa ⟨rfl, hb⟩
          have HB1 := Lib.hid hb
          clear hb KAW
          go_wp2_with fail
          go_ret
          exact ⟨by first | rfl | simp, HB1.out⟩
        · have i3 : ¬ (8 : Int) < ((V : Nat) : Int) := by omega
          go_enter Tryd.func4, Tryd.ntmps4
          go_wp2_with fail
          refine KAW.out.mono ?_
          rintro e wa ⟨rfl, hb⟩
          have HB1 := Lib.hid hb
          clear hb KAW
          go_wp2_with fail
          have hb1 := ne_hyst s hne
          have hb2 : (!s.toList == [104, 121, 115, 116]) = true := by rw [hb1]; rfl
          go_loopw [9] (fun iv wr => ∃ j : Nat, j ≤ M ∧ iv = .int .i64 j ∧ (∀ i v, i < j → ps[i]? = some v → ¬ (200 < v ∧ v ≤ 86400)) ∧ Hid (Below w.heap.size w wr)) (fun iv _ => M - (intOf iv).toNat)
          case atStart => exact ⟨0, Nat.zero_le _, rfl, fun i v h => absurd h (Nat.not_lt_zero _), Lib.hid HB1.out⟩
          case round =>
            clear HB1
            obtain ⟨j, hj, rfl, hpre, HB1⟩ := hrel
            have HPRE := Lib.hid hpre
            clear hpre
            by_cases hlt : j < M
            · have k1 : (0 : Int) ≤ (j : Int) := by omega
              have k2 : (j : Int) < (M : Int) := by omega
              have e1 : IntKind.i64.wrap ((j : Int) + 1) = (j : Int) + 1 := IntWalk.i64_in _ (by omega)
              obtain ⟨ab, ao, rfl, hal, hac⟩ := (show InS wr pa ps.length 1 (flat iL ps) from HPS.out.keep HB1.out).at iL_len (by have := HM.out; omega)
              obtain ⟨x, hx⟩ : ∃ x, ps[j]? = some x := ⟨_, List.getElem?_eq_getElem (by have := HM.out; omega)⟩
              have l0 := hac j _ hx 0 _ rfl
              simp only [Nat.mul_one, Nat.add_zero] at l0
              have HX := Lib.hid hx
              clear hx hac
              by_cases h200 : 200 < x
              · by_cases h864 : x ≤ 86400
                · go_wp2_with fail
                  go_ret
                  exact ⟨by first | rfl | simp, HB1.out⟩
                · go_wp2_with fail
                  go_roundw
                  case rel => exact ⟨j + 1, by omega, by go_num, fun i v hi hv => by
                    by_cases hij : i = j
                    · subst hij
                      rw [HX.out] at hv
                      injection hv with hv
                      omega
                    · exact HPRE.out i v (by omega) hv, HB1⟩
                  case measure => (simp [intOf]) <;> omega
              · go_wp2_with fail
                go_roundw
                case rel => exact ⟨j + 1, by omega, by go_num, fun i v hi hv => by
                  by_cases hij : i = j
                  · subst hij
                    rw [HX.out] at hv
                    injection hv with hv
                    omega
                  · exact HPRE.out i v (by omega) hv, HB1⟩
                case measure => (simp [intOf]) <;> omega
            · obtain rfl : j = M := by omega
              have HEA := Lib.hid (show ∀ v ∈ ps, ¬ (200 < v ∧ v ≤ 86400) from fun v hv => by
                obtain ⟨i, hi⟩ := List.getElem?_of_mem hv
                refine HPRE.out i v ?_ hi
                have := (List.getElem?_eq_some_iff.1 hi).1
                have := HM.out
                omega)
              go_wp2_with fail
              refine (K1.out HEA.out wr HB1.out).mono ?_
              rintro e wb ⟨k, n, m, rfl, hA, hb⟩
              have HB2 := Lib.hid (HB1.out.trans (hb.mono HB1.out.size))
              clear hb
              obtain ⟨W3, t1, hW3, ht1, R3, B3, sz3⟩ := box1 wb #[.int .i64 k, .int .i64 n] 26
              have HR3 := Lib.hid R3
              have HB3 := Lib.hid (HB2.out.trans (B3.mono HB2.out.size))
              clear R3 B3 sz3
              go_upto_region 11 with fail
              rw [← hW3]
              try rw [← ht1]
              clear hW3 ht1
              go_wp2_with fail
              refine (K2.out HEA.out W3 HB3.out).mono ?_
              rintro e wc ⟨k', n', m', rfl, hA', hb⟩
              have HB4 := Lib.hid (HB3.out.trans (hb.mono HB3.out.size))
              have HR4 := Lib.hid (HR3.out.keep hb)
              clear hb
              obtain ⟨W5, t2, hW5, ht2, R5, B5, sz5⟩ := box1 wc #[.int .i64 k', .int .i64 n'] 26
              have HR5 := Lib.hid R5
              have HRR := Lib.hid (HR4.out.keep B5)
              have HB5 := Lib.hid (HB4.out.trans (B5.mono HB4.out.size))
              clear R5 B5 sz5 HR4 HR3
              obtain ⟨rfl, rfl, rfl⟩ := stA_eq hA hA'
              clear hA hA'
              go_upto_region 12 with fail
              rw [← hW5]
              try rw [← ht2]
              clear hW5 ht2
              have r0 := HRR.out.c 0 _ rfl
              have r1 := HRR.out.c 1 _ rfl
              have q0 := HR5.out.c 0 _ rfl
              have q1 := HR5.out.c 1 _ rfl
              go_wp2_with fail
              go_ret
              exact ⟨by first | rfl | simp, HB5.out⟩
end Go.Proofs.YtmhfkdnblemfdaaDoor
