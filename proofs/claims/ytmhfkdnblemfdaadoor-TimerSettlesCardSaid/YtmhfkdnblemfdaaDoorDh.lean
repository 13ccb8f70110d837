/- Contracts of plenumref19: Typed, Check. -/
import Derived.Test.YtmhfkdnblemfdaaDoorDg
namespace Go.Proofs.YtmhfkdnblemfdaaDoor
open Go.RowKit Go.Shelf

set_option linter.unusedVariables false
set_option linter.unusedSimpArgs false
set_option maxHeartbeats 2000000 in
theorem rtyped_count (va : Option Addr) (vc : Nat) (vs : List ValD) (V : Bool) (w : World) (hin : InS w va vs.length 2 (flat valL vs)) (hV : V = true ↔ ∀ v ∈ vs, fitsB v.k v.n 2 = true) : Calls Tryd.prog 37 #[.string ⟨#[99, 111, 117, 110, 116]⟩, .slice va vs.length vc] w fun e w' => e = .returned (.bool V) ∧ Below w.heap.size w w' := by
  have HIN := Lib.hid hin
  have HV := Lib.hid hV
  obtain ⟨M, hM⟩ : ∃ M, M = vs.length := ⟨_, rfl⟩
  have HM := Lib.hid hM
  have m63 : M ≤ 9223372036854775807 := by rw [hM]; exact hin.2.1
  rw [← hM]
  clear hin hV hM
  go_enter Tryd.func37, Tryd.ntmps37
  go_wp2_with fail
  go_loopw [5] (fun i wr => ∃ j : Nat, j ≤ M ∧ i = .int .i64 j ∧ Hid (Below w.heap.size w wr ∧ ∀ k y, k < j → vs[k]? = some y → fitsB y.k y.n 2 = true)) (fun i _ => M - (intOf i).toNat)
  case atStart => exact ⟨0, Nat.zero_le _, rfl, Lib.hid ⟨Below.refl _ _, fun k y h => by omega⟩⟩
  case round =>
    obtain ⟨j, hj, rfl, hH⟩ := hrel
    have HBR := Lib.hid hH.out.1
    have HAL := Lib.hid hH.out.2
    clear hH
    by_cases hlt : j < M
    · obtain ⟨lb, lo, hia, hll, hlc⟩ := (show InS wr va vs.length 2 (flat valL vs) from HIN.out.keep HBR.out).at valL_len (by have := HM.out; omega)
      subst hia
      obtain ⟨x, hx⟩ : ∃ x, vs[j]? = some x := ⟨_, List.getElem?_eq_getElem (by have := HM.out; omega)⟩
      have l0 := hlc j _ hx 0 _ rfl
      have l1 := hlc j _ hx 1 _ rfl
      rw [Nat.add_zero] at l0
      have HX := Lib.hid hx
      obtain ⟨xk, xn⟩ := x
      have k1 : (0 : Int) ≤ (j : Int) := by omega
      have k2 : (j : Int) < (M : Int) := by omega
      have k3 : IntKind.i64.wrap ((j : Int) + 1) = (j : Int) + 1 := IntWalk.i64_in _ (by omega)
      clear hx hlc hll
      by_cases hk : xk = 2
      · by_cases hn0 : xn = 0
        · have HK1 := Lib.hid (And.intro hk hn0)
          have bxk2 : (xk == 2) = true := by rw [beq_iff_eq]; omega
          have bxn0 : (xn == 0) = true := by rw [beq_iff_eq]; omega
          clear hk hn0
          have HAN := Lib.hid (show ∀ k y, k < j + 1 → vs[k]? = some y → fitsB y.k y.n 2 = true from fun k y hk hy => by
            by_cases hkj : k = j
            · subst hkj; rw [HX.out] at hy; cases hy
              unfold fitsB
              refine decide_eq_true ?_
              have h3 := HK1.out
              simp only
              first | omega | exact ⟨by omega, by simp⟩
            · exact HAL.out k y (by omega) hy)
          go_wp2_with fail
          all_goals
            first
            | (exfalso
               have h3 := HK1.out
               (try simp only [bne_iff_ne, bne_eq_false_iff_eq, ne_eq] at *)
               omega)
            | (go_roundw
               case rel => exact ⟨j + 1, by omega, by go_num, Lib.hid ⟨HBR.out, HAN.out⟩⟩
               case measure => (simp [intOf]) <;> omega)
        · by_cases hn1 : xn = 1
          · have HK1 := Lib.hid (And.intro hk hn1)
            have bxk2 : (xk == 2) = true := by rw [beq_iff_eq]; omega
            have bxn0 : (xn == 0) = false := by rw [beq_eq_false_iff_ne]; omega
            have bxn1 : (xn == 1) = true := by rw [beq_iff_eq]; omega
            clear hk hn0 hn1
            have HAN := Lib.hid (show ∀ k y, k < j + 1 → vs[k]? = some y → fitsB y.k y.n 2 = true from fun k y hk hy => by
              by_cases hkj : k = j
              · subst hkj; rw [HX.out] at hy; cases hy
                unfold fitsB
                refine decide_eq_true ?_
                have h3 := HK1.out
                simp only
                first | omega | exact ⟨by omega, by simp⟩
              · exact HAL.out k y (by omega) hy)
            go_wp2_with fail
            all_goals
              first
              | (exfalso
                 have h3 := HK1.out
                 (try simp only [bne_iff_ne, bne_eq_false_iff_eq, ne_eq] at *)
                 omega)
              | (go_roundw
                 case rel => exact ⟨j + 1, by omega, by go_num, Lib.hid ⟨HBR.out, HAN.out⟩⟩
                 case measure => (simp [intOf]) <;> omega)
          · have HK1 := Lib.hid (And.intro hn0 hn1)
            have bxk2 : (xk == 2) = true := by rw [beq_iff_eq]; omega
            have bxn0 : (xn == 0) = false := by rw [beq_eq_false_iff_ne]; omega
            have bxn1 : (xn == 1) = false := by rw [beq_eq_false_iff_ne]; omega
            clear hk hn0 hn1
            have hV0 : V = false := by
              cases hVV : V with
              | false => rfl
              | true =>
                have h := HV.out.1 hVV _ (List.mem_of_getElem? HX.out)
                unfold fitsB at h
                have h2 := of_decide_eq_true h
                simp only at h2
                have h3 := HK1.out
                omega
            go_wp2_with fail
            all_goals
              first
              | (exfalso
                 have h3 := HK1.out
                 (try simp only [bne_iff_ne, bne_eq_false_iff_eq, ne_eq] at *)
                 omega)
              | (go_ret
                 exact ⟨by first | rfl | (rw [hV0]; rfl), HBR.out⟩)
      · have HK1 := Lib.hid hk
        have bxk2 : (xk == 2) = false := by rw [beq_eq_false_iff_ne]; omega
        clear hk
        have hV0 : V = false := by
          cases hVV : V with
          | false => rfl
          | true =>
            have h := HV.out.1 hVV _ (List.mem_of_getElem? HX.out)
            unfold fitsB at h
            have h2 := of_decide_eq_true h
            simp only at h2
            have h3 := HK1.out
            omega
        go_wp2_with fail
        all_goals
          first
          | (exfalso
             have h3 := HK1.out
             (try simp only [bne_iff_ne, bne_eq_false_iff_eq, ne_eq] at *)
             omega)
          | (go_ret
             exact ⟨by first | rfl | (rw [hV0]; rfl), HBR.out⟩)
    · obtain rfl : j = M := by omega
      have hV1 : V = true := HV.out.2 (fun v hv => by
        obtain ⟨k, hk⟩ := List.mem_iff_getElem?.1 hv
        exact HAL.out k v (by have := (List.getElem?_eq_some_iff.1 hk).1; have := HM.out; omega) hk)
      go_wp2_with fail
      go_ret
      exact ⟨by first | rfl | (rw [hV1]; rfl), HBR.out⟩
set_option maxHeartbeats 2000000 in
theorem rtyped_edge (va : Option Addr) (vc : Nat) (vs : List ValD) (V : Bool) (w : World) (hin : InS w va vs.length 2 (flat valL vs)) (hV : V = true ↔ ∀ v ∈ vs, fitsB v.k v.n 2 = true) : Calls Tryd.prog 37 #[.string ⟨#[101, 100, 103, 101]⟩, .slice va vs.length vc] w fun e w' => e = .returned (.bool V) ∧ Below w.heap.size w w' := by
  have HIN := Lib.hid hin
  have HV := Lib.hid hV
  obtain ⟨M, hM⟩ : ∃ M, M = vs.length := ⟨_, rfl⟩
  have HM := Lib.hid hM
  have m63 : M ≤ 9223372036854775807 := by rw [hM]; exact hin.2.1
  rw [← hM]
  clear hin hV hM
  go_enter Tryd.func37, Tryd.ntmps37
  go_wp2_with fail
  go_loopw [5] (fun i wr => ∃ j : Nat, j ≤ M ∧ i = .int .i64 j ∧ Hid (Below w.heap.size w wr ∧ ∀ k y, k < j → vs[k]? = some y → fitsB y.k y.n 2 = true)) (fun i _ => M - (intOf i).toNat)
  case atStart => exact ⟨0, Nat.zero_le _, rfl, Lib.hid ⟨Below.refl _ _, fun k y h => by omega⟩⟩
  case round =>
    obtain ⟨j, hj, rfl, hH⟩ := hrel
    have HBR := Lib.hid hH.out.1
    have HAL := Lib.hid hH.out.2
    clear hH
    by_cases hlt : j < M
    · obtain ⟨lb, lo, hia, hll, hlc⟩ := (show InS wr va vs.length 2 (flat valL vs) from HIN.out.keep HBR.out).at valL_len (by have := HM.out; omega)
      subst hia
      obtain ⟨x, hx⟩ : ∃ x, vs[j]? = some x := ⟨_, List.getElem?_eq_getElem (by have := HM.out; omega)⟩
      have l0 := hlc j _ hx 0 _ rfl
      have l1 := hlc j _ hx 1 _ rfl
      rw [Nat.add_zero] at l0
      have HX := Lib.hid hx
      obtain ⟨xk, xn⟩ := x
      have k1 : (0 : Int) ≤ (j : Int) := by omega
      have k2 : (j : Int) < (M : Int) := by omega
      have k3 : IntKind.i64.wrap ((j : Int) + 1) = (j : Int) + 1 := IntWalk.i64_in _ (by omega)
      clear hx hlc hll
      by_cases hk : xk = 2
      · by_cases hn0 : xn = 0
        · have HK1 := Lib.hid (And.intro hk hn0)
          have bxk2 : (xk == 2) = true := by rw [beq_iff_eq]; omega
          have bxn0 : (xn == 0) = true := by rw [beq_iff_eq]; omega
          clear hk hn0
          have HAN := Lib.hid (show ∀ k y, k < j + 1 → vs[k]? = some y → fitsB y.k y.n 2 = true from fun k y hk hy => by
            by_cases hkj : k = j
            · subst hkj; rw [HX.out] at hy; cases hy
              unfold fitsB
              refine decide_eq_true ?_
              have h3 := HK1.out
              simp only
              first | omega | exact ⟨by omega, by simp⟩
            · exact HAL.out k y (by omega) hy)
          go_wp2_with fail
          all_goals
            first
            | (exfalso
               have h3 := HK1.out
               (try simp only [bne_iff_ne, bne_eq_false_iff_eq, ne_eq] at *)
               omega)
            | (go_roundw
               case rel => exact ⟨j + 1, by omega, by go_num, Lib.hid ⟨HBR.out, HAN.out⟩⟩
               case measure => (simp [intOf]) <;> omega)
        · by_cases hn1 : xn = 1
          · have HK1 := Lib.hid (And.intro hk hn1)
            have bxk2 : (xk == 2) = true := by rw [beq_iff_eq]; omega
            have bxn0 : (xn == 0) = false := by rw [beq_eq_false_iff_ne]; omega
            have bxn1 : (xn == 1) = true := by rw [beq_iff_eq]; omega
            clear hk hn0 hn1
            have HAN := Lib.hid (show ∀ k y, k < j + 1 → vs[k]? = some y → fitsB y.k y.n 2 = true from fun k y hk hy => by
              by_cases hkj : k = j
              · subst hkj; rw [HX.out] at hy; cases hy
                unfold fitsB
                refine decide_eq_true ?_
                have h3 := HK1.out
                simp only
                first | omega | exact ⟨by omega, by simp⟩
              · exact HAL.out k y (by omega) hy)
            go_wp2_with fail
            all_goals
              first
              | (exfalso
                 have h3 := HK1.out
                 (try simp only [bne_iff_ne, bne_eq_false_iff_eq, ne_eq] at *)
                 omega)
              | (go_roundw
                 case rel => exact ⟨j + 1, by omega, by go_num, Lib.hid ⟨HBR.out, HAN.out⟩⟩
                 case measure => (simp [intOf]) <;> omega)
          · have HK1 := Lib.hid (And.intro hn0 hn1)
            have bxk2 : (xk == 2) = true := by rw [beq_iff_eq]; omega
            have bxn0 : (xn == 0) = false := by rw [beq_eq_false_iff_ne]; omega
            have bxn1 : (xn == 1) = false := by rw [beq_eq_false_iff_ne]; omega
            clear hk hn0 hn1
            have hV0 : V = false := by
              cases hVV : V with
              | false => rfl
              | true =>
                have h := HV.out.1 hVV _ (List.mem_of_getElem? HX.out)
                unfold fitsB at h
                have h2 := of_decide_eq_true h
                simp only at h2
                have h3 := HK1.out
                omega
            go_wp2_with fail
            all_goals
              first
              | (exfalso
                 have h3 := HK1.out
                 (try simp only [bne_iff_ne, bne_eq_false_iff_eq, ne_eq] at *)
                 omega)
              | (go_ret
                 exact ⟨by first | rfl | (rw [hV0]; rfl), HBR.out⟩)
      · have HK1 := Lib.hid hk
        have bxk2 : (xk == 2) = false := by rw [beq_eq_false_iff_ne]; omega
        clear hk
        have hV0 : V = false := by
          cases hVV : V with
          | false => rfl
          | true =>
            have h := HV.out.1 hVV _ (List.mem_of_getElem? HX.out)
            unfold fitsB at h
            have h2 := of_decide_eq_true h
            simp only at h2
            have h3 := HK1.out
            omega
        go_wp2_with fail
        all_goals
          first
          | (exfalso
             have h3 := HK1.out
             (try simp only [bne_iff_ne, bne_eq_false_iff_eq, ne_eq] at *)
             omega)
          | (go_ret
             exact ⟨by first | rfl | (rw [hV0]; rfl), HBR.out⟩)
    · obtain rfl : j = M := by omega
      have hV1 : V = true := HV.out.2 (fun v hv => by
        obtain ⟨k, hk⟩ := List.mem_iff_getElem?.1 hv
        exact HAL.out k v (by have := (List.getElem?_eq_some_iff.1 hk).1; have := HM.out; omega) hk)
      go_wp2_with fail
      go_ret
      exact ⟨by first | rfl | (rw [hV1]; rfl), HBR.out⟩
set_option maxHeartbeats 2000000 in
theorem rtyped_hyst (va : Option Addr) (vc : Nat) (vs : List ValD) (V : Bool) (w : World) (hin : InS w va vs.length 2 (flat valL vs)) (hV : V = true ↔ ∀ v ∈ vs, fitsB v.k v.n 1 = true) : Calls Tryd.prog 37 #[.string ⟨#[104, 121, 115, 116]⟩, .slice va vs.length vc] w fun e w' => e = .returned (.bool V) ∧ Below w.heap.size w w' := by
  have HIN := Lib.hid hin
  have HV := Lib.hid hV
  obtain ⟨M, hM⟩ : ∃ M, M = vs.length := ⟨_, rfl⟩
  have HM := Lib.hid hM
  have m63 : M ≤ 9223372036854775807 := by rw [hM]; exact hin.2.1
  rw [← hM]
  clear hin hV hM
  go_enter Tryd.func37, Tryd.ntmps37
  go_wp2_with fail
  go_loopw [5] (fun i wr => ∃ j : Nat, j ≤ M ∧ i = .int .i64 j ∧ Hid (Below w.heap.size w wr ∧ ∀ k y, k < j → vs[k]? = some y → fitsB y.k y.n 1 = true)) (fun i _ => M - (intOf i).toNat)
  case atStart => exact ⟨0, Nat.zero_le _, rfl, Lib.hid ⟨Below.refl _ _, fun k y h => by omega⟩⟩
  case round =>
    obtain ⟨j, hj, rfl, hH⟩ := hrel
    have HBR := Lib.hid hH.out.1
    have HAL := Lib.hid hH.out.2
    clear hH
    by_cases hlt : j < M
    · obtain ⟨lb, lo, hia, hll, hlc⟩ := (show InS wr va vs.length 2 (flat valL vs) from HIN.out.keep HBR.out).at valL_len (by have := HM.out; omega)
      subst hia
      obtain ⟨x, hx⟩ : ∃ x, vs[j]? = some x := ⟨_, List.getElem?_eq_getElem (by have := HM.out; omega)⟩
      have l0 := hlc j _ hx 0 _ rfl
      have l1 := hlc j _ hx 1 _ rfl
      rw [Nat.add_zero] at l0
      have HX := Lib.hid hx
      obtain ⟨xk, xn⟩ := x
      have k1 : (0 : Int) ≤ (j : Int) := by omega
      have k2 : (j : Int) < (M : Int) := by omega
      have k3 : IntKind.i64.wrap ((j : Int) + 1) = (j : Int) + 1 := IntWalk.i64_in _ (by omega)
      clear hx hlc hll
      by_cases hk : xk = 1
      · have HK1 := Lib.hid hk
        have bxk1 : (xk == 1) = true := by rw [beq_iff_eq]; omega
        clear hk
        have HAN := Lib.hid (show ∀ k y, k < j + 1 → vs[k]? = some y → fitsB y.k y.n 1 = true from fun k y hk hy => by
          by_cases hkj : k = j
          · subst hkj; rw [HX.out] at hy; cases hy
            unfold fitsB
            refine decide_eq_true ?_
            have h3 := HK1.out
            simp only
            first | omega | exact ⟨by omega, by simp⟩
          · exact HAL.out k y (by omega) hy)
        go_wp2_with fail
        all_goals
          first
          | (exfalso
             have h3 := HK1.out
             (try simp only [bne_iff_ne, bne_eq_false_iff_eq, ne_eq] at *)
             omega)
          | (go_roundw
             case rel => exact ⟨j + 1, by omega, by go_num, Lib.hid ⟨HBR.out, HAN.out⟩⟩
             case measure => (simp [intOf]) <;> omega)
      · have HK1 := Lib.hid hk
        have bxk1 : (xk == 1) = false := by rw [beq_eq_false_iff_ne]; omega
        clear hk
        have hV0 : V = false := by
          cases hVV : V with
          | false => rfl
          | true =>
            have h := HV.out.1 hVV _ (List.mem_of_getElem? HX.out)
            unfold fitsB at h
            have h2 := of_decide_eq_true h
            simp only at h2
            have h3 := HK1.out
            omega
        go_wp2_with fail
        all_goals
          first
          | (exfalso
             have h3 := HK1.out
             (try simp only [bne_iff_ne, bne_eq_false_iff_eq, ne_eq] at *)
             omega)
          | (go_ret
             exact ⟨by first | rfl | (rw [hV0]; rfl), HBR.out⟩)
    · obtain rfl : j = M := by omega
      have hV1 : V = true := HV.out.2 (fun v hv => by
        obtain ⟨k, hk⟩ := List.mem_iff_getElem?.1 hv
        exact HAL.out k v (by have := (List.getElem?_eq_some_iff.1 hk).1; have := HM.out; omega) hk)
      go_wp2_with fail
      go_ret
      exact ⟨by first | rfl | (rw [hV1]; rfl), HBR.out⟩
set_option maxHeartbeats 2000000 in
theorem rtyped_latch (va : Option Addr) (vc : Nat) (vs : List ValD) (V : Bool) (w : World) (hin : InS w va vs.length 2 (flat valL vs)) (hV : V = true ↔ ∀ v ∈ vs, fitsB v.k v.n 2 = true) : Calls Tryd.prog 37 #[.string ⟨#[108, 97, 116, 99, 104]⟩, .slice va vs.length vc] w fun e w' => e = .returned (.bool V) ∧ Below w.heap.size w w' := by
  have HIN := Lib.hid hin
  have HV := Lib.hid hV
  obtain ⟨M, hM⟩ : ∃ M, M = vs.length := ⟨_, rfl⟩
  have HM := Lib.hid hM
  have m63 : M ≤ 9223372036854775807 := by rw [hM]; exact hin.2.1
  rw [← hM]
  clear hin hV hM
  go_enter Tryd.func37, Tryd.ntmps37
  go_wp2_with fail
  go_loopw [5] (fun i wr => ∃ j : Nat, j ≤ M ∧ i = .int .i64 j ∧ Hid (Below w.heap.size w wr ∧ ∀ k y, k < j → vs[k]? = some y → fitsB y.k y.n 2 = true)) (fun i _ => M - (intOf i).toNat)
  case atStart => exact ⟨0, Nat.zero_le _, rfl, Lib.hid ⟨Below.refl _ _, fun k y h => by omega⟩⟩
  case round =>
    obtain ⟨j, hj, rfl, hH⟩ := hrel
    have HBR := Lib.hid hH.out.1
    have HAL := Lib.hid hH.out.2
    clear hH
    by_cases hlt : j < M
    · obtain ⟨lb, lo, hia, hll, hlc⟩ := (show InS wr va vs.length 2 (flat valL vs) from HIN.out.keep HBR.out).at valL_len (by have := HM.out; omega)
      subst hia
      obtain ⟨x, hx⟩ : ∃ x, vs[j]? = some x := ⟨_, List.getElem?_eq_getElem (by have := HM.out; omega)⟩
      have l0 := hlc j _ hx 0 _ rfl
      have l1 := hlc j _ hx 1 _ rfl
      rw [Nat.add_zero] at l0
      have HX := Lib.hid hx
      obtain ⟨xk, xn⟩ := x
      have k1 : (0 : Int) ≤ (j : Int) := by omega
      have k2 : (j : Int) < (M : Int) := by omega
      have k3 : IntKind.i64.wrap ((j : Int) + 1) = (j : Int) + 1 := IntWalk.i64_in _ (by omega)
      clear hx hlc hll
      by_cases hk : xk = 2
      · by_cases hn0 : xn = 0
        · have HK1 := Lib.hid (And.intro hk hn0)
          have bxk2 : (xk == 2) = true := by rw [beq_iff_eq]; omega
          have bxn0 : (xn == 0) = true := by rw [beq_iff_eq]; omega
          clear hk hn0
          have HAN := Lib.hid (show ∀ k y, k < j + 1 → vs[k]? = some y → fitsB y.k y.n 2 = true from fun k y hk hy => by
            by_cases hkj : k = j
            · subst hkj; rw [HX.out] at hy; cases hy
              unfold fitsB
              refine decide_eq_true ?_
              have h3 := HK1.out
              simp only
              first | omega | exact ⟨by omega, by simp⟩
            · exact HAL.out k y (by omega) hy)
          go_wp2_with fail
          all_goals
            first
            | (exfalso
               have h3 := HK1.out
               (try simp only [bne_iff_ne, bne_eq_false_iff_eq, ne_eq] at *)
               omega)
            | (go_roundw
               case rel => exact ⟨j + 1, by omega, by go_num, Lib.hid ⟨HBR.out, HAN.out⟩⟩
               case measure => (simp [intOf]) <;> omega)
        · by_cases hn1 : xn = 1
          · have HK1 := Lib.hid (And.intro hk hn1)
            have bxk2 : (xk == 2) = true := by rw [beq_iff_eq]; omega
            have bxn0 : (xn == 0) = false := by rw [beq_eq_false_iff_ne]; omega
            have bxn1 : (xn == 1) = true := by rw [beq_iff_eq]; omega
            clear hk hn0 hn1
            have HAN := Lib.hid (show ∀ k y, k < j + 1 → vs[k]? = some y → fitsB y.k y.n 2 = true from fun k y hk hy => by
              by_cases hkj : k = j
              · subst hkj; rw [HX.out] at hy; cases hy
                unfold fitsB
                refine decide_eq_true ?_
                have h3 := HK1.out
                simp only
                first | omega | exact ⟨by omega, by simp⟩
              · exact HAL.out k y (by omega) hy)
            go_wp2_with fail
            all_goals
              first
              | (exfalso
                 have h3 := HK1.out
                 (try simp only [bne_iff_ne, bne_eq_false_iff_eq, ne_eq] at *)
                 omega)
              | (go_roundw
                 case rel => exact ⟨j + 1, by omega, by go_num, Lib.hid ⟨HBR.out, HAN.out⟩⟩
                 case measure => (simp [intOf]) <;> omega)
          · have HK1 := Lib.hid (And.intro hn0 hn1)
            have bxk2 : (xk == 2) = true := by rw [beq_iff_eq]; omega
            have bxn0 : (xn == 0) = false := by rw [beq_eq_false_iff_ne]; omega
            have bxn1 : (xn == 1) = false := by rw [beq_eq_false_iff_ne]; omega
            clear hk hn0 hn1
            have hV0 : V = false := by
              cases hVV : V with
              | false => rfl
              | true =>
                have h := HV.out.1 hVV _ (List.mem_of_getElem? HX.out)
                unfold fitsB at h
                have h2 := of_decide_eq_true h
                simp only at h2
                have h3 := HK1.out
                omega
            go_wp2_with fail
            all_goals
              first
              | (exfalso
                 have h3 := HK1.out
                 (try simp only [bne_iff_ne, bne_eq_false_iff_eq, ne_eq] at *)
                 omega)
              | (go_ret
                 exact ⟨by first | rfl | (rw [hV0]; rfl), HBR.out⟩)
      · have HK1 := Lib.hid hk
        have bxk2 : (xk == 2) = false := by rw [beq_eq_false_iff_ne]; omega
        clear hk
        have hV0 : V = false := by
          cases hVV : V with
          | false => rfl
          | true =>
            have h := HV.out.1 hVV _ (List.mem_of_getElem? HX.out)
            unfold fitsB at h
            have h2 := of_decide_eq_true h
            simp only at h2
            have h3 := HK1.out
            omega
        go_wp2_with fail
        all_goals
          first
          | (exfalso
             have h3 := HK1.out
             (try simp only [bne_iff_ne, bne_eq_false_iff_eq, ne_eq] at *)
             omega)
          | (go_ret
             exact ⟨by first | rfl | (rw [hV0]; rfl), HBR.out⟩)
    · obtain rfl : j = M := by omega
      have hV1 : V = true := HV.out.2 (fun v hv => by
        obtain ⟨k, hk⟩ := List.mem_iff_getElem?.1 hv
        exact HAL.out k v (by have := (List.getElem?_eq_some_iff.1 hk).1; have := HM.out; omega) hk)
      go_wp2_with fail
      go_ret
      exact ⟨by first | rfl | (rw [hV1]; rfl), HBR.out⟩
set_option maxHeartbeats 2000000 in
theorem rtyped_minrun (va : Option Addr) (vc : Nat) (vs : List ValD) (V : Bool) (w : World) (hin : InS w va vs.length 2 (flat valL vs)) (hV : V = true ↔ ∀ v ∈ vs, fitsB v.k v.n 2 = true) : Calls Tryd.prog 37 #[.string ⟨#[109, 105, 110, 114, 117, 110]⟩, .slice va vs.length vc] w fun e w' => e = .returned (.bool V) ∧ Below w.heap.size w w' := by
  have HIN := Lib.hid hin
  have HV := Lib.hid hV
  obtain ⟨M, hM⟩ : ∃ M, M = vs.length := ⟨_, rfl⟩
  have HM := Lib.hid hM
  have m63 : M ≤ 9223372036854775807 := by rw [hM]; exact hin.2.1
  rw [← hM]
  clear hin hV hM
  go_enter Tryd.func37, Tryd.ntmps37
  go_wp2_with fail
  go_loopw [5] (fun i wr => ∃ j : Nat, j ≤ M ∧ i = .int .i64 j ∧ Hid (Below w.heap.size w wr ∧ ∀ k y, k < j → vs[k]? = some y → fitsB y.k y.n 2 = true)) (fun i _ => M - (intOf i).toNat)
  case atStart => exact ⟨0, Nat.zero_le _, rfl, Lib.hid ⟨Below.refl _ _, fun k y h => by omega⟩⟩
  case round =>
    obtain ⟨j, hj, rfl, hH⟩ := hrel
    have HBR := Lib.hid hH.out.1
    have HAL := Lib.hid hH.out.2
    clear hH
    by_cases hlt : j < M
    · obtain ⟨lb, lo, hia, hll, hlc⟩ := (show InS wr va vs.length 2 (flat valL vs) from HIN.out.keep HBR.out).at valL_len (by have := HM.out; omega)
      subst hia
      obtain ⟨x, hx⟩ : ∃ x, vs[j]? = some x := ⟨_, List.getElem?_eq_getElem (by have := HM.out; omega)⟩
      have l0 := hlc j _ hx 0 _ rfl
      have l1 := hlc j _ hx 1 _ rfl
      rw [Nat.add_zero] at l0
      have HX := Lib.hid hx
      obtain ⟨xk, xn⟩ := x
      have k1 : (0 : Int) ≤ (j : Int) := by omega
      have k2 : (j : Int) < (M : Int) := by omega
      have k3 : IntKind.i64.wrap ((j : Int) + 1) = (j : Int) + 1 := IntWalk.i64_in _ (by omega)
      clear hx hlc hll
      by_cases hk : xk = 2
      · by_cases hn0 : xn = 0
        · have HK1 := Lib.hid (And.intro hk hn0)
          have bxk2 : (xk == 2) = true := by rw [beq_iff_eq]; omega
          have bxn0 : (xn == 0) = true := by rw [beq_iff_eq]; omega
          clear hk hn0
          have HAN := Lib.hid (show ∀ k y, k < j + 1 → vs[k]? = some y → fitsB y.k y.n 2 = true from fun k y hk hy => by
            by_cases hkj : k = j
            · subst hkj; rw [HX.out] at hy; cases hy
              unfold fitsB
              refine decide_eq_true ?_
              have h3 := HK1.out
              simp only
              first | omega | exact ⟨by omega, by simp⟩
            · exact HAL.out k y (by omega) hy)
          go_wp2_with fail
          all_goals
            first
            | (exfalso
               have h3 := HK1.out
               (try simp only [bne_iff_ne, bne_eq_false_iff_eq, ne_eq] at *)
               omega)
            | (go_roundw
               case rel => exact ⟨j + 1, by omega, by go_num, Lib.hid ⟨HBR.out, HAN.out⟩⟩
               case measure => (simp [intOf]) <;> omega)
        · by_cases hn1 : xn = 1
          · have HK1 := Lib.hid (And.intro hk hn1)
            have bxk2 : (xk == 2) = true := by rw [beq_iff_eq]; omega
            have bxn0 : (xn == 0) = false := by rw [beq_eq_false_iff_ne]; omega
            have bxn1 : (xn == 1) = true := by rw [beq_iff_eq]; omega
            clear hk hn0 hn1
            have HAN := Lib.hid (show ∀ k y, k < j + 1 → vs[k]? = some y → fitsB y.k y.n 2 = true from fun k y hk hy => by
              by_cases hkj : k = j
              · subst hkj; rw [HX.out] at hy; cases hy
                unfold fitsB
                refine decide_eq_true ?_
                have h3 := HK1.out
                simp only
                first | omega | exact ⟨by omega, by simp⟩
              · exact HAL.out k y (by omega) hy)
            go_wp2_with fail
            all_goals
              first
              | (exfalso
                 have h3 := HK1.out
                 (try simp only [bne_iff_ne, bne_eq_false_iff_eq, ne_eq] at *)
                 omega)
              | (go_roundw
                 case rel => exact ⟨j + 1, by omega, by go_num, Lib.hid ⟨HBR.out, HAN.out⟩⟩
                 case measure => (simp [intOf]) <;> omega)
          · have HK1 := Lib.hid (And.intro hn0 hn1)
            have bxk2 : (xk == 2) = true := by rw [beq_iff_eq]; omega
            have bxn0 : (xn == 0) = false := by rw [beq_eq_false_iff_ne]; omega
            have bxn1 : (xn == 1) = false := by rw [beq_eq_false_iff_ne]; omega
            clear hk hn0 hn1
            have hV0 : V = false := by
              cases hVV : V with
              | false => rfl
              | true =>
                have h := HV.out.1 hVV _ (List.mem_of_getElem? HX.out)
                unfold fitsB at h
                have h2 := of_decide_eq_true h
                simp only at h2
                have h3 := HK1.out
                omega
            go_wp2_with fail
            all_goals
              first
              | (exfalso
                 have h3 := HK1.out
                 (try simp only [bne_iff_ne, bne_eq_false_iff_eq, ne_eq] at *)
                 omega)
              | (go_ret
                 exact ⟨by first | rfl | (rw [hV0]; rfl), HBR.out⟩)
      · have HK1 := Lib.hid hk
        have bxk2 : (xk == 2) = false := by rw [beq_eq_false_iff_ne]; omega
        clear hk
        have hV0 : V = false := by
          cases hVV : V with
          | false => rfl
          | true =>
            have h := HV.out.1 hVV _ (List.mem_of_getElem? HX.out)
            unfold fitsB at h
            have h2 := of_decide_eq_true h
            simp only at h2
            have h3 := HK1.out
            omega
        go_wp2_with fail
        all_goals
          first
          | (exfalso
             have h3 := HK1.out
             (try simp only [bne_iff_ne, bne_eq_false_iff_eq, ne_eq] at *)
             omega)
          | (go_ret
             exact ⟨by first | rfl | (rw [hV0]; rfl), HBR.out⟩)
    · obtain rfl : j = M := by omega
      have hV1 : V = true := HV.out.2 (fun v hv => by
        obtain ⟨k, hk⟩ := List.mem_iff_getElem?.1 hv
        exact HAL.out k v (by have := (List.getElem?_eq_some_iff.1 hk).1; have := HM.out; omega) hk)
      go_wp2_with fail
      go_ret
      exact ⟨by first | rfl | (rw [hV1]; rfl), HBR.out⟩
set_option maxHeartbeats 2000000 in
theorem rtyped_offdelay (va : Option Addr) (vc : Nat) (vs : List ValD) (V : Bool) (w : World) (hin : InS w va vs.length 2 (flat valL vs)) (hV : V = true ↔ ∀ v ∈ vs, fitsB v.k v.n 2 = true) : Calls Tryd.prog 37 #[.string ⟨#[111, 102, 102, 100, 101, 108, 97, 121]⟩, .slice va vs.length vc] w fun e w' => e = .returned (.bool V) ∧ Below w.heap.size w w' := by
  have HIN := Lib.hid hin
  have HV := Lib.hid hV
  obtain ⟨M, hM⟩ : ∃ M, M = vs.length := ⟨_, rfl⟩
  have HM := Lib.hid hM
  have m63 : M ≤ 9223372036854775807 := by rw [hM]; exact hin.2.1
  rw [← hM]
  clear hin hV hM
  go_enter Tryd.func37, Tryd.ntmps37
  go_wp2_with fail
  go_loopw [5] (fun i wr => ∃ j : Nat, j ≤ M ∧ i = .int .i64 j ∧ Hid (Below w.heap.size w wr ∧ ∀ k y, k < j → vs[k]? = some y → fitsB y.k y.n 2 = true)) (fun i _ => M - (intOf i).toNat)
  case atStart => exact ⟨0, Nat.zero_le _, rfl, Lib.hid ⟨Below.refl _ _, fun k y h => by omega⟩⟩
  case round =>
    obtain ⟨j, hj, rfl, hH⟩ := hrel
    have HBR := Lib.hid hH.out.1
    have HAL := Lib.hid hH.out.2
    clear hH
    by_cases hlt : j < M
    · obtain ⟨lb, lo, hia, hll, hlc⟩ := (show InS wr va vs.length 2 (flat valL vs) from HIN.out.keep HBR.out).at valL_len (by have := HM.out; omega)
      subst hia
      obtain ⟨x, hx⟩ : ∃ x, vs[j]? = some x := ⟨_, List.getElem?_eq_getElem (by have := HM.out; omega)⟩
      have l0 := hlc j _ hx 0 _ rfl
      have l1 := hlc j _ hx 1 _ rfl
      rw [Nat.add_zero] at l0
      have HX := Lib.hid hx
      obtain ⟨xk, xn⟩ := x
      have k1 : (0 : Int) ≤ (j : Int) := by omega
      have k2 : (j : Int) < (M : Int) := by omega
      have k3 : IntKind.i64.wrap ((j : Int) + 1) = (j : Int) + 1 := IntWalk.i64_in _ (by omega)
      clear hx hlc hll
      by_cases hk : xk = 2
      · by_cases hn0 : xn = 0
        · have HK1 := Lib.hid (And.intro hk hn0)
          have bxk2 : (xk == 2) = true := by rw [beq_iff_eq]; omega
          have bxn0 : (xn == 0) = true := by rw [beq_iff_eq]; omega
          clear hk hn0
          have HAN := Lib.hid (show ∀ k y, k < j + 1 → vs[k]? = some y → fitsB y.k y.n 2 = true from fun k y hk hy => by
            by_cases hkj : k = j
            · subst hkj; rw [HX.out] at hy; cases hy
              unfold fitsB
              refine decide_eq_true ?_
              have h3 := HK1.out
              simp only
              first | omega | exact ⟨by omega, by simp⟩
            · exact HAL.out k y (by omega) hy)
          go_wp2_with fail
          all_goals
            first
            | (exfalso
               have h3 := HK1.out
               (try simp only [bne_iff_ne, bne_eq_false_iff_eq, ne_eq] at *)
               omega)
            | (go_roundw
               case rel => exact ⟨j + 1, by omega, by go_num, Lib.hid ⟨HBR.out, HAN.out⟩⟩
               case measure => (simp [intOf]) <;> omega)
        · by_cases hn1 : xn = 1
          · have HK1 := Lib.hid (And.intro hk hn1)
            have bxk2 : (xk == 2) = true := by rw [beq_iff_eq]; omega
            have bxn0 : (xn == 0) = false := by rw [beq_eq_false_iff_ne]; omega
            have bxn1 : (xn == 1) = true := by rw [beq_iff_eq]; omega
            clear hk hn0 hn1
            have HAN := Lib.hid (show ∀ k y, k < j + 1 → vs[k]? = some y → fitsB y.k y.n 2 = true from fun k y hk hy => by
              by_cases hkj : k = j
              · subst hkj; rw [HX.out] at hy; cases hy
                unfold fitsB
                refine decide_eq_true ?_
                have h3 := HK1.out
                simp only
                first | omega | exact ⟨by omega, by simp⟩
              · exact HAL.out k y (by omega) hy)
            go_wp2_with fail
            all_goals
              first
              | (exfalso
                 have h3 := HK1.out
                 (try simp only [bne_iff_ne, bne_eq_false_iff_eq, ne_eq] at *)
                 omega)
              | (go_roundw
                 case rel => exact ⟨j + 1, by omega, by go_num, Lib.hid ⟨HBR.out, HAN.out⟩⟩
                 case measure => (simp [intOf]) <;> omega)
          · have HK1 := Lib.hid (And.intro hn0 hn1)
            have bxk2 : (xk == 2) = true := by rw [beq_iff_eq]; omega
            have bxn0 : (xn == 0) = false := by rw [beq_eq_false_iff_ne]; omega
            have bxn1 : (xn == 1) = false := by rw [beq_eq_false_iff_ne]; omega
            clear hk hn0 hn1
            have hV0 : V = false := by
              cases hVV : V with
              | false => rfl
              | true =>
                have h := HV.out.1 hVV _ (List.mem_of_getElem? HX.out)
                unfold fitsB at h
                have h2 := of_decide_eq_true h
                simp only at h2
                have h3 := HK1.out
                omega
            go_wp2_with fail
            all_goals
              first
              | (exfalso
                 have h3 := HK1.out
                 (try simp only [bne_iff_ne, bne_eq_false_iff_eq, ne_eq] at *)
                 omega)
              | (go_ret
                 exact ⟨by first | rfl | (rw [hV0]; rfl), HBR.out⟩)
      · have HK1 := Lib.hid hk
        have bxk2 : (xk == 2) = false := by rw [beq_eq_false_iff_ne]; omega
        clear hk
        have hV0 : V = false := by
          cases hVV : V with
          | false => rfl
          | true =>
            have h := HV.out.1 hVV _ (List.mem_of_getElem? HX.out)
            unfold fitsB at h
            have h2 := of_decide_eq_true h
            simp only at h2
            have h3 := HK1.out
            omega
        go_wp2_with fail
        all_goals
          first
          | (exfalso
             have h3 := HK1.out
             (try simp only [bne_iff_ne, bne_eq_false_iff_eq, ne_eq] at *)
             omega)
          | (go_ret
             exact ⟨by first | rfl | (rw [hV0]; rfl), HBR.out⟩)
    · obtain rfl : j = M := by omega
      have hV1 : V = true := HV.out.2 (fun v hv => by
        obtain ⟨k, hk⟩ := List.mem_iff_getElem?.1 hv
        exact HAL.out k v (by have := (List.getElem?_eq_some_iff.1 hk).1; have := HM.out; omega) hk)
      go_wp2_with fail
      go_ret
      exact ⟨by first | rfl | (rw [hV1]; rfl), HBR.out⟩
set_option maxHeartbeats 2000000 in
theorem rtyped_ondelay (va : Option Addr) (vc : Nat) (vs : List ValD) (V : Bool) (w : World) (hin : InS w va vs.length 2 (flat valL vs)) (hV : V = true ↔ ∀ v ∈ vs, fitsB v.k v.n 2 = true) : Calls Tryd.prog 37 #[.string ⟨#[111, 110, 100, 101, 108, 97, 121]⟩, .slice va vs.length vc] w fun e w' => e = .returned (.bool V) ∧ Below w.heap.size w w' := by
  have HIN := Lib.hid hin
  have HV := Lib.hid hV
  obtain ⟨M, hM⟩ : ∃ M, M = vs.length := ⟨_, rfl⟩
  have HM := Lib.hid hM
  have m63 : M ≤ 9223372036854775807 := by rw [hM]; exact hin.2.1
  rw [← hM]
  clear hin hV hM
  go_enter Tryd.func37, Tryd.ntmps37
  go_wp2_with fail
  go_loopw [5] (fun i wr => ∃ j : Nat, j ≤ M ∧ i = .int .i64 j ∧ Hid (Below w.heap.size w wr ∧ ∀ k y, k < j → vs[k]? = some y → fitsB y.k y.n 2 = true)) (fun i _ => M - (intOf i).toNat)
  case atStart => exact ⟨0, Nat.zero_le _, rfl, Lib.hid ⟨Below.refl _ _, fun k y h => by omega⟩⟩
  case round =>
    obtain ⟨j, hj, rfl, hH⟩ := hrel
    have HBR := Lib.hid hH.out.1
    have HAL := Lib.hid hH.out.2
    clear hH
    by_cases hlt : j < M
    · obtain ⟨lb, lo, hia, hll, hlc⟩ := (show InS wr va vs.length 2 (flat valL vs) from HIN.out.keep HBR.out).at valL_len (by have := HM.out; omega)
      subst hia
      obtain ⟨x, hx⟩ : ∃ x, vs[j]? = some x := ⟨_, List.getElem?_eq_getElem (by have := HM.out; omega)⟩
      have l0 := hlc j _ hx 0 _ rfl
      have l1 := hlc j _ hx 1 _ rfl
      rw [Nat.add_zero] at l0
      have HX := Lib.hid hx
      obtain ⟨xk, xn⟩ := x
      have k1 : (0 : Int) ≤ (j : Int) := by omega
      have k2 : (j : Int) < (M : Int) := by omega
      have k3 : IntKind.i64.wrap ((j : Int) + 1) = (j : Int) + 1 := IntWalk.i64_in _ (by omega)
      clear hx hlc hll
      by_cases hk : xk = 2
      · by_cases hn0 : xn = 0
        · have HK1 := Lib.hid (And.intro hk hn0)
          have bxk2 : (xk == 2) = true := by rw [beq_iff_eq]; omega
          have bxn0 : (xn == 0) = true := by rw [beq_iff_eq]; omega
          clear hk hn0
          have HAN := Lib.hid (show ∀ k y, k < j + 1 → vs[k]? = some y → fitsB y.k y.n 2 = true from fun k y hk hy => by
            by_cases hkj : k = j
            · subst hkj; rw [HX.out] at hy; cases hy
              unfold fitsB
              refine decide_eq_true ?_
              have h3 := HK1.out
              simp only
              first | omega | exact ⟨by omega, by simp⟩
            · exact HAL.out k y (by omega) hy)
          go_wp2_with fail
          all_goals
            first
            | (exfalso
               have h3 := HK1.out
               (try simp only [bne_iff_ne, bne_eq_false_iff_eq, ne_eq] at *)
               omega)
            | (go_roundw
               case rel => exact ⟨j + 1, by omega, by go_num, Lib.hid ⟨HBR.out, HAN.out⟩⟩
               case measure => (simp [intOf]) <;> omega)
        · by_cases hn1 : xn = 1
          · have HK1 := Lib.hid (And.intro hk hn1)
            have bxk2 : (xk == 2) = true := by rw [beq_iff_eq]; omega
            have bxn0 : (xn == 0) = false := by rw [beq_eq_false_iff_ne]; omega
            have bxn1 : (xn == 1) = true := by rw [beq_iff_eq]; omega
            clear hk hn0 hn1
            have HAN := Lib.hid (show ∀ k y, k < j + 1 → vs[k]? = some y → fitsB y.k y.n 2 = true from fun k y hk hy => by
              by_cases hkj : k = j
              · subst hkj; rw [HX.out] at hy; cases hy
                unfold fitsB
                refine decide_eq_true ?_
                have h3 := HK1.out
                simp only
                first | omega | exact ⟨by omega, by simp⟩
              · exact HAL.out k y (by omega) hy)
            go_wp2_with fail
            all_goals
              first
              | (exfalso
                 have h3 := HK1.out
                 (try simp only [bne_iff_ne, bne_eq_false_iff_eq, ne_eq] at *)
                 omega)
              | (go_roundw
                 case rel => exact ⟨j + 1, by omega, by go_num, Lib.hid ⟨HBR.out, HAN.out⟩⟩
                 case measure => (simp [intOf]) <;> omega)
          · have HK1 := Lib.hid (And.intro hn0 hn1)
            have bxk2 : (xk == 2) = true := by rw [beq_iff_eq]; omega
            have bxn0 : (xn == 0) = false := by rw [beq_eq_false_iff_ne]; omega
            have bxn1 : (xn == 1) = false := by rw [beq_eq_false_iff_ne]; omega
            clear hk hn0 hn1
            have hV0 : V = false := by
              cases hVV : V with
              | false => rfl
              | true =>
                have h := HV.out.1 hVV _ (List.mem_of_getElem? HX.out)
                unfold fitsB at h
                have h2 := of_decide_eq_true h
                simp only at h2
                have h3 := HK1.out
                omega
            go_wp2_with fail
            all_goals
              first
              | (exfalso
                 have h3 := HK1.out
                 (try simp only [bne_iff_ne, bne_eq_false_iff_eq, ne_eq] at *)
                 omega)
              | (go_ret
                 exact ⟨by first | rfl | (rw [hV0]; rfl), HBR.out⟩)
      · have HK1 := Lib.hid hk
        have bxk2 : (xk == 2) = false := by rw [beq_eq_false_iff_ne]; omega
        clear hk
        have hV0 : V = false := by
          cases hVV : V with
          | false => rfl
          | true =>
            have h := HV.out.1 hVV _ (List.mem_of_getElem? HX.out)
            unfold fitsB at h
            have h2 := of_decide_eq_true h
            simp only at h2
            have h3 := HK1.out
            omega
        go_wp2_with fail
        all_goals
          first
          | (exfalso
             have h3 := HK1.out
             (try simp only [bne_iff_ne, bne_eq_false_iff_eq, ne_eq] at *)
             omega)
          | (go_ret
             exact ⟨by first | rfl | (rw [hV0]; rfl), HBR.out⟩)
    · obtain rfl : j = M := by omega
      have hV1 : V = true := HV.out.2 (fun v hv => by
        obtain ⟨k, hk⟩ := List.mem_iff_getElem?.1 hv
        exact HAL.out k v (by have := (List.getElem?_eq_some_iff.1 hk).1; have := HM.out; omega) hk)
      go_wp2_with fail
      go_ret
      exact ⟨by first | rfl | (rw [hV1]; rfl), HBR.out⟩
set_option maxHeartbeats 2000000 in
theorem rtyped_pulse (va : Option Addr) (vc : Nat) (vs : List ValD) (V : Bool) (w : World) (hin : InS w va vs.length 2 (flat valL vs)) (hV : V = true ↔ ∀ v ∈ vs, fitsB v.k v.n 2 = true) : Calls Tryd.prog 37 #[.string ⟨#[112, 117, 108, 115, 101]⟩, .slice va vs.length vc] w fun e w' => e = .returned (.bool V) ∧ Below w.heap.size w w' := by
  have HIN := Lib.hid hin
  have HV := Lib.hid hV
  obtain ⟨M, hM⟩ : ∃ M, M = vs.length := ⟨_, rfl⟩
  have HM := Lib.hid hM
  have m63 : M ≤ 9223372036854775807 := by rw [hM]; exact hin.2.1
  rw [← hM]
  clear hin hV hM
  go_enter Tryd.func37, Tryd.ntmps37
  go_wp2_with fail
  go_loopw [5] (fun i wr => ∃ j : Nat, j ≤ M ∧ i = .int .i64 j ∧ Hid (Below w.heap.size w wr ∧ ∀ k y, k < j → vs[k]? = some y → fitsB y.k y.n 2 = true)) (fun i _ => M - (intOf i).toNat)
  case atStart => exact ⟨0, Nat.zero_le _, rfl, Lib.hid ⟨Below.refl _ _, fun k y h => by omega⟩⟩
  case round =>
    obtain ⟨j, hj, rfl, hH⟩ := hrel
    have HBR := Lib.hid hH.out.1
    have HAL := Lib.hid hH.out.2
    clear hH
    by_cases hlt : j < M
    · obtain ⟨lb, lo, hia, hll, hlc⟩ := (show InS wr va vs.length 2 (flat valL vs) from HIN.out.keep HBR.out).at valL_len (by have := HM.out; omega)
      subst hia
      obtain ⟨x, hx⟩ : ∃ x, vs[j]? = some x := ⟨_, List.getElem?_eq_getElem (by have := HM.out; omega)⟩
      have l0 := hlc j _ hx 0 _ rfl
      have l1 := hlc j _ hx 1 _ rfl
      rw [Nat.add_zero] at l0
      have HX := Lib.hid hx
      obtain ⟨xk, xn⟩ := x
      have k1 : (0 : Int) ≤ (j : Int) := by omega
      have k2 : (j : Int) < (M : Int) := by omega
      have k3 : IntKind.i64.wrap ((j : Int) + 1) = (j : Int) + 1 := IntWalk.i64_in _ (by omega)
      clear hx hlc hll
      by_cases hk : xk = 2
      · by_cases hn0 : xn = 0
        · have HK1 := Lib.hid (And.intro hk hn0)
          have bxk2 : (xk == 2) = true := by rw [beq_iff_eq]; omega
          have bxn0 : (xn == 0) = true := by rw [beq_iff_eq]; omega
          clear hk hn0
          have HAN := Lib.hid (show ∀ k y, k < j + 1 → vs[k]? = some y → fitsB y.k y.n 2 = true from fun k y hk hy => by
            by_cases hkj : k = j
            · subst hkj; rw [HX.out] at hy; cases hy
              unfold fitsB
              refine decide_eq_true ?_
              have h3 := HK1.out
              simp only
              first | omega | exact ⟨by omega, by simp⟩
            · exact HAL.out k y (by omega) hy)
          go_wp2_with fail
          all_goals
            first
            | (exfalso
               have h3 := HK1.out
               (try simp only [bne_iff_ne, bne_eq_false_iff_eq, ne_eq] at *)
               omega)
            | (go_roundw
               case rel => exact ⟨j + 1, by omega, by go_num, Lib.hid ⟨HBR.out, HAN.out⟩⟩
               case measure => (simp [intOf]) <;> omega)
        · by_cases hn1 : xn = 1
          · have HK1 := Lib.hid (And.intro hk hn1)
            have bxk2 : (xk == 2) = true := by rw [beq_iff_eq]; omega
            have bxn0 : (xn == 0) = false := by rw [beq_eq_false_iff_ne]; omega
            have bxn1 : (xn == 1) = true := by rw [beq_iff_eq]; omega
            clear hk hn0 hn1
            have HAN := Lib.hid (show ∀ k y, k < j + 1 → vs[k]? = some y → fitsB y.k y.n 2 = true from fun k y hk hy => by
              by_cases hkj : k = j
              · subst hkj; rw [HX.out] at hy; cases hy
                unfold fitsB
                refine decide_eq_true ?_
                have h3 := HK1.out
                simp only
                first | omega | exact ⟨by omega, by simp⟩
              · exact HAL.out k y (by omega) hy)
            go_wp2_with fail
            all_goals
              first
              | (exfalso
                 have h3 := HK1.out
                 (try simp only [bne_iff_ne, bne_eq_false_iff_eq, ne_eq] at *)
                 omega)
              | (go_roundw
                 case rel => exact ⟨j + 1, by omega, by go_num, Lib.hid ⟨HBR.out, HAN.out⟩⟩
                 case measure => (simp [intOf]) <;> omega)
          · have HK1 := Lib.hid (And.intro hn0 hn1)
            have bxk2 : (xk == 2) = true := by rw [beq_iff_eq]; omega
            have bxn0 : (xn == 0) = false := by rw [beq_eq_false_iff_ne]; omega
            have bxn1 : (xn == 1) = false := by rw [beq_eq_false_iff_ne]; omega
            clear hk hn0 hn1
            have hV0 : V = false := by
              cases hVV : V with
              | false => rfl
              | true =>
                have h := HV.out.1 hVV _ (List.mem_of_getElem? HX.out)
                unfold fitsB at h
                have h2 := of_decide_eq_true h
                simp only at h2
                have h3 := HK1.out
                omega
            go_wp2_with fail
            all_goals
              first
              | (exfalso
                 have h3 := HK1.out
                 (try simp only [bne_iff_ne, bne_eq_false_iff_eq, ne_eq] at *)
                 omega)
              | (go_ret
                 exact ⟨by first | rfl | (rw [hV0]; rfl), HBR.out⟩)
      · have HK1 := Lib.hid hk
        have bxk2 : (xk == 2) = false := by rw [beq_eq_false_iff_ne]; omega
        clear hk
        have hV0 : V = false := by
          cases hVV : V with
          | false => rfl
          | true =>
            have h := HV.out.1 hVV _ (List.mem_of_getElem? HX.out)
            unfold fitsB at h
            have h2 := of_decide_eq_true h
            simp only at h2
            have h3 := HK1.out
            omega
        go_wp2_with fail
        all_goals
          first
          | (exfalso
             have h3 := HK1.out
             (try simp only [bne_iff_ne, bne_eq_false_iff_eq, ne_eq] at *)
             omega)
          | (go_ret
             exact ⟨by first | rfl | (rw [hV0]; rfl), HBR.out⟩)
    · obtain rfl : j = M := by omega
      have hV1 : V = true := HV.out.2 (fun v hv => by
        obtain ⟨k, hk⟩ := List.mem_iff_getElem?.1 hv
        exact HAL.out k v (by have := (List.getElem?_eq_some_iff.1 hk).1; have := HM.out; omega) hk)
      go_wp2_with fail
      go_ret
      exact ⟨by first | rfl | (rw [hV1]; rfl), HBR.out⟩
set_option maxHeartbeats 4000000 in
set_option maxRecDepth 100000 in
theorem rcheck_count (pa sa va : Option Addr) (pc sc vc : Nat) (ps st : List Int) (vs : List ValD) (V : Bool) (dt : Int) (w : World) (hps : InS w pa ps.length 1 (flat iL ps)) (hst : InS w sa st.length 1 (flat iL st)) (hin : InS w va vs.length 2 (flat valL vs)) (hV : V = true ↔ ∀ v ∈ vs, fitsB v.k v.n 2 = true) :
    Calls Tryd.prog 23 #[.string ⟨#[99, 111, 117, 110, 116]⟩, .slice pa ps.length pc, .slice sa st.length sc, .slice va vs.length vc, .int .i64 dt] w fun e w' => e = .returned (.int .i64 (tmE (form_none ps && poss_count st) [⟨⟨#[97]⟩, ⟨#[98, 105, 110, 97, 114, 121]⟩⟩, ⟨⟨#[114, 101, 115, 101, 116]⟩, ⟨#[98, 105, 110, 97, 114, 121]⟩⟩] vs V dt)) ∧ Below w.heap.size w w' := by
  have KF := Lib.hid (fun (W : World) (hb : Below w.heap.size w W) => rformed_count pa pc ps W (hps.keep hb))
  have KT := Lib.hid (fun (W : World) (hb : Below w.heap.size w W) => rtyped_count va vc vs V W (hin.keep hb) hV)
  have HPS := Lib.hid hps
  have HST := Lib.hid hst
  obtain ⟨N, hN⟩ : ∃ M, M = ps.length := ⟨_, rfl⟩
  obtain ⟨M, hM⟩ : ∃ M, M = st.length := ⟨_, rfl⟩
  obtain ⟨KV, hK⟩ : ∃ M, M = vs.length := ⟨_, rfl⟩
  have HNL := Lib.hid hN
  have HML := Lib.hid hM
  have HK := Lib.hid hK
  have k63 : KV ≤ 9223372036854775807 := by rw [hK]; exact hin.2.1
  obtain ⟨E, hE⟩ : ∃ x, x = tmE (form_none ps && poss_count st) [⟨⟨#[97]⟩, ⟨#[98, 105, 110, 97, 114, 121]⟩⟩, ⟨⟨#[114, 101, 115, 101, 116]⟩, ⟨#[98, 105, 110, 97, 114, 121]⟩⟩] vs V dt := ⟨_, rfl⟩
  have HE := Lib.hid hE
  obtain ⟨F, hFF⟩ : ∃ x, x = form_none ps := ⟨_, rfl⟩
  rw [← hE, ← hN, ← hM, ← hK]
  rw [← hN, ← hFF] at KF
  rw [← hK] at KT
  clear hps hst hin hV hN hM hK hE
  cases F
  · have HF := Lib.hid hFF.symm
    clear hFF
    go_enter Tryd.func23, Tryd.ntmps23
    go_wp2_with fail
    refine (rknown_any ⟨#[99, 111, 117, 110, 116]⟩ w).mono ?_
    rintro e w1 ⟨rfl, hb⟩
    have HB1 := Lib.hid hb
    clear hb
    rw [show (timerNames.any fun x => eqS x ⟨#[99, 111, 117, 110, 116]⟩) = true by decide +kernel]
    go_wp2_with fail
    refine (KF.out w1 HB1.out).mono ?_
    rintro e w2 ⟨rfl, hb⟩
    have HB2 := Lib.hid (HB1.out.trans (hb.mono HB1.out.size))
    clear hb
    go_wp2_with fail
    go_ret
    exact ⟨by rw [HE.out]; unfold tmE; rw [if_pos (.inl (by rw [HF.out]; rfl))]; first | done | rfl, HB2.out⟩
  · have hF := hFF.symm
    clear hFF
    obtain ⟨rfl, hrng⟩ := form_none_at hF
    have KP := Lib.hid (fun (W : World) (hb : Below w.heap.size w W) => rposs_count (.slice pa 0 pc) sa sc st W (HST.out.keep hb))
    obtain ⟨PB, hPB⟩ : ∃ x, x = poss_count st := ⟨_, rfl⟩
    have HE2 : E = tmE (true && PB) [⟨⟨#[97]⟩, ⟨#[98, 105, 110, 97, 114, 121]⟩⟩, ⟨⟨#[114, 101, 115, 101, 116]⟩, ⟨#[98, 105, 110, 97, 114, 121]⟩⟩] vs V dt := by rw [HE.out, show form_none [] = true from hF]; rw [hPB]; first | done | rfl
    rw [← HML.out, ← hPB] at KP
    clear hPB HE  
    obtain rfl : N = 0 := HNL.out
    have HE := Lib.hid HE2
    clear HE2
    cases PB
    · go_enter Tryd.func23, Tryd.ntmps23
      go_wp2_with fail
      refine (rknown_any ⟨#[99, 111, 117, 110, 116]⟩ w).mono ?_
      rintro e w1 ⟨rfl, hb⟩
      have HB1 := Lib.hid hb
      clear hb
      rw [show (timerNames.any fun x => eqS x ⟨#[99, 111, 117, 110, 116]⟩) = true by decide +kernel]
      go_wp2_with fail
      refine (KF.out w1 HB1.out).mono ?_
      rintro e w2 ⟨rfl, hb⟩
      have HB2 := Lib.hid (HB1.out.trans (hb.mono HB1.out.size))
      clear hb
      go_wp2_with fail
      refine (KP.out w2 HB2.out).mono ?_
      rintro e w3 ⟨rfl, hb⟩
      have HB3 := Lib.hid (HB2.out.trans (hb.mono HB2.out.size))
      clear hb
      go_wp2_with fail
      go_ret
      exact ⟨by rw [HE.out]; unfold tmE; rw [if_pos (.inl rfl)]; first | done | rfl, HB3.out⟩
    · by_cases h1 : dt < 1
      · go_enter Tryd.func23, Tryd.ntmps23
        go_wp2_with fail
        refine (rknown_any ⟨#[99, 111, 117, 110, 116]⟩ w).mono ?_
        rintro e w1 ⟨rfl, hb⟩
        have HB1 := Lib.hid hb
        clear hb
        rw [show (timerNames.any fun x => eqS x ⟨#[99, 111, 117, 110, 116]⟩) = true by decide +kernel]
        go_wp2_with fail
        refine (KF.out w1 HB1.out).mono ?_
        rintro e w2 ⟨rfl, hb⟩
        have HB2 := Lib.hid (HB1.out.trans (hb.mono HB1.out.size))
        clear hb
        go_wp2_with fail
        refine (KP.out w2 HB2.out).mono ?_
        rintro e w3 ⟨rfl, hb⟩
        have HB3 := Lib.hid (HB2.out.trans (hb.mono HB2.out.size))
        clear hb
        go_wp2_with fail
        go_ret
        exact ⟨by rw [HE.out]; unfold tmE; rw [if_pos (.inr (.inl (inZ_no (by omega))))]; first | done | rfl, HB3.out⟩
      · by_cases h2 : 86400 < dt
        · go_enter Tryd.func23, Tryd.ntmps23
          go_wp2_with fail
          refine (rknown_any ⟨#[99, 111, 117, 110, 116]⟩ w).mono ?_
          rintro e w1 ⟨rfl, hb⟩
          have HB1 := Lib.hid hb
          clear hb
          rw [show (timerNames.any fun x => eqS x ⟨#[99, 111, 117, 110, 116]⟩) = true by decide +kernel]
          go_wp2_with fail
          refine (KF.out w1 HB1.out).mono ?_
          rintro e w2 ⟨rfl, hb⟩
          have HB2 := Lib.hid (HB1.out.trans (hb.mono HB1.out.size))
          clear hb
          go_wp2_with fail
          refine (KP.out w2 HB2.out).mono ?_
          rintro e w3 ⟨rfl, hb⟩
          have HB3 := Lib.hid (HB2.out.trans (hb.mono HB2.out.size))
          clear hb
          go_wp2_with fail
          go_ret
          exact ⟨by rw [HE.out]; unfold tmE; rw [if_pos (.inr (.inl (inZ_no (by omega))))]; first | done | rfl, HB3.out⟩
        · by_cases h3 : KV = 2
          · subst h3
            cases V
            · go_enter Tryd.func23, Tryd.ntmps23
              go_wp2_with fail
              refine (rknown_any ⟨#[99, 111, 117, 110, 116]⟩ w).mono ?_
              rintro e w1 ⟨rfl, hb⟩
              have HB1 := Lib.hid hb
              clear hb
              rw [show (timerNames.any fun x => eqS x ⟨#[99, 111, 117, 110, 116]⟩) = true by decide +kernel]
              go_wp2_with fail
              refine (KF.out w1 HB1.out).mono ?_
              rintro e w2 ⟨rfl, hb⟩
              have HB2 := Lib.hid (HB1.out.trans (hb.mono HB1.out.size))
              clear hb
              go_wp2_with fail
              refine (KP.out w2 HB2.out).mono ?_
              rintro e w3 ⟨rfl, hb⟩
              have HB3 := Lib.hid (HB2.out.trans (hb.mono HB2.out.size))
              clear hb
              go_wp2_with fail
              refine (rCount_count _).mono ?_
              rintro e w4 ⟨rfl, rfl⟩
              go_wp2_with fail
              refine (KT.out w3 HB3.out).mono ?_
              rintro e w4 ⟨rfl, hb⟩
              have HB4 := Lib.hid (HB3.out.trans (hb.mono HB3.out.size))
              clear hb
              go_wp2_with fail
              go_ret
              exact ⟨by rw [HE.out]; unfold tmE; rw [if_neg (fun h => by rcases h with h | h | h; exact absurd h (by decide); rw [inZ_yes (by omega) (by omega)] at h; cases h; exact h (by rw [← HK.out]; rfl)), if_pos rfl]; first | done | rfl, HB4.out⟩
            · go_enter Tryd.func23, Tryd.ntmps23
              go_wp2_with fail
              refine (rknown_any ⟨#[99, 111, 117, 110, 116]⟩ w).mono ?_
              rintro e w1 ⟨rfl, hb⟩
              have HB1 := Lib.hid hb
              clear hb
              rw [show (timerNames.any fun x => eqS x ⟨#[99, 111, 117, 110, 116]⟩) = true by decide +kernel]
              go_wp2_with fail
              refine (KF.out w1 HB1.out).mono ?_
              rintro e w2 ⟨rfl, hb⟩
              have HB2 := Lib.hid (HB1.out.trans (hb.mono HB1.out.size))
              clear hb
              go_wp2_with fail
              refine (KP.out w2 HB2.out).mono ?_
              rintro e w3 ⟨rfl, hb⟩
              have HB3 := Lib.hid (HB2.out.trans (hb.mono HB2.out.size))
              clear hb
              go_wp2_with fail
              refine (rCount_count _).mono ?_
              rintro e w4 ⟨rfl, rfl⟩
              go_wp2_with fail
              refine (KT.out w3 HB3.out).mono ?_
              rintro e w4 ⟨rfl, hb⟩
              have HB4 := Lib.hid (HB3.out.trans (hb.mono HB3.out.size))
              clear hb
              go_wp2_with fail
              go_ret
              exact ⟨by rw [HE.out]; unfold tmE; rw [if_neg (fun h => by rcases h with h | h | h; exact absurd h (by decide); rw [inZ_yes (by omega) (by omega)] at h; cases h; exact h (by rw [← HK.out]; rfl)), if_neg (by decide)]; first | done | rfl, HB4.out⟩
          · have h4 : ((KV : Int) != 2) = true := by rw [bne_iff_ne]; omega
            have H3 := Lib.hid h3
            clear h3
            go_enter Tryd.func23, Tryd.ntmps23
            go_wp2_with fail
            refine (rknown_any ⟨#[99, 111, 117, 110, 116]⟩ w).mono ?_
            rintro e w1 ⟨rfl, hb⟩
            have HB1 := Lib.hid hb
            clear hb
            rw [show (timerNames.any fun x => eqS x ⟨#[99, 111, 117, 110, 116]⟩) = true by decide +kernel]
            go_wp2_with fail
            refine (KF.out w1 HB1.out).mono ?_
            rintro e w2 ⟨rfl, hb⟩
            have HB2 := Lib.hid (HB1.out.trans (hb.mono HB1.out.size))
            clear hb
            go_wp2_with fail
            refine (KP.out w2 HB2.out).mono ?_
            rintro e w3 ⟨rfl, hb⟩
            have HB3 := Lib.hid (HB2.out.trans (hb.mono HB2.out.size))
            clear hb
            go_wp2_with fail
            refine (rCount_count _).mono ?_
            rintro e w4 ⟨rfl, rfl⟩
            go_wp2_with fail
            go_ret
            exact ⟨by rw [HE.out]; unfold tmE; rw [if_pos (.inr (.inr (fun h => H3.out (by rw [HK.out, h]; rfl))))]; first | done | rfl, HB3.out⟩
set_option maxHeartbeats 4000000 in
set_option maxRecDepth 100000 in
theorem rcheck_edge (pa sa va : Option Addr) (pc sc vc : Nat) (ps st : List Int) (vs : List ValD) (V : Bool) (dt : Int) (w : World) (hps : InS w pa ps.length 1 (flat iL ps)) (hst : InS w sa st.length 1 (flat iL st)) (hin : InS w va vs.length 2 (flat valL vs)) (hV : V = true ↔ ∀ v ∈ vs, fitsB v.k v.n 2 = true) :
    Calls Tryd.prog 23 #[.string ⟨#[101, 100, 103, 101]⟩, .slice pa ps.length pc, .slice sa st.length sc, .slice va vs.length vc, .int .i64 dt] w fun e w' => e = .returned (.int .i64 (tmE (form_none ps && poss_edge st) [⟨⟨#[97]⟩, ⟨#[98, 105, 110, 97, 114, 121]⟩⟩] vs V dt)) ∧ Below w.heap.size w w' := by
  have KF := Lib.hid (fun (W : World) (hb : Below w.heap.size w W) => rformed_edge pa pc ps W (hps.keep hb))
  have KT := Lib.hid (fun (W : World) (hb : Below w.heap.size w W) => rtyped_edge va vc vs V W (hin.keep hb) hV)
  have HPS := Lib.hid hps
  have HST := Lib.hid hst
  obtain ⟨N, hN⟩ : ∃ M, M = ps.length := ⟨_, rfl⟩
  obtain ⟨M, hM⟩ : ∃ M, M = st.length := ⟨_, rfl⟩
  obtain ⟨KV, hK⟩ : ∃ M, M = vs.length := ⟨_, rfl⟩
  have HNL := Lib.hid hN
  have HML := Lib.hid hM
  have HK := Lib.hid hK
  have k63 : KV ≤ 9223372036854775807 := by rw [hK]; exact hin.2.1
  obtain ⟨E, hE⟩ : ∃ x, x = tmE (form_none ps && poss_edge st) [⟨⟨#[97]⟩, ⟨#[98, 105, 110, 97, 114, 121]⟩⟩] vs V dt := ⟨_, rfl⟩
  have HE := Lib.hid hE
  obtain ⟨F, hFF⟩ : ∃ x, x = form_none ps := ⟨_, rfl⟩
  rw [← hE, ← hN, ← hM, ← hK]
  rw [← hN, ← hFF] at KF
  rw [← hK] at KT
  clear hps hst hin hV hN hM hK hE
  cases F
  · have HF := Lib.hid hFF.symm
    clear hFF
    go_enter Tryd.func23, Tryd.ntmps23
    go_wp2_with fail
    refine (rknown_any ⟨#[101, 100, 103, 101]⟩ w).mono ?_
    rintro e w1 ⟨rfl, hb⟩
    have HB1 := Lib.hid hb
    clear hb
    rw [show (timerNames.any fun x => eqS x ⟨#[101, 100, 103, 101]⟩) = true by decide +kernel]
    go_wp2_with fail
    refine (KF.out w1 HB1.out).mono ?_
    rintro e w2 ⟨rfl, hb⟩
    have HB2 := Lib.hid (HB1.out.trans (hb.mono HB1.out.size))
    clear hb
    go_wp2_with fail
    go_ret
    exact ⟨by rw [HE.out]; unfold tmE; rw [if_pos (.inl (by rw [HF.out]; rfl))]; first | done | rfl, HB2.out⟩
  · have hF := hFF.symm
    clear hFF
    obtain ⟨rfl, hrng⟩ := form_none_at hF
    have KP := Lib.hid (fun (W : World) (hb : Below w.heap.size w W) => rposs_edge (.slice pa 0 pc) sa sc st W (HST.out.keep hb))
    obtain ⟨PB, hPB⟩ : ∃ x, x = poss_edge st := ⟨_, rfl⟩
    have HE2 : E = tmE (true && PB) [⟨⟨#[97]⟩, ⟨#[98, 105, 110, 97, 114, 121]⟩⟩] vs V dt := by rw [HE.out, show form_none [] = true from hF]; rw [hPB]; first | done | rfl
    rw [← HML.out, ← hPB] at KP
    clear hPB HE  
    obtain rfl : N = 0 := HNL.out
    have HE := Lib.hid HE2
    clear HE2
    cases PB
    · go_enter Tryd.func23, Tryd.ntmps23
      go_wp2_with fail
      refine (rknown_any ⟨#[101, 100, 103, 101]⟩ w).mono ?_
      rintro e w1 ⟨rfl, hb⟩
      have HB1 := Lib.hid hb
      clear hb
      rw [show (timerNames.any fun x => eqS x ⟨#[101, 100, 103, 101]⟩) = true by decide +kernel]
      go_wp2_with fail
      refine (KF.out w1 HB1.out).mono ?_
      rintro e w2 ⟨rfl, hb⟩
      have HB2 := Lib.hid (HB1.out.trans (hb.mono HB1.out.size))
      clear hb
      go_wp2_with fail
      refine (KP.out w2 HB2.out).mono ?_
      rintro e w3 ⟨rfl, hb⟩
      have HB3 := Lib.hid (HB2.out.trans (hb.mono HB2.out.size))
      clear hb
      go_wp2_with fail
      go_ret
      exact ⟨by rw [HE.out]; unfold tmE; rw [if_pos (.inl rfl)]; first | done | rfl, HB3.out⟩
    · by_cases h1 : dt < 1
      · go_enter Tryd.func23, Tryd.ntmps23
        go_wp2_with fail
        refine (rknown_any ⟨#[101, 100, 103, 101]⟩ w).mono ?_
        rintro e w1 ⟨rfl, hb⟩
        have HB1 := Lib.hid hb
        clear hb
        rw [show (timerNames.any fun x => eqS x ⟨#[101, 100, 103, 101]⟩) = true by decide +kernel]
        go_wp2_with fail
        refine (KF.out w1 HB1.out).mono ?_
        rintro e w2 ⟨rfl, hb⟩
        have HB2 := Lib.hid (HB1.out.trans (hb.mono HB1.out.size))
        clear hb
        go_wp2_with fail
        refine (KP.out w2 HB2.out).mono ?_
        rintro e w3 ⟨rfl, hb⟩
        have HB3 := Lib.hid (HB2.out.trans (hb.mono HB2.out.size))
        clear hb
        go_wp2_with fail
        go_ret
        exact ⟨by rw [HE.out]; unfold tmE; rw [if_pos (.inr (.inl (inZ_no (by omega))))]; first | done | rfl, HB3.out⟩
      · by_cases h2 : 86400 < dt
        · go_enter Tryd.func23, Tryd.ntmps23
          go_wp2_with fail
          refine (rknown_any ⟨#[101, 100, 103, 101]⟩ w).mono ?_
          rintro e w1 ⟨rfl, hb⟩
          have HB1 := Lib.hid hb
          clear hb
          rw [show (timerNames.any fun x => eqS x ⟨#[101, 100, 103, 101]⟩) = true by decide +kernel]
          go_wp2_with fail
          refine (KF.out w1 HB1.out).mono ?_
          rintro e w2 ⟨rfl, hb⟩
          have HB2 := Lib.hid (HB1.out.trans (hb.mono HB1.out.size))
          clear hb
          go_wp2_with fail
          refine (KP.out w2 HB2.out).mono ?_
          rintro e w3 ⟨rfl, hb⟩
          have HB3 := Lib.hid (HB2.out.trans (hb.mono HB2.out.size))
          clear hb
          go_wp2_with fail
          go_ret
          exact ⟨by rw [HE.out]; unfold tmE; rw [if_pos (.inr (.inl (inZ_no (by omega))))]; first | done | rfl, HB3.out⟩
        · by_cases h3 : KV = 1
          · subst h3
            cases V
            · go_enter Tryd.func23, Tryd.ntmps23
              go_wp2_with fail
              refine (rknown_any ⟨#[101, 100, 103, 101]⟩ w).mono ?_
              rintro e w1 ⟨rfl, hb⟩
              have HB1 := Lib.hid hb
              clear hb
              rw [show (timerNames.any fun x => eqS x ⟨#[101, 100, 103, 101]⟩) = true by decide +kernel]
              go_wp2_with fail
              refine (KF.out w1 HB1.out).mono ?_
              rintro e w2 ⟨rfl, hb⟩
              have HB2 := Lib.hid (HB1.out.trans (hb.mono HB1.out.size))
              clear hb
              go_wp2_with fail
              refine (KP.out w2 HB2.out).mono ?_
              rintro e w3 ⟨rfl, hb⟩
              have HB3 := Lib.hid (HB2.out.trans (hb.mono HB2.out.size))
              clear hb
              go_wp2_with fail
              refine (rCount_edge _).mono ?_
              rintro e w4 ⟨rfl, rfl⟩
              go_wp2_with fail
              refine (KT.out w3 HB3.out).mono ?_
              rintro e w4 ⟨rfl, hb⟩
              have HB4 := Lib.hid (HB3.out.trans (hb.mono HB3.out.size))
              clear hb
              go_wp2_with fail
              go_ret
              exact ⟨by rw [HE.out]; unfold tmE; rw [if_neg (fun h => by rcases h with h | h | h; exact absurd h (by decide); rw [inZ_yes (by omega) (by omega)] at h; cases h; exact h (by rw [← HK.out]; rfl)), if_pos rfl]; first | done | rfl, HB4.out⟩
            · go_enter Tryd.func23, Tryd.ntmps23
              go_wp2_with fail
              refine (rknown_any ⟨#[101, 100, 103, 101]⟩ w).mono ?_
              rintro e w1 ⟨rfl, hb⟩
              have HB1 := Lib.hid hb
              clear hb
              rw [show (timerNames.any fun x => eqS x ⟨#[101, 100, 103, 101]⟩) = true by decide +kernel]
              go_wp2_with fail
              refine (KF.out w1 HB1.out).mono ?_
              rintro e w2 ⟨rfl, hb⟩
              have HB2 := Lib.hid (HB1.out.trans (hb.mono HB1.out.size))
              clear hb
              go_wp2_with fail
              refine (KP.out w2 HB2.out).mono ?_
              rintro e w3 ⟨rfl, hb⟩
              have HB3 := Lib.hid (HB2.out.trans (hb.mono HB2.out.size))
              clear hb
              go_wp2_with fail
              refine (rCount_edge _).mono ?_
              rintro e w4 ⟨rfl, rfl⟩
              go_wp2_with fail
              refine (KT.out w3 HB3.out).mono ?_
              rintro e w4 ⟨rfl, hb⟩
              have HB4 := Lib.hid (HB3.out.trans (hb.mono HB3.out.size))
              clear hb
              go_wp2_with fail
              go_ret
              exact ⟨by rw [HE.out]; unfold tmE; rw [if_neg (fun h => by rcases h with h | h | h; exact absurd h (by decide); rw [inZ_yes (by omega) (by omega)] at h; cases h; exact h (by rw [← HK.out]; rfl)), if_neg (by decide)]; first | done | rfl, HB4.out⟩
          · have h4 : ((KV : Int) != 1) = true := by rw [bne_iff_ne]; omega
            have H3 := Lib.hid h3
            clear h3
            go_enter Tryd.func23, Tryd.ntmps23
            go_wp2_with fail
            refine (rknown_any ⟨#[101, 100, 103, 101]⟩ w).mono ?_
            rintro e w1 ⟨rfl, hb⟩
            have HB1 := Lib.hid hb
            clear hb
            rw [show (timerNames.any fun x => eqS x ⟨#[101, 100, 103, 101]⟩) = true by decide +kernel]
            go_wp2_with fail
            refine (KF.out w1 HB1.out).mono ?_
            rintro e w2 ⟨rfl, hb⟩
            have HB2 := Lib.hid (HB1.out.trans (hb.mono HB1.out.size))
            clear hb
            go_wp2_with fail
            refine (KP.out w2 HB2.out).mono ?_
            rintro e w3 ⟨rfl, hb⟩
            have HB3 := Lib.hid (HB2.out.trans (hb.mono HB2.out.size))
            clear hb
            go_wp2_with fail
            refine (rCount_edge _).mono ?_
            rintro e w4 ⟨rfl, rfl⟩
            go_wp2_with fail
            go_ret
            exact ⟨by rw [HE.out]; unfold tmE; rw [if_pos (.inr (.inr (fun h => H3.out (by rw [HK.out, h]; rfl))))]; first | done | rfl, HB3.out⟩
set_option maxHeartbeats 4000000 in
set_option maxRecDepth 100000 in
theorem rcheck_hyst (pa sa va : Option Addr) (pc sc vc : Nat) (ps st : List Int) (vs : List ValD) (V : Bool) (dt : Int) (w : World) (hps : InS w pa ps.length 1 (flat iL ps)) (hst : InS w sa st.length 1 (flat iL st)) (hin : InS w va vs.length 2 (flat valL vs)) (hV : V = true ↔ ∀ v ∈ vs, fitsB v.k v.n 1 = true) :
    Calls Tryd.prog 23 #[.string ⟨#[104, 121, 115, 116]⟩, .slice pa ps.length pc, .slice sa st.length sc, .slice va vs.length vc, .int .i64 dt] w fun e w' => e = .returned (.int .i64 (tmE (form_hyst ps && poss_hyst (ps.getD 0 0) (ps.getD 1 0) st) [⟨⟨#[97]⟩, ⟨#[85]⟩⟩] vs V dt)) ∧ Below w.heap.size w w' := by
  have KF := Lib.hid (fun (W : World) (hb : Below w.heap.size w W) => rformed_hyst pa pc ps W (hps.keep hb))
  have KT := Lib.hid (fun (W : World) (hb : Below w.heap.size w W) => rtyped_hyst va vc vs V W (hin.keep hb) hV)
  have HPS := Lib.hid hps
  have HST := Lib.hid hst
  obtain ⟨N, hN⟩ : ∃ M, M = ps.length := ⟨_, rfl⟩
  obtain ⟨M, hM⟩ : ∃ M, M = st.length := ⟨_, rfl⟩
  obtain ⟨KV, hK⟩ : ∃ M, M = vs.length := ⟨_, rfl⟩
  have HNL := Lib.hid hN
  have HML := Lib.hid hM
  have HK := Lib.hid hK
  have k63 : KV ≤ 9223372036854775807 := by rw [hK]; exact hin.2.1
  obtain ⟨E, hE⟩ : ∃ x, x = tmE (form_hyst ps && poss_hyst (ps.getD 0 0) (ps.getD 1 0) st) [⟨⟨#[97]⟩, ⟨#[85]⟩⟩] vs V dt := ⟨_, rfl⟩
  have HE := Lib.hid hE
  obtain ⟨F, hFF⟩ : ∃ x, x = form_hyst ps := ⟨_, rfl⟩
  rw [← hE, ← hN, ← hM, ← hK]
  rw [← hN, ← hFF] at KF
  rw [← hK] at KT
  clear hps hst hin hV hN hM hK hE
  cases F
  · have HF := Lib.hid hFF.symm
    clear hFF
    go_enter Tryd.func23, Tryd.ntmps23
    go_wp2_with fail
    refine (rknown_any ⟨#[104, 121, 115, 116]⟩ w).mono ?_
    rintro e w1 ⟨rfl, hb⟩
    have HB1 := Lib.hid hb
    clear hb
    rw [show (timerNames.any fun x => eqS x ⟨#[104, 121, 115, 116]⟩) = true by decide +kernel]
    go_wp2_with fail
    refine (KF.out w1 HB1.out).mono ?_
    rintro e w2 ⟨rfl, hb⟩
    have HB2 := Lib.hid (HB1.out.trans (hb.mono HB1.out.size))
    clear hb
    go_wp2_with fail
    go_ret
    exact ⟨by rw [HE.out]; unfold tmE; rw [if_pos (.inl (by rw [HF.out]; rfl))]; first | done | rfl, HB2.out⟩
  · have hF := hFF.symm
    clear hFF
    obtain ⟨p0, p1, rfl, hrng⟩ := form_hyst_at hF
    obtain ⟨pb, po, rfl, hpl, hpc⟩ := (show InS w pa 2 1 (flat iL [p0, p1]) from HPS.out).at (xs := [p0, p1]) iL_len (by simp)
    have q0 : w.cell? ⟨pb, po, none⟩ = some (.int .i64 p0) := by have h := hpc 0 _ rfl 0 _ rfl; simpa using h
    have q1 : w.cell? ⟨pb, po + 1, none⟩ = some (.int .i64 p1) := by have h := hpc 1 _ rfl 0 _ rfl; simpa using h
    have KP := Lib.hid (fun (W : World) (hb : Below w.heap.size w W) => rposs_hyst pb po pc p0 p1 sa sc st W (cellB q0 hb) (cellB q1 hb) (HST.out.keep hb))
    obtain ⟨PB, hPB⟩ : ∃ x, x = poss_hyst p0 p1 st := ⟨_, rfl⟩
    have HE2 : E = tmE (true && PB) [⟨⟨#[97]⟩, ⟨#[85]⟩⟩] vs V dt := by rw [HE.out, show form_hyst [p0, p1] = true from hF]; rw [hPB]; first | done | rfl
    rw [← HML.out, ← hPB] at KP
    clear hPB HE hpl hpc q0 q1 
    obtain rfl : N = 2 := HNL.out
    have HE := Lib.hid HE2
    clear HE2
    cases PB
    · go_enter Tryd.func23, Tryd.ntmps23
      go_wp2_with fail
      refine (rknown_any ⟨#[104, 121, 115, 116]⟩ w).mono ?_
      rintro e w1 ⟨rfl, hb⟩
      have HB1 := Lib.hid hb
      clear hb
      rw [show (timerNames.any fun x => eqS x ⟨#[104, 121, 115, 116]⟩) = true by decide +kernel]
      go_wp2_with fail
      refine (KF.out w1 HB1.out).mono ?_
      rintro e w2 ⟨rfl, hb⟩
      have HB2 := Lib.hid (HB1.out.trans (hb.mono HB1.out.size))
      clear hb
      go_wp2_with fail
      refine (KP.out w2 HB2.out).mono ?_
      rintro e w3 ⟨rfl, hb⟩
      have HB3 := Lib.hid (HB2.out.trans (hb.mono HB2.out.size))
      clear hb
      go_wp2_with fail
      go_ret
      exact ⟨by rw [HE.out]; unfold tmE; rw [if_pos (.inl rfl)]; first | done | rfl, HB3.out⟩
    · by_cases h1 : dt < 1
      · go_enter Tryd.func23, Tryd.ntmps23
        go_wp2_with fail
        refine (rknown_any ⟨#[104, 121, 115, 116]⟩ w).mono ?_
        rintro e w1 ⟨rfl, hb⟩
        have HB1 := Lib.hid hb
        clear hb
        rw [show (timerNames.any fun x => eqS x ⟨#[104, 121, 115, 116]⟩) = true by decide +kernel]
        go_wp2_with fail
        refine (KF.out w1 HB1.out).mono ?_
        rintro e w2 ⟨rfl, hb⟩
        have HB2 := Lib.hid (HB1.out.trans (hb.mono HB1.out.size))
        clear hb
        go_wp2_with fail
        refine (KP.out w2 HB2.out).mono ?_
        rintro e w3 ⟨rfl, hb⟩
        have HB3 := Lib.hid (HB2.out.trans (hb.mono HB2.out.size))
        clear hb
        go_wp2_with fail
        go_ret
        exact ⟨by rw [HE.out]; unfold tmE; rw [if_pos (.inr (.inl (inZ_no (by omega))))]; first | done | rfl, HB3.out⟩
      · by_cases h2 : 86400 < dt
        · go_enter Tryd.func23, Tryd.ntmps23
          go_wp2_with fail
          refine (rknown_any ⟨#[104, 121, 115, 116]⟩ w).mono ?_
          rintro e w1 ⟨rfl, hb⟩
          have HB1 := Lib.hid hb
          clear hb
          rw [show (timerNames.any fun x => eqS x ⟨#[104, 121, 115, 116]⟩) = true by decide +kernel]
          go_wp2_with fail
          refine (KF.out w1 HB1.out).mono ?_
          rintro e w2 ⟨rfl, hb⟩
          have HB2 := Lib.hid (HB1.out.trans (hb.mono HB1.out.size))
          clear hb
          go_wp2_with fail
          refine (KP.out w2 HB2.out).mono ?_
          rintro e w3 ⟨rfl, hb⟩
          have HB3 := Lib.hid (HB2.out.trans (hb.mono HB2.out.size))
          clear hb
          go_wp2_with fail
          go_ret
          exact ⟨by rw [HE.out]; unfold tmE; rw [if_pos (.inr (.inl (inZ_no (by omega))))]; first | done | rfl, HB3.out⟩
        · by_cases h3 : KV = 1
          · subst h3
            cases V
            · go_enter Tryd.func23, Tryd.ntmps23
              go_wp2_with fail
              refine (rknown_any ⟨#[104, 121, 115, 116]⟩ w).mono ?_
              rintro e w1 ⟨rfl, hb⟩
              have HB1 := Lib.hid hb
              clear hb
              rw [show (timerNames.any fun x => eqS x ⟨#[104, 121, 115, 116]⟩) = true by decide +kernel]
              go_wp2_with fail
              refine (KF.out w1 HB1.out).mono ?_
              rintro e w2 ⟨rfl, hb⟩
              have HB2 := Lib.hid (HB1.out.trans (hb.mono HB1.out.size))
              clear hb
              go_wp2_with fail
              refine (KP.out w2 HB2.out).mono ?_
              rintro e w3 ⟨rfl, hb⟩
              have HB3 := Lib.hid (HB2.out.trans (hb.mono HB2.out.size))
              clear hb
              go_wp2_with fail
              refine (rCount_hyst _).mono ?_
              rintro e w4 ⟨rfl, rfl⟩
              go_wp2_with fail
              refine (KT.out w3 HB3.out).mono ?_
              rintro e w4 ⟨rfl, hb⟩
              have HB4 := Lib.hid (HB3.out.trans (hb.mono HB3.out.size))
              clear hb
              go_wp2_with fail
              go_ret
              exact ⟨by rw [HE.out]; unfold tmE; rw [if_neg (fun h => by rcases h with h | h | h; exact absurd h (by decide); rw [inZ_yes (by omega) (by omega)] at h; cases h; exact h (by rw [← HK.out]; rfl)), if_pos rfl]; first | done | rfl, HB4.out⟩
            · go_enter Tryd.func23, Tryd.ntmps23
              go_wp2_with fail
              refine (rknown_any ⟨#[104, 121, 115, 116]⟩ w).mono ?_
              rintro e w1 ⟨rfl, hb⟩
              have HB1 := Lib.hid hb
              clear hb
              rw [show (timerNames.any fun x => eqS x ⟨#[104, 121, 115, 116]⟩) = true by decide +kernel]
              go_wp2_with fail
              refine (KF.out w1 HB1.out).mono ?_
              rintro e w2 ⟨rfl, hb⟩
              have HB2 := Lib.hid (HB1.out.trans (hb.mono HB1.out.size))
              clear hb
              go_wp2_with fail
              refine (KP.out w2 HB2.out).mono ?_
              rintro e w3 ⟨rfl, hb⟩
              have HB3 := Lib.hid (HB2.out.trans (hb.mono HB2.out.size))
              clear hb
              go_wp2_with fail
              refine (rCount_hyst _).mono ?_
              rintro e w4 ⟨rfl, rfl⟩
              go_wp2_with fail
              refine (KT.out w3 HB3.out).mono ?_
              rintro e w4 ⟨rfl, hb⟩
              have HB4 := Lib.hid (HB3.out.trans (hb.mono HB3.out.size))
              clear hb
              go_wp2_with fail
              go_ret
              exact ⟨by rw [HE.out]; unfold tmE; rw [if_neg (fun h => by rcases h with h | h | h; exact absurd h (by decide); rw [inZ_yes (by omega) (by omega)] at h; cases h; exact h (by rw [← HK.out]; rfl)), if_neg (by decide)]; first | done | rfl, HB4.out⟩
          · have h4 : ((KV : Int) != 1) = true := by rw [bne_iff_ne]; omega
            have H3 := Lib.hid h3
            clear h3
            go_enter Tryd.func23, Tryd.ntmps23
            go_wp2_with fail
            refine (rknown_any ⟨#[104, 121, 115, 116]⟩ w).mono ?_
            rintro e w1 ⟨rfl, hb⟩
            have HB1 := Lib.hid hb
            clear hb
            rw [show (timerNames.any fun x => eqS x ⟨#[104, 121, 115, 116]⟩) = true by decide +kernel]
            go_wp2_with fail
            refine (KF.out w1 HB1.out).mono ?_
            rintro e w2 ⟨rfl, hb⟩
            have HB2 := Lib.hid (HB1.out.trans (hb.mono HB1.out.size))
            clear hb
            go_wp2_with fail
            refine (KP.out w2 HB2.out).mono ?_
            rintro e w3 ⟨rfl, hb⟩
            have HB3 := Lib.hid (HB2.out.trans (hb.mono HB2.out.size))
            clear hb
            go_wp2_with fail
            refine (rCount_hyst _).mono ?_
            rintro e w4 ⟨rfl, rfl⟩
            go_wp2_with fail
            go_ret
            exact ⟨by rw [HE.out]; unfold tmE; rw [if_pos (.inr (.inr (fun h => H3.out (by rw [HK.out, h]; rfl))))]; first | done | rfl, HB3.out⟩
set_option maxHeartbeats 4000000 in
set_option maxRecDepth 100000 in
theorem rcheck_latch (pa sa va : Option Addr) (pc sc vc : Nat) (ps st : List Int) (vs : List ValD) (V : Bool) (dt : Int) (w : World) (hps : InS w pa ps.length 1 (flat iL ps)) (hst : InS w sa st.length 1 (flat iL st)) (hin : InS w va vs.length 2 (flat valL vs)) (hV : V = true ↔ ∀ v ∈ vs, fitsB v.k v.n 2 = true) :
    Calls Tryd.prog 23 #[.string ⟨#[108, 97, 116, 99, 104]⟩, .slice pa ps.length pc, .slice sa st.length sc, .slice va vs.length vc, .int .i64 dt] w fun e w' => e = .returned (.int .i64 (tmE (form_none ps && poss_latch st) [⟨⟨#[115, 101, 116]⟩, ⟨#[98, 105, 110, 97, 114, 121]⟩⟩, ⟨⟨#[114, 101, 115, 101, 116]⟩, ⟨#[98, 105, 110, 97, 114, 121]⟩⟩] vs V dt)) ∧ Below w.heap.size w w' := by
  have KF := Lib.hid (fun (W : World) (hb : Below w.heap.size w W) => rformed_latch pa pc ps W (hps.keep hb))
  have KT := Lib.hid (fun (W : World) (hb : Below w.heap.size w W) => rtyped_latch va vc vs V W (hin.keep hb) hV)
  have HPS := Lib.hid hps
  have HST := Lib.hid hst
  obtain ⟨N, hN⟩ : ∃ M, M = ps.length := ⟨_, rfl⟩
  obtain ⟨M, hM⟩ : ∃ M, M = st.length := ⟨_, rfl⟩
  obtain ⟨KV, hK⟩ : ∃ M, M = vs.length := ⟨_, rfl⟩
  have HNL := Lib.hid hN
  have HML := Lib.hid hM
  have HK := Lib.hid hK
  have k63 : KV ≤ 9223372036854775807 := by rw [hK]; exact hin.2.1
  obtain ⟨E, hE⟩ : ∃ x, x = tmE (form_none ps && poss_latch st) [⟨⟨#[115, 101, 116]⟩, ⟨#[98, 105, 110, 97, 114, 121]⟩⟩, ⟨⟨#[114, 101, 115, 101, 116]⟩, ⟨#[98, 105, 110, 97, 114, 121]⟩⟩] vs V dt := ⟨_, rfl⟩
  have HE := Lib.hid hE
  obtain ⟨F, hFF⟩ : ∃ x, x = form_none ps := ⟨_, rfl⟩
  rw [← hE, ← hN, ← hM, ← hK]
  rw [← hN, ← hFF] at KF
  rw [← hK] at KT
  clear hps hst hin hV hN hM hK hE
  cases F
  · have HF := Lib.hid hFF.symm
    clear hFF
    go_enter Tryd.func23, Tryd.ntmps23
    go_wp2_with fail
    refine (rknown_any ⟨#[108, 97, 116, 99, 104]⟩ w).mono ?_
    rintro e w1 ⟨rfl, hb⟩
    have HB1 := Lib.hid hb
    clear hb
    rw [show (timerNames.any fun x => eqS x ⟨#[108, 97, 116, 99, 104]⟩) = true by decide +kernel]
    go_wp2_with fail
    refine (KF.out w1 HB1.out).mono ?_
    rintro e w2 ⟨rfl, hb⟩
    have HB2 := Lib.hid (HB1.out.trans (hb.mono HB1.out.size))
    clear hb
    go_wp2_with fail
    go_ret
    exact ⟨by rw [HE.out]; unfold tmE; rw [if_pos (.inl (by rw [HF.out]; rfl))]; first | done | rfl, HB2.out⟩
  · have hF := hFF.symm
    clear hFF
    obtain ⟨rfl, hrng⟩ := form_none_at hF
    have KP := Lib.hid (fun (W : World) (hb : Below w.heap.size w W) => rposs_latch (.slice pa 0 pc) sa sc st W (HST.out.keep hb))
    obtain ⟨PB, hPB⟩ : ∃ x, x = poss_latch st := ⟨_, rfl⟩
    have HE2 : E = tmE (true && PB) [⟨⟨#[115, 101, 116]⟩, ⟨#[98, 105, 110, 97, 114, 121]⟩⟩, ⟨⟨#[114, 101, 115, 101, 116]⟩, ⟨#[98, 105, 110, 97, 114, 121]⟩⟩] vs V dt := by rw [HE.out, show form_none [] = true from hF]; rw [hPB]; first | done | rfl
    rw [← HML.out, ← hPB] at KP
    clear hPB HE  
    obtain rfl : N = 0 := HNL.out
    have HE := Lib.hid HE2
    clear HE2
    cases PB
    · go_enter Tryd.func23, Tryd.ntmps23
      go_wp2_with fail
      refine (rknown_any ⟨#[108, 97, 116, 99, 104]⟩ w).mono ?_
      rintro e w1 ⟨rfl, hb⟩
      have HB1 := Lib.hid hb
      clear hb
      rw [show (timerNames.any fun x => eqS x ⟨#[108, 97, 116, 99, 104]⟩) = true by decide +kernel]
      go_wp2_with fail
      refine (KF.out w1 HB1.out).mono ?_
      rintro e w2 ⟨rfl, hb⟩
      have HB2 := Lib.hid (HB1.out.trans (hb.mono HB1.out.size))
      clear hb
      go_wp2_with fail
      refine (KP.out w2 HB2.out).mono ?_
      rintro e w3 ⟨rfl, hb⟩
      have HB3 := Lib.hid (HB2.out.trans (hb.mono HB2.out.size))
      clear hb
      go_wp2_with fail
      go_ret
      exact ⟨by rw [HE.out]; unfold tmE; rw [if_pos (.inl rfl)]; first | done | rfl, HB3.out⟩
    · by_cases h1 : dt < 1
      · go_enter Tryd.func23, Tryd.ntmps23
        go_wp2_with fail
        refine (rknown_any ⟨#[108, 97, 116, 99, 104]⟩ w).mono ?_
        rintro e w1 ⟨rfl, hb⟩
        have HB1 := Lib.hid hb
        clear hb
        rw [show (timerNames.any fun x => eqS x ⟨#[108, 97, 116, 99, 104]⟩) = true by decide +kernel]
        go_wp2_with fail
        refine (KF.out w1 HB1.out).mono ?_
        rintro e w2 ⟨rfl, hb⟩
        have HB2 := Lib.hid (HB1.out.trans (hb.mono HB1.out.size))
        clear hb
        go_wp2_with fail
        refine (KP.out w2 HB2.out).mono ?_
        rintro e w3 ⟨rfl, hb⟩
        have HB3 := Lib.hid (HB2.out.trans (hb.mono HB2.out.size))
        clear hb
        go_wp2_with fail
        go_ret
        exact ⟨by rw [HE.out]; unfold tmE; rw [if_pos (.inr (.inl (inZ_no (by omega))))]; first | done | rfl, HB3.out⟩
      · by_cases h2 : 86400 < dt
        · go_enter Tryd.func23, Tryd.ntmps23
          go_wp2_with fail
          refine (rknown_any ⟨#[108, 97, 116, 99, 104]⟩ w).mono ?_
          rintro e w1 ⟨rfl, hb⟩
          have HB1 := Lib.hid hb
          clear hb
          rw [show (timerNames.any fun x => eqS x ⟨#[108, 97, 116, 99, 104]⟩) = true by decide +kernel]
          go_wp2_with fail
          refine (KF.out w1 HB1.out).mono ?_
          rintro e w2 ⟨rfl, hb⟩
          have HB2 := Lib.hid (HB1.out.trans (hb.mono HB1.out.size))
          clear hb
          go_wp2_with fail
          refine (KP.out w2 HB2.out).mono ?_
          rintro e w3 ⟨rfl, hb⟩
          have HB3 := Lib.hid (HB2.out.trans (hb.mono HB2.out.size))
          clear hb
          go_wp2_with fail
          go_ret
          exact ⟨by rw [HE.out]; unfold tmE; rw [if_pos (.inr (.inl (inZ_no (by omega))))]; first | done | rfl, HB3.out⟩
        · by_cases h3 : KV = 2
          · subst h3
            cases V
            · go_enter Tryd.func23, Tryd.ntmps23
              go_wp2_with fail
              refine (rknown_any ⟨#[108, 97, 116, 99, 104]⟩ w).mono ?_
              rintro e w1 ⟨rfl, hb⟩
              have HB1 := Lib.hid hb
              clear hb
              rw [show (timerNames.any fun x => eqS x ⟨#[108, 97, 116, 99, 104]⟩) = true by decide +kernel]
              go_wp2_with fail
              refine (KF.out w1 HB1.out).mono ?_
              rintro e w2 ⟨rfl, hb⟩
              have HB2 := Lib.hid (HB1.out.trans (hb.mono HB1.out.size))
              clear hb
              go_wp2_with fail
              refine (KP.out w2 HB2.out).mono ?_
              rintro e w3 ⟨rfl, hb⟩
              have HB3 := Lib.hid (HB2.out.trans (hb.mono HB2.out.size))
              clear hb
              go_wp2_with fail
              refine (rCount_latch _).mono ?_
              rintro e w4 ⟨rfl, rfl⟩
              go_wp2_with fail
              refine (KT.out w3 HB3.out).mono ?_
              rintro e w4 ⟨rfl, hb⟩
              have HB4 := Lib.hid (HB3.out.trans (hb.mono HB3.out.size))
              clear hb
              go_wp2_with fail
              go_ret
              exact ⟨by rw [HE.out]; unfold tmE; rw [if_neg (fun h => by rcases h with h | h | h; exact absurd h (by decide); rw [inZ_yes (by omega) (by omega)] at h; cases h; exact h (by rw [← HK.out]; rfl)), if_pos rfl]; first | done | rfl, HB4.out⟩
            · go_enter Tryd.func23, Tryd.ntmps23
              go_wp2_with fail
              refine (rknown_any ⟨#[108, 97, 116, 99, 104]⟩ w).mono ?_
              rintro e w1 ⟨rfl, hb⟩
              have HB1 := Lib.hid hb
              clear hb
              rw [show (timerNames.any fun x => eqS x ⟨#[108, 97, 116, 99, 104]⟩) = true by decide +kernel]
              go_wp2_with fail
              refine (KF.out w1 HB1.out).mono ?_
              rintro e w2 ⟨rfl, hb⟩
              have HB2 := Lib.hid (HB1.out.trans (hb.mono HB1.out.size))
              clear hb
              go_wp2_with fail
              refine (KP.out w2 HB2.out).mono ?_
              rintro e w3 ⟨rfl, hb⟩
              have HB3 := Lib.hid (HB2.out.trans (hb.mono HB2.out.size))
              clear hb
              go_wp2_with fail
              refine (rCount_latch _).mono ?_
              rintro e w4 ⟨rfl, rfl⟩
              go_wp2_with fail
              refine (KT.out w3 HB3.out).mono ?_
              rintro e w4 ⟨rfl, hb⟩
              have HB4 := Lib.hid (HB3.out.trans (hb.mono HB3.out.size))
              clear hb
              go_wp2_with fail
              go_ret
              exact ⟨by rw [HE.out]; unfold tmE; rw [if_neg (fun h => by rcases h with h | h | h; exact absurd h (by decide); rw [inZ_yes (by omega) (by omega)] at h; cases h; exact h (by rw [← HK.out]; rfl)), if_neg (by decide)]; first | done | rfl, HB4.out⟩
          · have h4 : ((KV : Int) != 2) = true := by rw [bne_iff_ne]; omega
            have H3 := Lib.hid h3
            clear h3
            go_enter Tryd.func23, Tryd.ntmps23
            go_wp2_with fail
            refine (rknown_any ⟨#[108, 97, 116, 99, 104]⟩ w).mono ?_
            rintro e w1 ⟨rfl, hb⟩
            have HB1 := Lib.hid hb
            clear hb
            rw [show (timerNames.any fun x => eqS x ⟨#[108, 97, 116, 99, 104]⟩) = true by decide +kernel]
            go_wp2_with fail
            refine (KF.out w1 HB1.out).mono ?_
            rintro e w2 ⟨rfl, hb⟩
            have HB2 := Lib.hid (HB1.out.trans (hb.mono HB1.out.size))
            clear hb
            go_wp2_with fail
            refine (KP.out w2 HB2.out).mono ?_
            rintro e w3 ⟨rfl, hb⟩
            have HB3 := Lib.hid (HB2.out.trans (hb.mono HB2.out.size))
            clear hb
            go_wp2_with fail
            refine (rCount_latch _).mono ?_
            rintro e w4 ⟨rfl, rfl⟩
            go_wp2_with fail
            go_ret
            exact ⟨by rw [HE.out]; unfold tmE; rw [if_pos (.inr (.inr (fun h => H3.out (by rw [HK.out, h]; rfl))))]; first | done | rfl, HB3.out⟩
set_option maxHeartbeats 4000000 in
set_option maxRecDepth 100000 in
theorem rcheck_minrun (pa sa va : Option Addr) (pc sc vc : Nat) (ps st : List Int) (vs : List ValD) (V : Bool) (dt : Int) (w : World) (hps : InS w pa ps.length 1 (flat iL ps)) (hst : InS w sa st.length 1 (flat iL st)) (hin : InS w va vs.length 2 (flat valL vs)) (hV : V = true ↔ ∀ v ∈ vs, fitsB v.k v.n 2 = true) :
    Calls Tryd.prog 23 #[.string ⟨#[109, 105, 110, 114, 117, 110]⟩, .slice pa ps.length pc, .slice sa st.length sc, .slice va vs.length vc, .int .i64 dt] w fun e w' => e = .returned (.int .i64 (tmE (form_mr ps && poss_minrun (ps.getD 0 0) (ps.getD 1 0) st) [⟨⟨#[97]⟩, ⟨#[98, 105, 110, 97, 114, 121]⟩⟩] vs V dt)) ∧ Below w.heap.size w w' := by
  have KF := Lib.hid (fun (W : World) (hb : Below w.heap.size w W) => rformed_minrun pa pc ps W (hps.keep hb))
  have KT := Lib.hid (fun (W : World) (hb : Below w.heap.size w W) => rtyped_minrun va vc vs V W (hin.keep hb) hV)
  have HPS := Lib.hid hps
  have HST := Lib.hid hst
  obtain ⟨N, hN⟩ : ∃ M, M = ps.length := ⟨_, rfl⟩
  obtain ⟨M, hM⟩ : ∃ M, M = st.length := ⟨_, rfl⟩
  obtain ⟨KV, hK⟩ : ∃ M, M = vs.length := ⟨_, rfl⟩
  have HNL := Lib.hid hN
  have HML := Lib.hid hM
  have HK := Lib.hid hK
  have k63 : KV ≤ 9223372036854775807 := by rw [hK]; exact hin.2.1
  obtain ⟨E, hE⟩ : ∃ x, x = tmE (form_mr ps && poss_minrun (ps.getD 0 0) (ps.getD 1 0) st) [⟨⟨#[97]⟩, ⟨#[98, 105, 110, 97, 114, 121]⟩⟩] vs V dt := ⟨_, rfl⟩
  have HE := Lib.hid hE
  obtain ⟨F, hFF⟩ : ∃ x, x = form_mr ps := ⟨_, rfl⟩
  rw [← hE, ← hN, ← hM, ← hK]
  rw [← hN, ← hFF] at KF
  rw [← hK] at KT
  clear hps hst hin hV hN hM hK hE
  cases F
  · have HF := Lib.hid hFF.symm
    clear hFF
    go_enter Tryd.func23, Tryd.ntmps23
    go_wp2_with fail
    refine (rknown_any ⟨#[109, 105, 110, 114, 117, 110]⟩ w).mono ?_
    rintro e w1 ⟨rfl, hb⟩
    have HB1 := Lib.hid hb
    clear hb
    rw [show (timerNames.any fun x => eqS x ⟨#[109, 105, 110, 114, 117, 110]⟩) = true by decide +kernel]
    go_wp2_with fail
    refine (KF.out w1 HB1.out).mono ?_
    rintro e w2 ⟨rfl, hb⟩
    have HB2 := Lib.hid (HB1.out.trans (hb.mono HB1.out.size))
    clear hb
    go_wp2_with fail
    go_ret
    exact ⟨by rw [HE.out]; unfold tmE; rw [if_pos (.inl (by rw [HF.out]; rfl))]; first | done | rfl, HB2.out⟩
  · have hF := hFF.symm
    clear hFF
    obtain ⟨p0, p1, rfl, hrng⟩ := form_mr_at hF
    obtain ⟨pb, po, rfl, hpl, hpc⟩ := (show InS w pa 2 1 (flat iL [p0, p1]) from HPS.out).at (xs := [p0, p1]) iL_len (by simp)
    have q0 : w.cell? ⟨pb, po, none⟩ = some (.int .i64 p0) := by have h := hpc 0 _ rfl 0 _ rfl; simpa using h
    have q1 : w.cell? ⟨pb, po + 1, none⟩ = some (.int .i64 p1) := by have h := hpc 1 _ rfl 0 _ rfl; simpa using h
    have KP := Lib.hid (fun (W : World) (hb : Below w.heap.size w W) => rposs_minrun pb po pc p0 p1 sa sc st W (cellB q0 hb) (cellB q1 hb) (HST.out.keep hb))
    obtain ⟨PB, hPB⟩ : ∃ x, x = poss_minrun p0 p1 st := ⟨_, rfl⟩
    have HE2 : E = tmE (true && PB) [⟨⟨#[97]⟩, ⟨#[98, 105, 110, 97, 114, 121]⟩⟩] vs V dt := by rw [HE.out, show form_mr [p0, p1] = true from hF]; rw [hPB]; first | done | rfl
    rw [← HML.out, ← hPB] at KP
    clear hPB HE hpl hpc q0 q1 
    obtain rfl : N = 2 := HNL.out
    have HE := Lib.hid HE2
    clear HE2
    cases PB
    · go_enter Tryd.func23, Tryd.ntmps23
      go_wp2_with fail
      refine (rknown_any ⟨#[109, 105, 110, 114, 117, 110]⟩ w).mono ?_
      rintro e w1 ⟨rfl, hb⟩
      have HB1 := Lib.hid hb
      clear hb
      rw [show (timerNames.any fun x => eqS x ⟨#[109, 105, 110, 114, 117, 110]⟩) = true by decide +kernel]
      go_wp2_with fail
      refine (KF.out w1 HB1.out).mono ?_
      rintro e w2 ⟨rfl, hb⟩
      have HB2 := Lib.hid (HB1.out.trans (hb.mono HB1.out.size))
      clear hb
      go_wp2_with fail
      refine (KP.out w2 HB2.out).mono ?_
      rintro e w3 ⟨rfl, hb⟩
      have HB3 := Lib.hid (HB2.out.trans (hb.mono HB2.out.size))
      clear hb
      go_wp2_with fail
      go_ret
      exact ⟨by rw [HE.out]; unfold tmE; rw [if_pos (.inl rfl)]; first | done | rfl, HB3.out⟩
    · by_cases h1 : dt < 1
      · go_enter Tryd.func23, Tryd.ntmps23
        go_wp2_with fail
        refine (rknown_any ⟨#[109, 105, 110, 114, 117, 110]⟩ w).mono ?_
        rintro e w1 ⟨rfl, hb⟩
        have HB1 := Lib.hid hb
        clear hb
        rw [show (timerNames.any fun x => eqS x ⟨#[109, 105, 110, 114, 117, 110]⟩) = true by decide +kernel]
        go_wp2_with fail
        refine (KF.out w1 HB1.out).mono ?_
        rintro e w2 ⟨rfl, hb⟩
        have HB2 := Lib.hid (HB1.out.trans (hb.mono HB1.out.size))
        clear hb
        go_wp2_with fail
        refine (KP.out w2 HB2.out).mono ?_
        rintro e w3 ⟨rfl, hb⟩
        have HB3 := Lib.hid (HB2.out.trans (hb.mono HB2.out.size))
        clear hb
        go_wp2_with fail
        go_ret
        exact ⟨by rw [HE.out]; unfold tmE; rw [if_pos (.inr (.inl (inZ_no (by omega))))]; first | done | rfl, HB3.out⟩
      · by_cases h2 : 86400 < dt
        · go_enter Tryd.func23, Tryd.ntmps23
          go_wp2_with fail
          refine (rknown_any ⟨#[109, 105, 110, 114, 117, 110]⟩ w).mono ?_
          rintro e w1 ⟨rfl, hb⟩
          have HB1 := Lib.hid hb
          clear hb
          rw [show (timerNames.any fun x => eqS x ⟨#[109, 105, 110, 114, 117, 110]⟩) = true by decide +kernel]
          go_wp2_with fail
          refine (KF.out w1 HB1.out).mono ?_
          rintro e w2 ⟨rfl, hb⟩
          have HB2 := Lib.hid (HB1.out.trans (hb.mono HB1.out.size))
          clear hb
          go_wp2_with fail
          refine (KP.out w2 HB2.out).mono ?_
          rintro e w3 ⟨rfl, hb⟩
          have HB3 := Lib.hid (HB2.out.trans (hb.mono HB2.out.size))
          clear hb
          go_wp2_with fail
          go_ret
          exact ⟨by rw [HE.out]; unfold tmE; rw [if_pos (.inr (.inl (inZ_no (by omega))))]; first | done | rfl, HB3.out⟩
        · by_cases h3 : KV = 1
          · subst h3
            cases V
            · go_enter Tryd.func23, Tryd.ntmps23
              go_wp2_with fail
              refine (rknown_any ⟨#[109, 105, 110, 114, 117, 110]⟩ w).mono ?_
              rintro e w1 ⟨rfl, hb⟩
              have HB1 := Lib.hid hb
              clear hb
              rw [show (timerNames.any fun x => eqS x ⟨#[109, 105, 110, 114, 117, 110]⟩) = true by decide +kernel]
              go_wp2_with fail
              refine (KF.out w1 HB1.out).mono ?_
              rintro e w2 ⟨rfl, hb⟩
              have HB2 := Lib.hid (HB1.out.trans (hb.mono HB1.out.size))
              clear hb
              go_wp2_with fail
              refine (KP.out w2 HB2.out).mono ?_
              rintro e w3 ⟨rfl, hb⟩
              have HB3 := Lib.hid (HB2.out.trans (hb.mono HB2.out.size))
              clear hb
              go_wp2_with fail
              refine (rCount_minrun _).mono ?_
              rintro e w4 ⟨rfl, rfl⟩
              go_wp2_with fail
              refine (KT.out w3 HB3.out).mono ?_
              rintro e w4 ⟨rfl, hb⟩
              have HB4 := Lib.hid (HB3.out.trans (hb.mono HB3.out.size))
              clear hb
              go_wp2_with fail
              go_ret
              exact ⟨by rw [HE.out]; unfold tmE; rw [if_neg (fun h => by rcases h with h | h | h; exact absurd h (by decide); rw [inZ_yes (by omega) (by omega)] at h; cases h; exact h (by rw [← HK.out]; rfl)), if_pos rfl]; first | done | rfl, HB4.out⟩
            · go_enter Tryd.func23, Tryd.ntmps23
              go_wp2_with fail
              refine (rknown_any ⟨#[109, 105, 110, 114, 117, 110]⟩ w).mono ?_
              rintro e w1 ⟨rfl, hb⟩
              have HB1 := Lib.hid hb
              clear hb
              rw [show (timerNames.any fun x => eqS x ⟨#[109, 105, 110, 114, 117, 110]⟩) = true by decide +kernel]
              go_wp2_with fail
              refine (KF.out w1 HB1.out).mono ?_
              rintro e w2 ⟨rfl, hb⟩
              have HB2 := Lib.hid (HB1.out.trans (hb.mono HB1.out.size))
              clear hb
              go_wp2_with fail
              refine (KP.out w2 HB2.out).mono ?_
              rintro e w3 ⟨rfl, hb⟩
              have HB3 := Lib.hid (HB2.out.trans (hb.mono HB2.out.size))
              clear hb
              go_wp2_with fail
              refine (rCount_minrun _).mono ?_
              rintro e w4 ⟨rfl, rfl⟩
              go_wp2_with fail
              refine (KT.out w3 HB3.out).mono ?_
              rintro e w4 ⟨rfl, hb⟩
              have HB4 := Lib.hid (HB3.out.trans (hb.mono HB3.out.size))
              clear hb
              go_wp2_with fail
              go_ret
              exact ⟨by rw [HE.out]; unfold tmE; rw [if_neg (fun h => by rcases h with h | h | h; exact absurd h (by decide); rw [inZ_yes (by omega) (by omega)] at h; cases h; exact h (by rw [← HK.out]; rfl)), if_neg (by decide)]; first | done | rfl, HB4.out⟩
          · have h4 : ((KV : Int) != 1) = true := by rw [bne_iff_ne]; omega
            have H3 := Lib.hid h3
            clear h3
            go_enter Tryd.func23, Tryd.ntmps23
            go_wp2_with fail
            refine (rknown_any ⟨#[109, 105, 110, 114, 117, 110]⟩ w).mono ?_
            rintro e w1 ⟨rfl, hb⟩
            have HB1 := Lib.hid hb
            clear hb
            rw [show (timerNames.any fun x => eqS x ⟨#[109, 105, 110, 114, 117, 110]⟩) = true by decide +kernel]
            go_wp2_with fail
            refine (KF.out w1 HB1.out).mono ?_
            rintro e w2 ⟨rfl, hb⟩
            have HB2 := Lib.hid (HB1.out.trans (hb.mono HB1.out.size))
            clear hb
            go_wp2_with fail
            refine (KP.out w2 HB2.out).mono ?_
            rintro e w3 ⟨rfl, hb⟩
            have HB3 := Lib.hid (HB2.out.trans (hb.mono HB2.out.size))
            clear hb
            go_wp2_with fail
            refine (rCount_minrun _).mono ?_
            rintro e w4 ⟨rfl, rfl⟩
            go_wp2_with fail
            go_ret
            exact ⟨by rw [HE.out]; unfold tmE; rw [if_pos (.inr (.inr (fun h => H3.out (by rw [HK.out, h]; rfl))))]; first | done | rfl, HB3.out⟩
set_option maxHeartbeats 4000000 in
set_option maxRecDepth 100000 in
theorem rcheck_offdelay (pa sa va : Option Addr) (pc sc vc : Nat) (ps st : List Int) (vs : List ValD) (V : Bool) (dt : Int) (w : World) (hps : InS w pa ps.length 1 (flat iL ps)) (hst : InS w sa st.length 1 (flat iL st)) (hin : InS w va vs.length 2 (flat valL vs)) (hV : V = true ↔ ∀ v ∈ vs, fitsB v.k v.n 2 = true) :
    Calls Tryd.prog 23 #[.string ⟨#[111, 102, 102, 100, 101, 108, 97, 121]⟩, .slice pa ps.length pc, .slice sa st.length sc, .slice va vs.length vc, .int .i64 dt] w fun e w' => e = .returned (.int .i64 (tmE (form_time ps && poss_offdelay (ps.getD 0 0) st) [⟨⟨#[97]⟩, ⟨#[98, 105, 110, 97, 114, 121]⟩⟩] vs V dt)) ∧ Below w.heap.size w w' := by
  have KF := Lib.hid (fun (W : World) (hb : Below w.heap.size w W) => rformed_offdelay pa pc ps W (hps.keep hb))
  have KT := Lib.hid (fun (W : World) (hb : Below w.heap.size w W) => rtyped_offdelay va vc vs V W (hin.keep hb) hV)
  have HPS := Lib.hid hps
  have HST := Lib.hid hst
  obtain ⟨N, hN⟩ : ∃ M, M = ps.length := ⟨_, rfl⟩
  obtain ⟨M, hM⟩ : ∃ M, M = st.length := ⟨_, rfl⟩
  obtain ⟨KV, hK⟩ : ∃ M, M = vs.length := ⟨_, rfl⟩
  have HNL := Lib.hid hN
  have HML := Lib.hid hM
  have HK := Lib.hid hK
  have k63 : KV ≤ 9223372036854775807 := by rw [hK]; exact hin.2.1
  obtain ⟨E, hE⟩ : ∃ x, x = tmE (form_time ps && poss_offdelay (ps.getD 0 0) st) [⟨⟨#[97]⟩, ⟨#[98, 105, 110, 97, 114, 121]⟩⟩] vs V dt := ⟨_, rfl⟩
  have HE := Lib.hid hE
  obtain ⟨F, hFF⟩ : ∃ x, x = form_time ps := ⟨_, rfl⟩
  rw [← hE, ← hN, ← hM, ← hK]
  rw [← hN, ← hFF] at KF
  rw [← hK] at KT
  clear hps hst hin hV hN hM hK hE
  cases F
  · have HF := Lib.hid hFF.symm
    clear hFF
    go_enter Tryd.func23, Tryd.ntmps23
    go_wp2_with fail
    refine (rknown_any ⟨#[111, 102, 102, 100, 101, 108, 97, 121]⟩ w).mono ?_
    rintro e w1 ⟨rfl, hb⟩
    have HB1 := Lib.hid hb
    clear hb
    rw [show (timerNames.any fun x => eqS x ⟨#[111, 102, 102, 100, 101, 108, 97, 121]⟩) = true by decide +kernel]
    go_wp2_with fail
    refine (KF.out w1 HB1.out).mono ?_
    rintro e w2 ⟨rfl, hb⟩
    have HB2 := Lib.hid (HB1.out.trans (hb.mono HB1.out.size))
    clear hb
    go_wp2_with fail
    go_ret
    exact ⟨by rw [HE.out]; unfold tmE; rw [if_pos (.inl (by rw [HF.out]; rfl))]; first | done | rfl, HB2.out⟩
  · have hF := hFF.symm
    clear hFF
    obtain ⟨p0, rfl, hrng⟩ := form_time_at hF
    obtain ⟨pb, po, rfl, hpl, hpc⟩ := (show InS w pa 1 1 (flat iL [p0]) from HPS.out).at (xs := [p0]) iL_len (by simp)
    have q0 : w.cell? ⟨pb, po, none⟩ = some (.int .i64 p0) := by have h := hpc 0 _ rfl 0 _ rfl; simpa using h
    have KP := Lib.hid (fun (W : World) (hb : Below w.heap.size w W) => rposs_offdelay pb po pc p0 sa sc st W (cellB q0 hb) (HST.out.keep hb))
    obtain ⟨PB, hPB⟩ : ∃ x, x = poss_offdelay p0 st := ⟨_, rfl⟩
    have HE2 : E = tmE (true && PB) [⟨⟨#[97]⟩, ⟨#[98, 105, 110, 97, 114, 121]⟩⟩] vs V dt := by rw [HE.out, show form_time [p0] = true from hF]; rw [hPB]; first | done | rfl
    rw [← HML.out, ← hPB] at KP
    clear hPB HE hpl hpc q0 
    obtain rfl : N = 1 := HNL.out
    have HE := Lib.hid HE2
    clear HE2
    cases PB
    · go_enter Tryd.func23, Tryd.ntmps23
      go_wp2_with fail
      refine (rknown_any ⟨#[111, 102, 102, 100, 101, 108, 97, 121]⟩ w).mono ?_
      rintro e w1 ⟨rfl, hb⟩
      have HB1 := Lib.hid hb
      clear hb
      rw [show (timerNames.any fun x => eqS x ⟨#[111, 102, 102, 100, 101, 108, 97, 121]⟩) = true by decide +kernel]
      go_wp2_with fail
      refine (KF.out w1 HB1.out).mono ?_
      rintro e w2 ⟨rfl, hb⟩
      have HB2 := Lib.hid (HB1.out.trans (hb.mono HB1.out.size))
      clear hb
      go_wp2_with fail
      refine (KP.out w2 HB2.out).mono ?_
      rintro e w3 ⟨rfl, hb⟩
      have HB3 := Lib.hid (HB2.out.trans (hb.mono HB2.out.size))
      clear hb
      go_wp2_with fail
      go_ret
      exact ⟨by rw [HE.out]; unfold tmE; rw [if_pos (.inl rfl)]; first | done | rfl, HB3.out⟩
    · by_cases h1 : dt < 1
      · go_enter Tryd.func23, Tryd.ntmps23
        go_wp2_with fail
        refine (rknown_any ⟨#[111, 102, 102, 100, 101, 108, 97, 121]⟩ w).mono ?_
        rintro e w1 ⟨rfl, hb⟩
        have HB1 := Lib.hid hb
        clear hb
        rw [show (timerNames.any fun x => eqS x ⟨#[111, 102, 102, 100, 101, 108, 97, 121]⟩) = true by decide +kernel]
        go_wp2_with fail
        refine (KF.out w1 HB1.out).mono ?_
        rintro e w2 ⟨rfl, hb⟩
        have HB2 := Lib.hid (HB1.out.trans (hb.mono HB1.out.size))
        clear hb
        go_wp2_with fail
        refine (KP.out w2 HB2.out).mono ?_
        rintro e w3 ⟨rfl, hb⟩
        have HB3 := Lib.hid (HB2.out.trans (hb.mono HB2.out.size))
        clear hb
        go_wp2_with fail
        go_ret
        exact ⟨by rw [HE.out]; unfold tmE; rw [if_pos (.inr (.inl (inZ_no (by omega))))]; first | done | rfl, HB3.out⟩
      · by_cases h2 : 86400 < dt
        · go_enter Tryd.func23, Tryd.ntmps23
          go_wp2_with fail
          refine (rknown_any ⟨#[111, 102, 102, 100, 101, 108, 97, 121]⟩ w).mono ?_
          rintro e w1 ⟨rfl, hb⟩
          have HB1 := Lib.hid hb
          clear hb
          rw [show (timerNames.any fun x => eqS x ⟨#[111, 102, 102, 100, 101, 108, 97, 121]⟩) = true by decide +kernel]
          go_wp2_with fail
          refine (KF.out w1 HB1.out).mono ?_
          rintro e w2 ⟨rfl, hb⟩
          have HB2 := Lib.hid (HB1.out.trans (hb.mono HB1.out.size))
          clear hb
          go_wp2_with fail
          refine (KP.out w2 HB2.out).mono ?_
          rintro e w3 ⟨rfl, hb⟩
          have HB3 := Lib.hid (HB2.out.trans (hb.mono HB2.out.size))
          clear hb
          go_wp2_with fail
          go_ret
          exact ⟨by rw [HE.out]; unfold tmE; rw [if_pos (.inr (.inl (inZ_no (by omega))))]; first | done | rfl, HB3.out⟩
        · by_cases h3 : KV = 1
          · subst h3
            cases V
            · go_enter Tryd.func23, Tryd.ntmps23
              go_wp2_with fail
              refine (rknown_any ⟨#[111, 102, 102, 100, 101, 108, 97, 121]⟩ w).mono ?_
              rintro e w1 ⟨rfl, hb⟩
              have HB1 := Lib.hid hb
              clear hb
              rw [show (timerNames.any fun x => eqS x ⟨#[111, 102, 102, 100, 101, 108, 97, 121]⟩) = true by decide +kernel]
              go_wp2_with fail
              refine (KF.out w1 HB1.out).mono ?_
              rintro e w2 ⟨rfl, hb⟩
              have HB2 := Lib.hid (HB1.out.trans (hb.mono HB1.out.size))
              clear hb
              go_wp2_with fail
              refine (KP.out w2 HB2.out).mono ?_
              rintro e w3 ⟨rfl, hb⟩
              have HB3 := Lib.hid (HB2.out.trans (hb.mono HB2.out.size))
              clear hb
              go_wp2_with fail
              refine (rCount_offdelay _).mono ?_
              rintro e w4 ⟨rfl, rfl⟩
              go_wp2_with fail
              refine (KT.out w3 HB3.out).mono ?_
              rintro e w4 ⟨rfl, hb⟩
              have HB4 := Lib.hid (HB3.out.trans (hb.mono HB3.out.size))
              clear hb
              go_wp2_with fail
              go_ret
              exact ⟨by rw [HE.out]; unfold tmE; rw [if_neg (fun h => by rcases h with h | h | h; exact absurd h (by decide); rw [inZ_yes (by omega) (by omega)] at h; cases h; exact h (by rw [← HK.out]; rfl)), if_pos rfl]; first | done | rfl, HB4.out⟩
            · go_enter Tryd.func23, Tryd.ntmps23
              go_wp2_with fail
              refine (rknown_any ⟨#[111, 102, 102, 100, 101, 108, 97, 121]⟩ w).mono ?_
              rintro e w1 ⟨rfl, hb⟩
              have HB1 := Lib.hid hb
              clear hb
              rw [show (timerNames.any fun x => eqS x ⟨#[111, 102, 102, 100, 101, 108, 97, 121]⟩) = true by decide +kernel]
              go_wp2_with fail
              refine (KF.out w1 HB1.out).mono ?_
              rintro e w2 ⟨rfl, hb⟩
              have HB2 := Lib.hid (HB1.out.trans (hb.mono HB1.out.size))
              clear hb
              go_wp2_with fail
              refine (KP.out w2 HB2.out).mono ?_
              rintro e w3 ⟨rfl, hb⟩
              have HB3 := Lib.hid (HB2.out.trans (hb.mono HB2.out.size))
              clear hb
              go_wp2_with fail
              refine (rCount_offdelay _).mono ?_
              rintro e w4 ⟨rfl, rfl⟩
              go_wp2_with fail
              refine (KT.out w3 HB3.out).mono ?_
              rintro e w4 ⟨rfl, hb⟩
              have HB4 := Lib.hid (HB3.out.trans (hb.mono HB3.out.size))
              clear hb
              go_wp2_with fail
              go_ret
              exact ⟨by rw [HE.out]; unfold tmE; rw [if_neg (fun h => by rcases h with h | h | h; exact absurd h (by decide); rw [inZ_yes (by omega) (by omega)] at h; cases h; exact h (by rw [← HK.out]; rfl)), if_neg (by decide)]; first | done | rfl, HB4.out⟩
          · have h4 : ((KV : Int) != 1) = true := by rw [bne_iff_ne]; omega
            have H3 := Lib.hid h3
            clear h3
            go_enter Tryd.func23, Tryd.ntmps23
            go_wp2_with fail
            refine (rknown_any ⟨#[111, 102, 102, 100, 101, 108, 97, 121]⟩ w).mono ?_
            rintro e w1 ⟨rfl, hb⟩
            have HB1 := Lib.hid hb
            clear hb
            rw [show (timerNames.any fun x => eqS x ⟨#[111, 102, 102, 100, 101, 108, 97, 121]⟩) = true by decide +kernel]
            go_wp2_with fail
            refine (KF.out w1 HB1.out).mono ?_
            rintro e w2 ⟨rfl, hb⟩
            have HB2 := Lib.hid (HB1.out.trans (hb.mono HB1.out.size))
            clear hb
            go_wp2_with fail
            refine (KP.out w2 HB2.out).mono ?_
            rintro e w3 ⟨rfl, hb⟩
            have HB3 := Lib.hid (HB2.out.trans (hb.mono HB2.out.size))
            clear hb
            go_wp2_with fail
            refine (rCount_offdelay _).mono ?_
            rintro e w4 ⟨rfl, rfl⟩
            go_wp2_with fail
            go_ret
            exact ⟨by rw [HE.out]; unfold tmE; rw [if_pos (.inr (.inr (fun h => H3.out (by rw [HK.out, h]; rfl))))]; first | done | rfl, HB3.out⟩
set_option maxHeartbeats 4000000 in
set_option maxRecDepth 100000 in
theorem rcheck_ondelay (pa sa va : Option Addr) (pc sc vc : Nat) (ps st : List Int) (vs : List ValD) (V : Bool) (dt : Int) (w : World) (hps : InS w pa ps.length 1 (flat iL ps)) (hst : InS w sa st.length 1 (flat iL st)) (hin : InS w va vs.length 2 (flat valL vs)) (hV : V = true ↔ ∀ v ∈ vs, fitsB v.k v.n 2 = true) :
    Calls Tryd.prog 23 #[.string ⟨#[111, 110, 100, 101, 108, 97, 121]⟩, .slice pa ps.length pc, .slice sa st.length sc, .slice va vs.length vc, .int .i64 dt] w fun e w' => e = .returned (.int .i64 (tmE (form_time ps && poss_ondelay (ps.getD 0 0) st) [⟨⟨#[97]⟩, ⟨#[98, 105, 110, 97, 114, 121]⟩⟩] vs V dt)) ∧ Below w.heap.size w w' := by
  have KF := Lib.hid (fun (W : World) (hb : Below w.heap.size w W) => rformed_ondelay pa pc ps W (hps.keep hb))
  have KT := Lib.hid (fun (W : World) (hb : Below w.heap.size w W) => rtyped_ondelay va vc vs V W (hin.keep hb) hV)
  have HPS := Lib.hid hps
  have HST := Lib.hid hst
  obtain ⟨N, hN⟩ : ∃ M, M = ps.length := ⟨_, rfl⟩
  obtain ⟨M, hM⟩ : ∃ M, M = st.length := ⟨_, rfl⟩
  obtain ⟨KV, hK⟩ : ∃ M, M = vs.length := ⟨_, rfl⟩
  have HNL := Lib.hid hN
  have HML := Lib.hid hM
  have HK := Lib.hid hK
  have k63 : KV ≤ 9223372036854775807 := by rw [hK]; exact hin.2.1
  obtain ⟨E, hE⟩ : ∃ x, x = tmE (form_time ps && poss_ondelay (ps.getD 0 0) st) [⟨⟨#[97]⟩, ⟨#[98, 105, 110, 97, 114, 121]⟩⟩] vs V dt := ⟨_, rfl⟩
  have HE := Lib.hid hE
  obtain ⟨F, hFF⟩ : ∃ x, x = form_time ps := ⟨_, rfl⟩
  rw [← hE, ← hN, ← hM, ← hK]
  rw [← hN, ← hFF] at KF
  rw [← hK] at KT
  clear hps hst hin hV hN hM hK hE
  cases F
  · have HF := Lib.hid hFF.symm
    clear hFF
    go_enter Tryd.func23, Tryd.ntmps23
    go_wp2_with fail
    refine (rknown_any ⟨#[111, 110, 100, 101, 108, 97, 121]⟩ w).mono ?_
    rintro e w1 ⟨rfl, hb⟩
    have HB1 := Lib.hid hb
    clear hb
    rw [show (timerNames.any fun x => eqS x ⟨#[111, 110, 100, 101, 108, 97, 121]⟩) = true by decide +kernel]
    go_wp2_with fail
    refine (KF.out w1 HB1.out).mono ?_
    rintro e w2 ⟨rfl, hb⟩
    have HB2 := Lib.hid (HB1.out.trans (hb.mono HB1.out.size))
    clear hb
    go_wp2_with fail
    go_ret
    exact ⟨by rw [HE.out]; unfold tmE; rw [if_pos (.inl (by rw [HF.out]; rfl))]; first | done | rfl, HB2.out⟩
  · have hF := hFF.symm
    clear hFF
    obtain ⟨p0, rfl, hrng⟩ := form_time_at hF
    obtain ⟨pb, po, rfl, hpl, hpc⟩ := (show InS w pa 1 1 (flat iL [p0]) from HPS.out).at (xs := [p0]) iL_len (by simp)
    have q0 : w.cell? ⟨pb, po, none⟩ = some (.int .i64 p0) := by have h := hpc 0 _ rfl 0 _ rfl; simpa using h
    have KP := Lib.hid (fun (W : World) (hb : Below w.heap.size w W) => rposs_ondelay pb po pc p0 sa sc st W (cellB q0 hb) hrng (HST.out.keep hb))
    obtain ⟨PB, hPB⟩ : ∃ x, x = poss_ondelay p0 st := ⟨_, rfl⟩
    have HE2 : E = tmE (true && PB) [⟨⟨#[97]⟩, ⟨#[98, 105, 110, 97, 114, 121]⟩⟩] vs V dt := by rw [HE.out, show form_time [p0] = true from hF]; rw [hPB]; first | done | rfl
    rw [← HML.out, ← hPB] at KP
    clear hPB HE hpl hpc q0 
    obtain rfl : N = 1 := HNL.out
    have HE := Lib.hid HE2
    clear HE2
    cases PB
    · go_enter Tryd.func23, Tryd.ntmps23
      go_wp2_with fail
      refine (rknown_any ⟨#[111, 110, 100, 101, 108, 97, 121]⟩ w).mono ?_
      rintro e w1 ⟨rfl, hb⟩
      have HB1 := Lib.hid hb
      clear hb
      rw [show (timerNames.any fun x => eqS x ⟨#[111, 110, 100, 101, 108, 97, 121]⟩) = true by decide +kernel]
      go_wp2_with fail
      refine (KF.out w1 HB1.out).mono ?_
      rintro e w2 ⟨rfl, hb⟩
      have HB2 := Lib.hid (HB1.out.trans (hb.mono HB1.out.size))
      clear hb
      go_wp2_with fail
      refine (KP.out w2 HB2.out).mono ?_
      rintro e w3 ⟨rfl, hb⟩
      have HB3 := Lib.hid (HB2.out.trans (hb.mono HB2.out.size))
      clear hb
      go_wp2_with fail
      go_ret
      exact ⟨by rw [HE.out]; unfold tmE; rw [if_pos (.inl rfl)]; first | done | rfl, HB3.out⟩
    · by_cases h1 : dt < 1
      · go_enter Tryd.func23, Tryd.ntmps23
        go_wp2_with fail
        refine (rknown_any ⟨#[111, 110, 100, 101, 108, 97, 121]⟩ w).mono ?_
        rintro e w1 ⟨rfl, hb⟩
        have HB1 := Lib.hid hb
        clear hb
        rw [show (timerNames.any fun x => eqS x ⟨#[111, 110, 100, 101, 108, 97, 121]⟩) = true by decide +kernel]
        go_wp2_with fail
        refine (KF.out w1 HB1.out).mono ?_
        rintro e w2 ⟨rfl, hb⟩
        have HB2 := Lib.hid (HB1.out.trans (hb.mono HB1.out.size))
        clear hb
        go_wp2_with fail
        refine (KP.out w2 HB2.out).mono ?_
        rintro e w3 ⟨rfl, hb⟩
        have HB3 := Lib.hid (HB2.out.trans (hb.mono HB2.out.size))
        clear hb
        go_wp2_with fail
        go_ret
        exact ⟨by rw [HE.out]; unfold tmE; rw [if_pos (.inr (.inl (inZ_no (by omega))))]; first | done | rfl, HB3.out⟩
      · by_cases h2 : 86400 < dt
        · go_enter Tryd.func23, Tryd.ntmps23
          go_wp2_with fail
          refine (rknown_any ⟨#[111, 110, 100, 101, 108, 97, 121]⟩ w).mono ?_
          rintro e w1 ⟨rfl, hb⟩
          have HB1 := Lib.hid hb
          clear hb
          rw [show (timerNames.any fun x => eqS x ⟨#[111, 110, 100, 101, 108, 97, 121]⟩) = true by decide +kernel]
          go_wp2_with fail
          refine (KF.out w1 HB1.out).mono ?_
          rintro e w2 ⟨rfl, hb⟩
          have HB2 := Lib.hid (HB1.out.trans (hb.mono HB1.out.size))
          clear hb
          go_wp2_with fail
          refine (KP.out w2 HB2.out).mono ?_
          rintro e w3 ⟨rfl, hb⟩
          have HB3 := Lib.hid (HB2.out.trans (hb.mono HB2.out.size))
          clear hb
          go_wp2_with fail
          go_ret
          exact ⟨by rw [HE.out]; unfold tmE; rw [if_pos (.inr (.inl (inZ_no (by omega))))]; first | done | rfl, HB3.out⟩
        · by_cases h3 : KV = 1
          · subst h3
            cases V
            · go_enter Tryd.func23, Tryd.ntmps23
              go_wp2_with fail
              refine (rknown_any ⟨#[111, 110, 100, 101, 108, 97, 121]⟩ w).mono ?_
              rintro e w1 ⟨rfl, hb⟩
              have HB1 := Lib.hid hb
              clear hb
              rw [show (timerNames.any fun x => eqS x ⟨#[111, 110, 100, 101, 108, 97, 121]⟩) = true by decide +kernel]
              go_wp2_with fail
              refine (KF.out w1 HB1.out).mono ?_
              rintro e w2 ⟨rfl, hb⟩
              have HB2 := Lib.hid (HB1.out.trans (hb.mono HB1.out.size))
              clear hb
              go_wp2_with fail
              refine (KP.out w2 HB2.out).mono ?_
              rintro e w3 ⟨rfl, hb⟩
              have HB3 := Lib.hid (HB2.out.trans (hb.mono HB2.out.size))
              clear hb
              go_wp2_with fail
              refine (rCount_ondelay _).mono ?_
              rintro e w4 ⟨rfl, rfl⟩
              go_wp2_with fail
              refine (KT.out w3 HB3.out).mono ?_
              rintro e w4 ⟨rfl, hb⟩
              have HB4 := Lib.hid (HB3.out.trans (hb.mono HB3.out.size))
              clear hb
              go_wp2_with fail
              go_ret
              exact ⟨by rw [HE.out]; unfold tmE; rw [if_neg (fun h => by rcases h with h | h | h; exact absurd h (by decide); rw [inZ_yes (by omega) (by omega)] at h; cases h; exact h (by rw [← HK.out]; rfl)), if_pos rfl]; first | done | rfl, HB4.out⟩
            · go_enter Tryd.func23, Tryd.ntmps23
              go_wp2_with fail
              refine (rknown_any ⟨#[111, 110, 100, 101, 108, 97, 121]⟩ w).mono ?_
              rintro e w1 ⟨rfl, hb⟩
              have HB1 := Lib.hid hb
              clear hb
              rw [show (timerNames.any fun x => eqS x ⟨#[111, 110, 100, 101, 108, 97, 121]⟩) = true by decide +kernel]
              go_wp2_with fail
              refine (KF.out w1 HB1.out).mono ?_
              rintro e w2 ⟨rfl, hb⟩
              have HB2 := Lib.hid (HB1.out.trans (hb.mono HB1.out.size))
              clear hb
              go_wp2_with fail
              refine (KP.out w2 HB2.out).mono ?_
              rintro e w3 ⟨rfl, hb⟩
              have HB3 := Lib.hid (HB2.out.trans (hb.mono HB2.out.size))
              clear hb
              go_wp2_with fail
              refine (rCount_ondelay _).mono ?_
              rintro e w4 ⟨rfl, rfl⟩
              go_wp2_with fail
              refine (KT.out w3 HB3.out).mono ?_
              rintro e w4 ⟨rfl, hb⟩
              have HB4 := Lib.hid (HB3.out.trans (hb.mono HB3.out.size))
              clear hb
              go_wp2_with fail
              go_ret
              exact ⟨by rw [HE.out]; unfold tmE; rw [if_neg (fun h => by rcases h with h | h | h; exact absurd h (by decide); rw [inZ_yes (by omega) (by omega)] at h; cases h; exact h (by rw [← HK.out]; rfl)), if_neg (by decide)]; first | done | rfl, HB4.out⟩
          · have h4 : ((KV : Int) != 1) = true := by rw [bne_iff_ne]; omega
            have H3 := Lib.hid h3
            clear h3
            go_enter Tryd.func23, Tryd.ntmps23
            go_wp2_with fail
            refine (rknown_any ⟨#[111, 110, 100, 101, 108, 97, 121]⟩ w).mono ?_
            rintro e w1 ⟨rfl, hb⟩
            have HB1 := Lib.hid hb
            clear hb
            rw [show (timerNames.any fun x => eqS x ⟨#[111, 110, 100, 101, 108, 97, 121]⟩) = true by decide +kernel]
            go_wp2_with fail
            refine (KF.out w1 HB1.out).mono ?_
            rintro e w2 ⟨rfl, hb⟩
            have HB2 := Lib.hid (HB1.out.trans (hb.mono HB1.out.size))
            clear hb
            go_wp2_with fail
            refine (KP.out w2 HB2.out).mono ?_
            rintro e w3 ⟨rfl, hb⟩
            have HB3 := Lib.hid (HB2.out.trans (hb.mono HB2.out.size))
            clear hb
            go_wp2_with fail
            refine (rCount_ondelay _).mono ?_
            rintro e w4 ⟨rfl, rfl⟩
            go_wp2_with fail
            go_ret
            exact ⟨by rw [HE.out]; unfold tmE; rw [if_pos (.inr (.inr (fun h => H3.out (by rw [HK.out, h]; rfl))))]; first | done | rfl, HB3.out⟩
set_option maxHeartbeats 4000000 in
set_option maxRecDepth 100000 in
theorem rcheck_pulse (pa sa va : Option Addr) (pc sc vc : Nat) (ps st : List Int) (vs : List ValD) (V : Bool) (dt : Int) (w : World) (hps : InS w pa ps.length 1 (flat iL ps)) (hst : InS w sa st.length 1 (flat iL st)) (hin : InS w va vs.length 2 (flat valL vs)) (hV : V = true ↔ ∀ v ∈ vs, fitsB v.k v.n 2 = true) :
    Calls Tryd.prog 23 #[.string ⟨#[112, 117, 108, 115, 101]⟩, .slice pa ps.length pc, .slice sa st.length sc, .slice va vs.length vc, .int .i64 dt] w fun e w' => e = .returned (.int .i64 (tmE (form_time ps && poss_pulse (ps.getD 0 0) st) [⟨⟨#[97]⟩, ⟨#[98, 105, 110, 97, 114, 121]⟩⟩] vs V dt)) ∧ Below w.heap.size w w' := by
  have KF := Lib.hid (fun (W : World) (hb : Below w.heap.size w W) => rformed_pulse pa pc ps W (hps.keep hb))
  have KT := Lib.hid (fun (W : World) (hb : Below w.heap.size w W) => rtyped_pulse va vc vs V W (hin.keep hb) hV)
  have HPS := Lib.hid hps
  have HST := Lib.hid hst
  obtain ⟨N, hN⟩ : ∃ M, M = ps.length := ⟨_, rfl⟩
  obtain ⟨M, hM⟩ : ∃ M, M = st.length := ⟨_, rfl⟩
  obtain ⟨KV, hK⟩ : ∃ M, M = vs.length := ⟨_, rfl⟩
  have HNL := Lib.hid hN
  have HML := Lib.hid hM
  have HK := Lib.hid hK
  have k63 : KV ≤ 9223372036854775807 := by rw [hK]; exact hin.2.1
  obtain ⟨E, hE⟩ : ∃ x, x = tmE (form_time ps && poss_pulse (ps.getD 0 0) st) [⟨⟨#[97]⟩, ⟨#[98, 105, 110, 97, 114, 121]⟩⟩] vs V dt := ⟨_, rfl⟩
  have HE := Lib.hid hE
  obtain ⟨F, hFF⟩ : ∃ x, x = form_time ps := ⟨_, rfl⟩
  rw [← hE, ← hN, ← hM, ← hK]
  rw [← hN, ← hFF] at KF
  rw [← hK] at KT
  clear hps hst hin hV hN hM hK hE
  cases F
  · have HF := Lib.hid hFF.symm
    clear hFF
    go_enter Tryd.func23, Tryd.ntmps23
    go_wp2_with fail
    refine (rknown_any ⟨#[112, 117, 108, 115, 101]⟩ w).mono ?_
    rintro e w1 ⟨rfl, hb⟩
    have HB1 := Lib.hid hb
    clear hb
    rw [show (timerNames.any fun x => eqS x ⟨#[112, 117, 108, 115, 101]⟩) = true by decide +kernel]
    go_wp2_with fail
    refine (KF.out w1 HB1.out).mono ?_
    rintro e w2 ⟨rfl, hb⟩
    have HB2 := Lib.hid (HB1.out.trans (hb.mono HB1.out.size))
    clear hb
    go_wp2_with fail
    go_ret
    exact ⟨by rw [HE.out]; unfold tmE; rw [if_pos (.inl (by rw [HF.out]; rfl))]; first | done | rfl, HB2.out⟩
  · have hF := hFF.symm
    clear hFF
    obtain ⟨p0, rfl, hrng⟩ := form_time_at hF
    obtain ⟨pb, po, rfl, hpl, hpc⟩ := (show InS w pa 1 1 (flat iL [p0]) from HPS.out).at (xs := [p0]) iL_len (by simp)
    have q0 : w.cell? ⟨pb, po, none⟩ = some (.int .i64 p0) := by have h := hpc 0 _ rfl 0 _ rfl; simpa using h
    have KP := Lib.hid (fun (W : World) (hb : Below w.heap.size w W) => rposs_pulse pb po pc p0 sa sc st W (cellB q0 hb) (HST.out.keep hb))
    obtain ⟨PB, hPB⟩ : ∃ x, x = poss_pulse p0 st := ⟨_, rfl⟩
    have HE2 : E = tmE (true && PB) [⟨⟨#[97]⟩, ⟨#[98, 105, 110, 97, 114, 121]⟩⟩] vs V dt := by rw [HE.out, show form_time [p0] = true from hF]; rw [hPB]; first | done | rfl
    rw [← HML.out, ← hPB] at KP
    clear hPB HE hpl hpc q0 
    obtain rfl : N = 1 := HNL.out
    have HE := Lib.hid HE2
    clear HE2
    cases PB
    · go_enter Tryd.func23, Tryd.ntmps23
      go_wp2_with fail
      refine (rknown_any ⟨#[112, 117, 108, 115, 101]⟩ w).mono ?_
      rintro e w1 ⟨rfl, hb⟩
      have HB1 := Lib.hid hb
      clear hb
      rw [show (timerNames.any fun x => eqS x ⟨#[112, 117, 108, 115, 101]⟩) = true by decide +kernel]
      go_wp2_with fail
      refine (KF.out w1 HB1.out).mono ?_
      rintro e w2 ⟨rfl, hb⟩
      have HB2 := Lib.hid (HB1.out.trans (hb.mono HB1.out.size))
      clear hb
      go_wp2_with fail
      refine (KP.out w2 HB2.out).mono ?_
      rintro e w3 ⟨rfl, hb⟩
      have HB3 := Lib.hid (HB2.out.trans (hb.mono HB2.out.size))
      clear hb
      go_wp2_with fail
      go_ret
      exact ⟨by rw [HE.out]; unfold tmE; rw [if_pos (.inl rfl)]; first | done | rfl, HB3.out⟩
    · by_cases h1 : dt < 1
      · go_enter Tryd.func23, Tryd.ntmps23
        go_wp2_with fail
        refine (rknown_any ⟨#[112, 117, 108, 115, 101]⟩ w).mono ?_
        rintro e w1 ⟨rfl, hb⟩
        have HB1 := Lib.hid hb
        clear hb
        rw [show (timerNames.any fun x => eqS x ⟨#[112, 117, 108, 115, 101]⟩) = true by decide +kernel]
        go_wp2_with fail
        refine (KF.out w1 HB1.out).mono ?_
        rintro e w2 ⟨rfl, hb⟩
        have HB2 := Lib.hid (HB1.out.trans (hb.mono HB1.out.size))
        clear hb
        go_wp2_with fail
        refine (KP.out w2 HB2.out).mono ?_
        rintro e w3 ⟨rfl, hb⟩
        have HB3 := Lib.hid (HB2.out.trans (hb.mono HB2.out.size))
        clear hb
        go_wp2_with fail
        go_ret
        exact ⟨by rw [HE.out]; unfold tmE; rw [if_pos (.inr (.inl (inZ_no (by omega))))]; first | done | rfl, HB3.out⟩
      · by_cases h2 : 86400 < dt
        · go_enter Tryd.func23, Tryd.ntmps23
          go_wp2_with fail
          refine (rknown_any ⟨#[112, 117, 108, 115, 101]⟩ w).mono ?_
          rintro e w1 ⟨rfl, hb⟩
          have HB1 := Lib.hid hb
          clear hb
          rw [show (timerNames.any fun x => eqS x ⟨#[112, 117, 108, 115, 101]⟩) = true by decide +kernel]
          go_wp2_with fail
          refine (KF.out w1 HB1.out).mono ?_
          rintro e w2 ⟨rfl, hb⟩
          have HB2 := Lib.hid (HB1.out.trans (hb.mono HB1.out.size))
          clear hb
          go_wp2_with fail
          refine (KP.out w2 HB2.out).mono ?_
          rintro e w3 ⟨rfl, hb⟩
          have HB3 := Lib.hid (HB2.out.trans (hb.mono HB2.out.size))
          clear hb
          go_wp2_with fail
          go_ret
          exact ⟨by rw [HE.out]; unfold tmE; rw [if_pos (.inr (.inl (inZ_no (by omega))))]; first | done | rfl, HB3.out⟩
        · by_cases h3 : KV = 1
          · subst h3
            cases V
            · go_enter Tryd.func23, Tryd.ntmps23
              go_wp2_with fail
              refine (rknown_any ⟨#[112, 117, 108, 115, 101]⟩ w).mono ?_
              rintro e w1 ⟨rfl, hb⟩
              have HB1 := Lib.hid hb
              clear hb
              rw [show (timerNames.any fun x => eqS x ⟨#[112, 117, 108, 115, 101]⟩) = true by decide +kernel]
              go_wp2_with fail
              refine (KF.out w1 HB1.out).mono ?_
              rintro e w2 ⟨rfl, hb⟩
              have HB2 := Lib.hid (HB1.out.trans (hb.mono HB1.out.size))
              clear hb
              go_wp2_with fail
              refine (KP.out w2 HB2.out).mono ?_
              rintro e w3 ⟨rfl, hb⟩
              have HB3 := Lib.hid (HB2.out.trans (hb.mono HB2.out.size))
              clear hb
              go_wp2_with fail
              refine (rCount_pulse _).mono ?_
              rintro e w4 ⟨rfl, rfl⟩
              go_wp2_with fail
              refine (KT.out w3 HB3.out).mono ?_
              rintro e w4 ⟨rfl, hb⟩
              have HB4 := Lib.hid (HB3.out.trans (hb.mono HB3.out.size))
              clear hb
              go_wp2_with fail
              go_ret
              exact ⟨by rw [HE.out]; unfold tmE; rw [if_neg (fun h => by rcases h with h | h | h; exact absurd h (by decide); rw [inZ_yes (by omega) (by omega)] at h; cases h; exact h (by rw [← HK.out]; rfl)), if_pos rfl]; first | done | rfl, HB4.out⟩
            · go_enter Tryd.func23, Tryd.ntmps23
              go_wp2_with fail
              refine (rknown_any ⟨#[112, 117, 108, 115, 101]⟩ w).mono ?_
              rintro e w1 ⟨rfl, hb⟩
              have HB1 := Lib.hid hb
              clear hb
              rw [show (timerNames.any fun x => eqS x ⟨#[112, 117, 108, 115, 101]⟩) = true by decide +kernel]
              go_wp2_with fail
              refine (KF.out w1 HB1.out).mono ?_
              rintro e w2 ⟨rfl, hb⟩
              have HB2 := Lib.hid (HB1.out.trans (hb.mono HB1.out.size))
              clear hb
              go_wp2_with fail
              refine (KP.out w2 HB2.out).mono ?_
              rintro e w3 ⟨rfl, hb⟩
              have HB3 := Lib.hid (HB2.out.trans (hb.mono HB2.out.size))
              clear hb
              go_wp2_with fail
              refine (rCount_pulse _).mono ?_
              rintro e w4 ⟨rfl, rfl⟩
              go_wp2_with fail
              refine (KT.out w3 HB3.out).mono ?_
              rintro e w4 ⟨rfl, hb⟩
              have HB4 := Lib.hid (HB3.out.trans (hb.mono HB3.out.size))
              clear hb
              go_wp2_with fail
              go_ret
              exact ⟨by rw [HE.out]; unfold tmE; rw [if_neg (fun h => by rcases h with h | h | h; exact absurd h (by decide); rw [inZ_yes (by omega) (by omega)] at h; cases h; exact h (by rw [← HK.out]; rfl)), if_neg (by decide)]; first | done | rfl, HB4.out⟩
          · have h4 : ((KV : Int) != 1) = true := by rw [bne_iff_ne]; omega
            have H3 := Lib.hid h3
            clear h3
            go_enter Tryd.func23, Tryd.ntmps23
            go_wp2_with fail
            refine (rknown_any ⟨#[112, 117, 108, 115, 101]⟩ w).mono ?_
            rintro e w1 ⟨rfl, hb⟩
            have HB1 := Lib.hid hb
            clear hb
            rw [show (timerNames.any fun x => eqS x ⟨#[112, 117, 108, 115, 101]⟩) = true by decide +kernel]
            go_wp2_with fail
            refine (KF.out w1 HB1.out).mono ?_
            rintro e w2 ⟨rfl, hb⟩
            have HB2 := Lib.hid (HB1.out.trans (hb.mono HB1.out.size))
            clear hb
            go_wp2_with fail
            refine (KP.out w2 HB2.out).mono ?_
            rintro e w3 ⟨rfl, hb⟩
            have HB3 := Lib.hid (HB2.out.trans (hb.mono HB2.out.size))
            clear hb
            go_wp2_with fail
            refine (rCount_pulse _).mono ?_
            rintro e w4 ⟨rfl, rfl⟩
            go_wp2_with fail
            go_ret
            exact ⟨by rw [HE.out]; unfold tmE; rw [if_pos (.inr (.inr (fun h => H3.out (by rw [HK.out, h]; rfl))))]; first | done | rfl, HB3.out⟩
end Go.Proofs.YtmhfkdnblemfdaaDoor
