/- Contract of the specification's winner. -/
import Derived.Test.YtojbhbifbennfaaJ
namespace Go.Proofs.Ytojbhbifbennfaa
open Go.RowKit Go.Shelf

def rwB (qs : List RqD) (on : Int) : Int := if lvR qs on ≤ 17 then on else if firstI le17 qs 0 ≠ -1 then firstI le17 qs 0 else if lvR qs on = 18 then on else -1
theorem rwin_b {qs : List RqD} {on : Int} (h1 : lvR qs on ≠ 1) (h2 : firstI (isL 1) qs 0 = -1) (h3 : lvR qs on ≠ 2) (h4 : firstI (isL 2) qs 0 = -1) : rwinI qs on = rwB qs on := by
  unfold rwinI
  rw [if_neg h1, if_neg (fun h => h h2), if_neg h3, if_neg (fun h => h h4)]; rfl

set_option maxHeartbeats 8000000 in
set_option maxRecDepth 100000 in
theorem rwinner_any (on : Int) (a : Option Addr) (cap : Nat) (qs : List RqD) (ho : on = -1 ∨ (0 ≤ on ∧ on < qs.length)) (hno : qs.any noB = false) (w : World) (hin : InS w a qs.length 3 (flat rqL qs)) : Calls Try.prog 53 #[.int .i64 on, .slice a qs.length cap] w fun e w' => e = .returned (.int .i64 (winI qs on)) ∧ Below w.heap.size w w' := by
  have HOO := Lib.hid ho
  have HNO := Lib.hid hno
  clear hno
  have HI := Lib.hid hin
  have hlv := fun (i : Int) (hi : i < qs.length) (W' : World) (hb : Below w.heap.size w W') => level_any a cap qs i hi W' (hin.keep hb)
  obtain ⟨N, hN⟩ : ∃ N, N = qs.length := ⟨_, rfl⟩
  have HN := Lib.hid hN
  rw [← hN] at hlv ⊢
  have HLV := Lib.hid hlv
  have honN : on < N := by rw [hN]; rcases ho with h | h <;> omega
  have HON := Lib.hid honN
  obtain ⟨Lo, hLo⟩ : ∃ L, L = lvR qs on := ⟨_, rfl⟩
  have hl0 := fun (W' : World) (hb : Below w.heap.size w W') => hlv on honN W' hb
  rw [← hLo] at hl0
  have HL0 := Lib.hid hl0
  have HLO := Lib.hid hLo
  have HNB := Lib.hid (show N ≤ 9223372036854775807 by rw [hN]; exact hin.2.1)
  clear hlv hl0 hLo hN hin ho honN
  go_enter Try.func53, Try.ntmps53
  go_wp2_with fail
  go_loopw [5, 6] (fun i _ wr => ∃ r : Nat, r ≤ 2 ∧ i = .int .i64 ((r : Int) + 1) ∧ Hid ((1 ≤ r → Lo ≠ 1 ∧ firstI (isL 1) qs 0 = -1) ∧ (2 ≤ r → Lo ≠ 2 ∧ firstI (isL 2) qs 0 = -1) ∧ Below w.heap.size w wr)) (fun i _ _ => 3 - (intOf i).toNat)
  case atStart => exact ⟨0, by omega, rfl, Lib.hid ⟨fun h => by omega, fun h => by omega, Below.refl _ _⟩⟩
  case round =>
    obtain ⟨r, hr, rfl, hH⟩ := hrel
    obtain ⟨wo, rfl⟩ : ∃ wo : World, wo = wr := ⟨_, rfl⟩
    by_cases hlt : r < 2
    · obtain ⟨J, hJ⟩ : ∃ J, J = (r : Int) + 1 := ⟨_, rfl⟩
      have HJ := Lib.hid hJ
      have hJ2 : J ≤ 2 := by omega
      have w1' : IntKind.i64.wrap (J + 1) = J + 1 := IntWalk.i64_in _ ⟨by omega, by omega⟩
      have HBW := Lib.hid hH.out.2.2
      have HP1 := Lib.hid hH.out.1
      have HRW := Lib.hid (show (Lo = J → rwinI qs on = on) ∧ (Lo ≠ J → firstI (isL J) qs 0 ≠ -1 → rwinI qs on = firstI (isL J) qs 0) from by
        have hP := hH.out.1
        have hL := HLO.out
        by_cases h0 : r = 0
        · have e : J = 1 := by omega
          subst e
          exact ⟨fun h => if_pos (by rw [← hL]; exact h), fun h1 h2 => (if_neg (by rw [← hL]; exact h1)).trans (if_pos h2)⟩
        · have e : J = 2 := by omega
          subst e
          have h1 := hP (by omega)
          have hb : rwinI qs on = if lvR qs on = 2 then on else if firstI (isL 2) qs 0 ≠ -1 then firstI (isL 2) qs 0 else rwB qs on := (if_neg (by rw [← hL]; exact h1.1)).trans (if_neg (fun h => h h1.2))
          exact ⟨fun h => hb.trans (if_pos (by rw [← hL]; exact h)), fun h2 h3 => hb.trans ((if_neg (by rw [← hL]; exact h2)).trans (if_pos h3))⟩)
      have HNX := Lib.hid (show Lo ≠ J → firstI (isL J) qs 0 = -1 → (1 ≤ r + 1 → Lo ≠ 1 ∧ firstI (isL 1) qs 0 = -1) ∧ (2 ≤ r + 1 → Lo ≠ 2 ∧ firstI (isL 2) qs 0 = -1) from fun h1 h2 => by
        have hP := hH.out.1
        by_cases h0 : r = 0
        · have e : J = 1 := by omega
          rw [e] at h1 h2
          exact ⟨fun _ => ⟨h1, h2⟩, fun h => by omega⟩
        · have e : J = 2 := by omega
          rw [e] at h1 h2
          exact ⟨fun _ => hP (by omega), fun _ => ⟨h1, h2⟩⟩)
      rw [← hJ]
      clear hJ hH
      go_wp2_with fail
      refine (HL0.out _ HBW.out).mono ?_
      rintro e w1 ⟨rfl, hb⟩
      have HB1 := Lib.hid (HBW.out.trans (hb.mono HBW.out.size))
      clear hb
      by_cases h1 : Lo = J
      · have HY := Lib.hid ((rwin_is qs on HOO.out HNO.out).symm.trans (HRW.out.1 h1))
        have t1 : (Lo == J) = true := by rw [beq_iff_eq]; exact h1
        clear h1
        go_wp2_with fail
        go_ret
        exact ⟨by rw [HY.out]; (first | done | rfl), HB1.out⟩
      · have HNE := Lib.hid h1
        have t1 : (Lo == J) = false := by rw [beq_eq_false_iff_ne]; exact h1
        clear h1
        go_wp2_with fail
        go_loopw [6] (fun i wr => ∃ j : Nat, j ≤ N ∧ i = .int .i64 j ∧ Hid (firstI (isL J) qs 0 = firstI (isL J) (qs.drop j) j ∧ Below w.heap.size w wr)) (fun i _ => N - (intOf i).toNat)
        case atStart => exact ⟨0, by omega, rfl, Lib.hid ⟨rfl, HB1.out⟩⟩
        case round =>
          obtain ⟨j, hj, rfl, hR⟩ := hrel
          by_cases hl : j < N
          · have hjx : j < qs.length := by rw [← HN.out]; exact hl
            obtain ⟨x, hx⟩ : ∃ x, qs[j]? = some x := ⟨_, List.getElem?_eq_getElem hjx⟩
            obtain ⟨V, hV⟩ : ∃ V, V = lvR qs (j : Int) := ⟨_, rfl⟩
            have hc := HLV.out (j : Int) (by omega) wr hR.out.2
            rw [← hV] at hc
            have HC := Lib.hid hc
            have HVX := Lib.hid (hV.trans (lvR_at hx))
            have HX := Lib.hid hx
            have HFI := Lib.hid hR.out.1
            have HBI := Lib.hid hR.out.2
            have hln : (j : Int) < (N : Int) := by omega
            have hnb : N ≤ 9223372036854775807 := HNB.out
            have w2' : IntKind.i64.wrap ((j : Int) + 1) = (j : Int) + 1 := IntWalk.i64_in _ ⟨by omega, by omega⟩
            clear hjx hx hV hc hR
            go_wp2_with fail
            refine (HC.out).mono ?_
            rintro e w2 ⟨rfl, hb⟩
            have HB2 := Lib.hid (HBI.out.trans (hb.mono HBI.out.size))
            clear hb
            by_cases h2 : V = J
            · have HM := Lib.hid (HFI.out.trans (firstI_hit HX.out (show isL J x = true from decide_eq_true (by rw [← HVX.out]; exact h2))))
              have HY := Lib.hid ((rwin_is qs on HOO.out HNO.out).symm.trans ((HRW.out.2 HNE.out (by rw [HM.out]; omega)).trans HM.out))
              have t2 : (V == J) = true := by rw [beq_iff_eq]; exact h2
              clear h2
              go_wp2_with fail
              go_ret
              exact ⟨by rw [HY.out]; (first | done | rfl), HB2.out⟩
            · have HM := Lib.hid (HFI.out.trans (firstI_miss HX.out (show isL J x = false from decide_eq_false (by rw [← HVX.out]; exact h2))))
              have t2 : (V == J) = false := by rw [beq_eq_false_iff_ne]; exact h2
              clear h2
              go_wp2_with fail
              go_roundw
              case rel => exact ⟨j + 1, by omega, by go_num, Lib.hid ⟨HM.out, HB2.out⟩⟩
              case measure => (simp [intOf]) <;> omega
          · obtain rfl : j = N := by omega
            have HM := Lib.hid (show firstI (isL J) qs 0 = -1 from hR.out.1.trans (by rw [HN.out]; exact firstI_end _ qs))
            have HB2 := Lib.hid hR.out.2
            have HP := Lib.hid (HNX.out HNE.out HM.out)
            clear hR
            go_wp2_with fail
            go_roundw
            case rel => exact ⟨r + 1, by omega, by have h := HJ.out; subst h; go_num, Lib.hid ⟨HP.out.1, HP.out.2, HB2.out⟩⟩
            case measure => have h := HJ.out; subst h; (simp [intOf]) <;> omega
    · obtain rfl : r = 2 := by omega
      have HP1 := Lib.hid (hH.out.1 (by omega))
      have HP2 := Lib.hid (hH.out.2.1 (by omega))
      have HBW := Lib.hid hH.out.2.2
      have HRB := Lib.hid ((rwin_is qs on HOO.out HNO.out).symm.trans (rwin_b (by rw [← HLO.out]; exact HP1.out.1) HP1.out.2 (by rw [← HLO.out]; exact HP2.out.1) HP2.out.2))
      clear hH
      go_wp2_with fail
      refine (HL0.out _ HBW.out).mono ?_
      rintro e w1 ⟨rfl, hb⟩
      have HB1 := Lib.hid (HBW.out.trans (hb.mono HBW.out.size))
      clear hb
      by_cases h1 : Lo ≤ 17
      · have HY := Lib.hid (HRB.out.trans (if_pos (by rw [← HLO.out]; exact h1)))
        go_wp2_with fail
        go_ret
        exact ⟨by rw [HY.out]; (first | done | rfl), HB1.out⟩
      · have HRC := Lib.hid (HRB.out.trans (if_neg (by rw [← HLO.out]; exact h1)))
        go_wp2_with fail
        go_loopw [7] (fun i wr => ∃ j : Nat, j ≤ N ∧ i = .int .i64 j ∧ Hid (firstI le17 qs 0 = firstI le17 (qs.drop j) j ∧ Below w.heap.size w wr)) (fun i _ => N - (intOf i).toNat)
        case atStart => exact ⟨0, by omega, rfl, Lib.hid ⟨rfl, HB1.out⟩⟩
        case round =>
          obtain ⟨j, hj, rfl, hR⟩ := hrel
          by_cases hl : j < N
          · have hjx : j < qs.length := by rw [← HN.out]; exact hl
            obtain ⟨x, hx⟩ : ∃ x, qs[j]? = some x := ⟨_, List.getElem?_eq_getElem hjx⟩
            obtain ⟨V, hV⟩ : ∃ V, V = lvR qs (j : Int) := ⟨_, rfl⟩
            have hc := HLV.out (j : Int) (by omega) wr hR.out.2
            rw [← hV] at hc
            have HC := Lib.hid hc
            have HVX := Lib.hid (hV.trans (lvR_at hx))
            have HX := Lib.hid hx
            have HFI := Lib.hid hR.out.1
            have HBI := Lib.hid hR.out.2
            have hln : (j : Int) < (N : Int) := by omega
            have hnb : N ≤ 9223372036854775807 := HNB.out
            have w2' : IntKind.i64.wrap ((j : Int) + 1) = (j : Int) + 1 := IntWalk.i64_in _ ⟨by omega, by omega⟩
            clear hjx hx hV hc hR
            go_wp2_with fail
            refine (HC.out).mono ?_
            rintro e w2 ⟨rfl, hb⟩
            have HB2 := Lib.hid (HBI.out.trans (hb.mono HBI.out.size))
            clear hb
            by_cases h2 : V ≤ 17
            · have HM := Lib.hid (HFI.out.trans (firstI_hit HX.out (show le17 x = true from decide_eq_true (by rw [← HVX.out]; exact h2))))
              have HY := Lib.hid (HRC.out.trans ((if_pos (by rw [HM.out]; omega)).trans HM.out))
              go_wp2_with fail
              go_ret
              exact ⟨by rw [HY.out]; (first | done | rfl), HB2.out⟩
            · have HM := Lib.hid (HFI.out.trans (firstI_miss HX.out (show le17 x = false from decide_eq_false (by rw [← HVX.out]; exact h2))))
              go_wp2_with fail
              go_roundw
              case rel => exact ⟨j + 1, by omega, by go_num, Lib.hid ⟨HM.out, HB2.out⟩⟩
              case measure => (simp [intOf]) <;> omega
          · obtain rfl : j = N := by omega
            have HM := Lib.hid (show firstI le17 qs 0 = -1 from hR.out.1.trans (by rw [HN.out]; exact firstI_end _ qs))
            have HB2 := Lib.hid hR.out.2
            have HRD := Lib.hid (HRC.out.trans (if_neg (fun h => h HM.out)))
            clear hR
            go_wp2_with fail
            refine (HL0.out _ HB2.out).mono ?_
            rintro e w3 ⟨rfl, hb⟩
            have HB3 := Lib.hid (HB2.out.trans (hb.mono HB2.out.size))
            clear hb
            by_cases h3 : Lo = 18
            · have HY := Lib.hid (HRD.out.trans (if_pos (by rw [← HLO.out]; exact h3)))
              have t3 : (Lo == 18) = true := by rw [beq_iff_eq]; exact h3
              clear h1 h3
              go_wp2_with fail
              go_ret
              exact ⟨by rw [HY.out]; (first | done | rfl), HB3.out⟩
            · have HY := Lib.hid (HRD.out.trans (if_neg (by rw [← HLO.out]; exact h3)))
              have t3 : (Lo == 18) = false := by rw [beq_eq_false_iff_ne]; exact h3
              clear h1 h3
              go_wp2_with fail
              go_ret
              exact ⟨by rw [HY.out]; (first | done | rfl), HB3.out⟩
end Go.Proofs.Ytojbhbifbennfaa
