/- Contract of fits. -/
import Derived.Test.YtojbhbifbennfaaOp
import Derived.Test.YtojbhbifbennfaaPm
namespace Go.Proofs.Ytojbhbifbennfaa
open Go.RowKit Go.Shelf

def rowOk (P : Nat) (a : List Int) : Prop := a.length = P ∧ ∀ l ∈ a, 0 ≤ l ∧ l ≤ 18
def FitPost (P : Nat) (dd now : Int) (rs : List (List Int)) (e : Ending) : Prop := (e = .returned (.bool true) ∧ FitsA P dd now rs ∧ P ≤ 20) ∨ e = .returned (.bool false)
theorem fitp_no (P : Nat) (dd now : Int) (rs : List (List Int)) : FitPost P dd now rs (.returned (.bool false)) := .inr rfl
theorem fitp_yes {P : Nat} {dd now : Int} {rs : List (List Int)} (h1 : P ≤ 20) (h2 : 0 ≤ dd) (h3 : dd ≤ 3600) (h4 : 0 ≤ now) (h5 : now ≤ 1000000) (h6 : rs.length ≤ 40) (h7 : ∀ (i : Nat) (a : List Int), rs[i]? = some a → rowOk P a) : FitPost P dd now rs (.returned (.bool true)) :=
  .inl ⟨rfl, ⟨h2, h3, h4, h5, h6, fun a ha => by obtain ⟨i, hi⟩ := List.mem_iff_getElem?.1 ha; exact h7 i a hi⟩, h1⟩

set_option maxHeartbeats 8000000 in
set_option maxRecDepth 100000 in
theorem fits_any (nm : Value) (pa : Option Addr) (P pc : Nat) (dd : Int) (now : Int) (a : Option Addr) (cap : Nat) (xs : List SlD) (rs : List (List Int)) (w : World) (hin : InS w a xs.length 1 (flat slL xs)) (hrw : RowsIn w xs rs) : Calls Try.prog 31 #[.agg #[nm, .slice pa P pc, .int .i64 dd], .int .i64 now, .slice a xs.length cap] w fun e w' => FitPost P dd now rs e ∧ Below w.heap.size w w' := by
  obtain ⟨N, hN⟩ : ∃ N, N = xs.length := ⟨_, rfl⟩
  have HN := Lib.hid hN
  have HI := Lib.hid hin
  have HRW := Lib.hid hrw
  have hmx : N ≤ 9223372036854775807 := by have := hin.2.1; omega
  rw [← hN]
  clear hN hin hrw
  obtain ⟨W, g, hW, hg, R1, B, sz⟩ := box1 w #[nm, .slice pa P pc, .int .i64 dd] 33
  have HG := Lib.hid R1
  have HB := Lib.hid B
  clear R1 B sz
  go_enter Try.func31, Try.ntmps31
  go_upto_region 1 with fail
  rw [← hW]
  try rw [← hg]
  clear hW hg
  have g_0 := HG.out.c 0 _ rfl
  have g_1 := HG.out.c 1 _ rfl
  have g_2 := HG.out.c 2 _ rfl
  by_cases h1 : 20 < (P : Int)
  · go_wp2_with fail
    go_ret
    exact ⟨fitp_no _ _ _ _, HB.out⟩
  by_cases h2 : dd < 0
  · go_wp2_with fail
    go_ret
    exact ⟨fitp_no _ _ _ _, HB.out⟩
  by_cases h3 : 3600 < dd
  · go_wp2_with fail
    go_ret
    exact ⟨fitp_no _ _ _ _, HB.out⟩
  by_cases h4 : now < 0
  · go_wp2_with fail
    go_ret
    exact ⟨fitp_no _ _ _ _, HB.out⟩
  by_cases h5 : 1000000 < now
  · go_wp2_with fail
    go_ret
    exact ⟨fitp_no _ _ _ _, HB.out⟩
  by_cases h6 : 40 < (N : Int)
  · go_wp2_with fail
    go_ret
    exact ⟨fitp_no _ _ _ _, HB.out⟩
  have HH1 := Lib.hid (show P ≤ 20 by omega)
  have HH2 := Lib.hid (show 0 ≤ dd ∧ dd ≤ 3600 ∧ 0 ≤ now ∧ now ≤ 1000000 ∧ N ≤ 40 by omega)
  go_wp2_with fail
  clear g_0 g_1 g_2 h1 h2 h3 h4 h5 h6
  go_loopw [7] (fun i wr => ∃ j : Nat, j ≤ N ∧ i = .int .i64 j ∧ Hid ((∀ (i : Nat) (a : List Int), i < j → rs[i]? = some a → rowOk P a) ∧ Below W.heap.size W wr)) (fun i _ => N - (intOf i).toNat)
  case atStart => exact ⟨0, by omega, rfl, Lib.hid ⟨fun i a hi => by omega, Below.refl _ _⟩⟩
  case round =>
    obtain ⟨j, hj, rfl, hH⟩ := hrel
    by_cases hlt : j < N
    · obtain ⟨x, hx⟩ : ∃ x, xs[j]? = some x := ⟨_, List.getElem?_eq_getElem (by rw [← HN.out]; exact hlt)⟩
      obtain ⟨a, ha⟩ : ∃ a, rs[j]? = some a := ⟨_, List.getElem?_eq_getElem (by rw [HRW.out.1, ← HN.out]; exact hlt)⟩
      obtain ⟨xa, xn, xc⟩ := x
      have HRA := Lib.hid (HRW.out.2 j _ a hx ha)
      obtain ⟨b, of, rfl, hbl, hcell⟩ := (HI.out.keep HB.out).at slL_len (by have := HN.out; omega)
      have d0 := hcell j _ hx 0 _ rfl
      rw [Nat.add_zero, Nat.mul_one] at d0
      have HBL := Lib.hid hbl
      have HD0 := Lib.hid d0
      have c0 := (hH.out.2.cell (p := ⟨b, of + j, none⟩) hbl).trans d0
      have HJ := Lib.hid hH.out.1
      have HBR := Lib.hid hH.out.2
      have HG1 := Lib.hid (HG.out.keep hH.out.2)
      have HX := Lib.hid hx
      have HA := Lib.hid ha
      have k1 : (0 : Int) ≤ (j : Int) := by omega
      have k2 : (j : Int) < (N : Int) := by omega
      clear hx ha hcell hbl d0 hH
      have HBX := Lib.hid (HB.out.trans (HBR.out.mono HB.out.size).drew)
      have g_0 := HG1.out.c 0 _ rfl
      have g_1 := HG1.out.c 1 _ rfl
      have g_2 := HG1.out.c 2 _ rfl
      by_cases hP : xn = P
      · have t1 : ((xn : Int) != (P : Int)) = false := by simp [hP]
        have hm : (xn : Int) ≤ 9223372036854775807 := by have h : xn ≤ 9223372036854775807 := HRA.out.2.2.1; omega
        have HGD := Lib.hid (HG1.out.drew)
        clear g_0 g_1 g_2
        have g_0 := HG1.out.c 0 _ rfl
        have g_1 := HG1.out.c 1 _ rfl
        have g_2 := HG1.out.c 2 _ rfl
        go_wp2_with fail
        go_region
        clear g_0 g_1 g_2 c0
        go_wp2_with fail
        go_loopw [8] (fun i wr2 => ∃ k : Nat, k ≤ xn ∧ i = .int .i64 k ∧ Hid ((∀ (m : Nat) (l : Int), m < k → a[m]? = some l → 0 ≤ l ∧ l ≤ 18) ∧ Below W.heap.size W wr2)) (fun i _ => xn - (intOf i).toNat)
        case atStart => exact ⟨0, by omega, rfl, Lib.hid ⟨fun m l hm => by omega, HBR.out.drew⟩⟩
        case round =>
          obtain ⟨k, hk, rfl, hK⟩ := hrel
          have HK := Lib.hid hK.out.1
          have HBI := Lib.hid hK.out.2
          have HBX := Lib.hid (HB.out.trans (HBI.out.mono HB.out.size))
          have c0 := (HBI.out.cell (p := ⟨b, of + j, none⟩) HBL.out).trans HD0.out
          have k3 : (0 : Int) ≤ (k : Int) := by omega
          clear hK
          by_cases hkl : k < xn
          · obtain ⟨l, hl⟩ : ∃ l, a[k]? = some l := ⟨_, List.getElem?_eq_getElem (by rw [HRA.out.1]; exact hkl)⟩
            obtain ⟨b2, o2, rfl, hb2, hc2⟩ := InS.at (f := iL) (xs := a) iL_len (by rw [HRA.out.1]; exact HRA.out.2.keep HBX.out) (by rw [HRA.out.1]; omega)
            have c2 := hc2 k _ hl 0 _ rfl
            rw [Nat.add_zero, Nat.mul_one] at c2
            have HLL := Lib.hid hl
            have k4 : (k : Int) < (xn : Int) := by omega
            clear hl hb2 hc2
            have hl1 : 0 ≤ l ∧ l ≤ 18 ∨ l < 0 ∨ 18 < l := by omega
            rcases hl1 with ⟨q1, q2⟩ | q1 | q1
            · have HK2 := Lib.hid (show ∀ m l', m < k + 1 → a[m]? = some l' → 0 ≤ l' ∧ l' ≤ 18 from fun m l' hm hl' => by
                by_cases h : m < k
                · exact HK.out m l' h hl'
                · obtain rfl : m = k := by omega
                  have h3 := HLL.out
                  rw [h3] at hl'
                  obtain rfl : l = l' := by simpa using hl'
                  exact ⟨q1, q2⟩)
              go_wp2_with fail
              go_roundw
              case rel => exact ⟨k + 1, by omega, by go_num, Lib.hid ⟨HK2.out, HBI.out⟩⟩
              case measure => (simp [intOf]) <;> omega
            · go_wp2_with fail
              go_ret
              exact ⟨fitp_no _ _ _ _, HBX.out⟩
            · go_wp2_with fail
              go_ret
              exact ⟨fitp_no _ _ _ _, HBX.out⟩
          · obtain rfl : k = xn := by omega
            have HJ2 := Lib.hid (show ∀ (i : Nat) (a' : List Int), i < j + 1 → rs[i]? = some a' → rowOk P a' from fun i a' hi ha' => by
              by_cases h : i < j
              · exact HJ.out i a' h ha'
              · obtain rfl : i = j := by omega
                rw [HA.out] at ha'
                obtain rfl : a = a' := by simpa using ha'
                refine ⟨by rw [HRA.out.1]; exact hP, fun l hl => ?_⟩
                obtain ⟨m, hm, rfl⟩ := List.mem_iff_getElem.1 hl
                exact HK.out m _ (by rw [← HRA.out.1]; exact hm) (List.getElem?_eq_getElem hm))
            go_wp2_with fail
            go_roundw
            case rel => exact ⟨j + 1, by omega, by go_num, Lib.hid ⟨HJ2.out, HBI.out⟩⟩
            case measure => (simp [intOf]) <;> omega
      · have t1 : ((xn : Int) != (P : Int)) = true := by simp; omega
        go_wp2_with fail
        go_region
        go_wp2_with fail
        go_ret
        exact ⟨fitp_no _ _ _ _, HBX.out⟩
    · obtain rfl : j = N := by omega
      have HJ := Lib.hid hH.out.1
      have HBE := Lib.hid (HB.out.trans (hH.out.2.mono HB.out.size))
      clear hH
      go_wp2_with fail
      go_ret
      refine ⟨fitp_yes HH1.out HH2.out.1 HH2.out.2.1 HH2.out.2.2.1 HH2.out.2.2.2.1 (by rw [HRW.out.1, ← HN.out]; exact HH2.out.2.2.2.2) (fun i a ha => HJ.out i a ?_ ha), HBE.out⟩
      rw [HN.out, ← HRW.out.1]
      exact (List.getElem?_eq_some_iff.1 ha).1
end Go.Proofs.Ytojbhbifbennfaa
