/- Contracts of plenumref19: all but step and Settle. -/
import Derived.Test.YtmhfkdnblemfdaaDoorDe
import Derived.Deep.QuietTactic
import Derived.BigQuiet
namespace Go.Proofs.YtmhfkdnblemfdaaDoor
open Go.RowKit Go.Shelf

set_option linter.unusedVariables false
set_option linter.unusedSimpArgs false
theorem rinside_any (n : Int) (w : World) : Calls Tryd.prog 53 #[.int .i64 n] w fun e w' => e = .returned (.bool (inZ (-1000000000000) n 1000000000000)) ∧ w = w' := by
  by_cases h1 : (-1000000000000) ≤ n
  · by_cases h2 : n ≤ 1000000000000
    · rw [inZ_yes h1 h2]
      go_enter Tryd.func53, Tryd.ntmps53
      go_wp2_with fail
      go_ret
      exact ⟨rfl, rfl⟩
    · rw [inZ_no (fun h => h2 h.2)]
      go_enter Tryd.func53, Tryd.ntmps53
      go_wp2_with fail
      go_ret
      exact ⟨rfl, rfl⟩
  · rw [inZ_no (fun h => h1 h.1)]
    go_enter Tryd.func53, Tryd.ntmps53
    go_wp2_with fail
    go_ret
    exact ⟨rfl, rfl⟩
theorem rseconds_any (n : Int) (w : World) : Calls Tryd.prog 54 #[.int .i64 n] w fun e w' => e = .returned (.bool (inZ 0 n 86400)) ∧ w = w' := by
  by_cases h1 : 0 ≤ n
  · by_cases h2 : n ≤ 86400
    · rw [inZ_yes h1 h2]
      go_enter Tryd.func54, Tryd.ntmps54
      go_wp2_with fail
      go_ret
      exact ⟨rfl, rfl⟩
    · rw [inZ_no (fun h => h2 h.2)]
      go_enter Tryd.func54, Tryd.ntmps54
      go_wp2_with fail
      go_ret
      exact ⟨rfl, rfl⟩
  · rw [inZ_no (fun h => h1 h.1)]
    go_enter Tryd.func54, Tryd.ntmps54
    go_wp2_with fail
    go_ret
    exact ⟨rfl, rfl⟩
theorem rleast_any (pb po pc : Nat) (p0 p1 o : Int) (w : World) (q0 : w.cell? ⟨pb, po, none⟩ = some (.int .i64 p0)) (q1 : w.cell? ⟨pb, po + 1, none⟩ = some (.int .i64 p1)) :
    Calls Tryd.prog 26 #[.slice (some ⟨pb, po, none⟩) 2 pc, .int .i64 o] w fun e w' => e = .returned (.int .i64 (leastN p0 p1 o)) ∧ w = w' := by
  by_cases h : o = 1
  · have HE := Lib.hid (show leastN p0 p1 o = p0 from if_pos h)
    obtain ⟨L, hL⟩ : ∃ x, x = leastN p0 p1 o := ⟨_, rfl⟩
    rw [← hL] at HE ⊢
    have b1 : (o == 1) = true := by rw [beq_iff_eq]; exact h
    clear hL h
    go_enter Tryd.func26, Tryd.ntmps26
    go_wp2_with fail
    go_ret
    exact ⟨by rw [HE.out]; rfl, rfl⟩
  · have HE := Lib.hid (show leastN p0 p1 o = p1 from if_neg h)
    obtain ⟨L, hL⟩ : ∃ x, x = leastN p0 p1 o := ⟨_, rfl⟩
    rw [← hL] at HE ⊢
    have b1 : (o == 1) = false := by rw [beq_eq_false_iff_ne]; exact h
    clear hL h
    go_enter Tryd.func26, Tryd.ntmps26
    go_wp2_with fail
    go_ret
    exact ⟨by rw [HE.out]; rfl, rfl⟩
theorem rLength_count (w : World) : Calls Tryd.prog 25 #[.string ⟨#[99, 111, 117, 110, 116]⟩] w fun e w' => e = .returned (.int .i64 2) ∧ w = w' := by
  go_enter Tryd.func25, Tryd.ntmps25
  go_wp2_with fail
  go_ret
  exact ⟨rfl, rfl⟩
theorem rCount_count (w : World) : Calls Tryd.prog 36 #[.string ⟨#[99, 111, 117, 110, 116]⟩] w fun e w' => e = .returned (.int .i64 2) ∧ w = w' := by
  go_enter Tryd.func36, Tryd.ntmps36
  go_wp2_with fail
  go_ret
  exact ⟨rfl, rfl⟩
theorem rLength_edge (w : World) : Calls Tryd.prog 25 #[.string ⟨#[101, 100, 103, 101]⟩] w fun e w' => e = .returned (.int .i64 1) ∧ w = w' := by
  go_enter Tryd.func25, Tryd.ntmps25
  go_wp2_with fail
  go_ret
  exact ⟨rfl, rfl⟩
theorem rCount_edge (w : World) : Calls Tryd.prog 36 #[.string ⟨#[101, 100, 103, 101]⟩] w fun e w' => e = .returned (.int .i64 1) ∧ w = w' := by
  go_enter Tryd.func36, Tryd.ntmps36
  go_wp2_with fail
  go_ret
  exact ⟨rfl, rfl⟩
theorem rLength_hyst (w : World) : Calls Tryd.prog 25 #[.string ⟨#[104, 121, 115, 116]⟩] w fun e w' => e = .returned (.int .i64 1) ∧ w = w' := by
  go_enter Tryd.func25, Tryd.ntmps25
  go_wp2_with fail
  go_ret
  exact ⟨rfl, rfl⟩
theorem rCount_hyst (w : World) : Calls Tryd.prog 36 #[.string ⟨#[104, 121, 115, 116]⟩] w fun e w' => e = .returned (.int .i64 1) ∧ w = w' := by
  go_enter Tryd.func36, Tryd.ntmps36
  go_wp2_with fail
  go_ret
  exact ⟨rfl, rfl⟩
theorem rLength_latch (w : World) : Calls Tryd.prog 25 #[.string ⟨#[108, 97, 116, 99, 104]⟩] w fun e w' => e = .returned (.int .i64 1) ∧ w = w' := by
  go_enter Tryd.func25, Tryd.ntmps25
  go_wp2_with fail
  go_ret
  exact ⟨rfl, rfl⟩
theorem rCount_latch (w : World) : Calls Tryd.prog 36 #[.string ⟨#[108, 97, 116, 99, 104]⟩] w fun e w' => e = .returned (.int .i64 2) ∧ w = w' := by
  go_enter Tryd.func36, Tryd.ntmps36
  go_wp2_with fail
  go_ret
  exact ⟨rfl, rfl⟩
theorem rLength_minrun (w : World) : Calls Tryd.prog 25 #[.string ⟨#[109, 105, 110, 114, 117, 110]⟩] w fun e w' => e = .returned (.int .i64 2) ∧ w = w' := by
  go_enter Tryd.func25, Tryd.ntmps25
  go_wp2_with fail
  go_ret
  exact ⟨rfl, rfl⟩
theorem rCount_minrun (w : World) : Calls Tryd.prog 36 #[.string ⟨#[109, 105, 110, 114, 117, 110]⟩] w fun e w' => e = .returned (.int .i64 1) ∧ w = w' := by
  go_enter Tryd.func36, Tryd.ntmps36
  go_wp2_with fail
  go_ret
  exact ⟨rfl, rfl⟩
theorem rLength_offdelay (w : World) : Calls Tryd.prog 25 #[.string ⟨#[111, 102, 102, 100, 101, 108, 97, 121]⟩] w fun e w' => e = .returned (.int .i64 1) ∧ w = w' := by
  go_enter Tryd.func25, Tryd.ntmps25
  go_wp2_with fail
  go_ret
  exact ⟨rfl, rfl⟩
theorem rCount_offdelay (w : World) : Calls Tryd.prog 36 #[.string ⟨#[111, 102, 102, 100, 101, 108, 97, 121]⟩] w fun e w' => e = .returned (.int .i64 1) ∧ w = w' := by
  go_enter Tryd.func36, Tryd.ntmps36
  go_wp2_with fail
  go_ret
  exact ⟨rfl, rfl⟩
theorem rLength_ondelay (w : World) : Calls Tryd.prog 25 #[.string ⟨#[111, 110, 100, 101, 108, 97, 121]⟩] w fun e w' => e = .returned (.int .i64 1) ∧ w = w' := by
  go_enter Tryd.func25, Tryd.ntmps25
  go_wp2_with fail
  go_ret
  exact ⟨rfl, rfl⟩
theorem rCount_ondelay (w : World) : Calls Tryd.prog 36 #[.string ⟨#[111, 110, 100, 101, 108, 97, 121]⟩] w fun e w' => e = .returned (.int .i64 1) ∧ w = w' := by
  go_enter Tryd.func36, Tryd.ntmps36
  go_wp2_with fail
  go_ret
  exact ⟨rfl, rfl⟩
theorem rLength_pulse (w : World) : Calls Tryd.prog 25 #[.string ⟨#[112, 117, 108, 115, 101]⟩] w fun e w' => e = .returned (.int .i64 2) ∧ w = w' := by
  go_enter Tryd.func25, Tryd.ntmps25
  go_wp2_with fail
  go_ret
  exact ⟨rfl, rfl⟩
theorem rCount_pulse (w : World) : Calls Tryd.prog 36 #[.string ⟨#[112, 117, 108, 115, 101]⟩] w fun e w' => e = .returned (.int .i64 1) ∧ w = w' := by
  go_enter Tryd.func36, Tryd.ntmps36
  go_wp2_with fail
  go_ret
  exact ⟨rfl, rfl⟩
theorem rnames_any (w : World) : Calls Tryd.prog 52 #[] w fun e w' => ∃ g, e = .returned (.slice (some ⟨g, 0, none⟩) 8 8) ∧ RowAt w' g (#[.string ⟨#[99, 111, 117, 110, 116]⟩, .string ⟨#[101, 100, 103, 101]⟩, .string ⟨#[104, 121, 115, 116]⟩, .string ⟨#[108, 97, 116, 99, 104]⟩, .string ⟨#[109, 105, 110, 114, 117, 110]⟩, .string ⟨#[111, 102, 102, 100, 101, 108, 97, 121]⟩, .string ⟨#[111, 110, 100, 101, 108, 97, 121]⟩, .string ⟨#[112, 117, 108, 115, 101]⟩] : Array Value).toList ∧ Below w.heap.size w w' := by
  go_enter Tryd.func52, Tryd.ntmps52
  go_wp2_with fail
  go_ret
  exact ⟨_, rfl, row_fresh w _ _, (Below.refl _ _).alloc (Nat.le_refl _) _⟩
set_option maxHeartbeats 2000000 in
theorem rknown_any (s : ByteArray) (w : World) : Calls Tryd.prog 34 #[.string s] w fun e w' => e = .returned (.bool (timerNames.any fun x => eqS x s)) ∧ Below w.heap.size w w' := by
  obtain ⟨F, hF⟩ : ∃ x, x = (timerNames.any fun x => eqS x s) := ⟨_, rfl⟩
  have HF := Lib.hid hF
  rw [← hF]
  clear hF
  go_enter Tryd.func34, Tryd.ntmps34
  go_wp2_with fail
  refine (rnames_any _).mono ?_
  rintro e w1 ⟨g, rfl, hr, hb⟩
  have HR := Lib.hid hr
  have HB := Lib.hid hb
  clear hr hb
  go_wp2_with fail
  go_loopw [4] (fun i wr => ∃ j : Nat, j ≤ 8 ∧ i = .int .i64 j ∧ Hid (wr = w1 ∧ ∀ k x, k < j → timerNames[k]? = some x → ¬ x = s)) (fun i _ => 8 - (intOf i).toNat)
  case atStart => exact ⟨0, Nat.zero_le _, rfl, Lib.hid ⟨by first | rfl | trivial, fun k x h => by omega⟩⟩
  case round =>
    obtain ⟨j, hj, rfl, hH⟩ := hrel
    have HAL := Lib.hid hH.out.2
    obtain rfl := hH.out.1
    clear hH
    by_cases hlt : j < 8
    · obtain ⟨x, hx⟩ : ∃ x, timerNames[j]? = some x := ⟨_, List.getElem?_eq_getElem (by show j < 8; omega)⟩
      have q0 : wr.cell? ⟨g, j, none⟩ = some (.string x) := HR.out.c j _ (by
        have h : j = 0 ∨ j = 1 ∨ j = 2 ∨ j = 3 ∨ j = 4 ∨ j = 5 ∨ j = 6 ∨ j = 7 := by omega
        rcases h with rfl | rfl | rfl | rfl | rfl | rfl | rfl | rfl <;> (cases hx; rfl))
      have HX := Lib.hid hx
      have k1 : (0 : Int) ≤ (j : Int) := by omega
      have k2 : (j : Int) < 8 := by omega
      have k3 : IntKind.i64.wrap ((j : Int) + 1) = (j : Int) + 1 := IntWalk.i64_in _ (by omega)
      clear hx
      by_cases he : x = s
      · have HE := Lib.hid he
        have be : (x.toList == s.toList) = true := by rw [beqS]; exact decide_eq_true he
        clear he
        go_wp2_with fail
        go_ret
        exact ⟨by rw [show F = true by rw [HF.out, List.any_eq_true]; exact ⟨x, List.mem_of_getElem? HX.out, by rw [HE.out]; unfold eqS; exact decide_eq_true rfl⟩]; rfl, HB.out⟩
      · have HE := Lib.hid he
        have be : (x.toList == s.toList) = false := by rw [beqS]; exact decide_eq_false he
        clear he
        have HN := Lib.hid (show ∀ k y, k < j + 1 → timerNames[k]? = some y → ¬ y = s from fun k y hk hy => by
          by_cases hkj : k = j
          · subst hkj; rw [HX.out] at hy; cases hy; exact HE.out
          · exact HAL.out k y (by omega) hy)
        go_wp2_with fail
        go_roundw
        case rel => exact ⟨j + 1, by omega, by go_num, Lib.hid ⟨by first | rfl | trivial, HN.out⟩⟩
        case measure => (simp [intOf]) <;> omega
    · obtain rfl : j = 8 := by omega
      go_wp2_with fail
      go_ret
      refine ⟨?_, HB.out⟩
      rw [show F = false by
        rw [HF.out]
        cases h : (timerNames.any fun x => eqS x s) with
        | false => rfl
        | true =>
          obtain ⟨x, hx, he⟩ := List.any_eq_true.1 h
          obtain ⟨k, hk⟩ := List.mem_iff_getElem?.1 hx
          exact absurd (of_decide_eq_true (by unfold eqS at he; exact he)) (HAL.out k x (by have := (List.getElem?_eq_some_iff.1 hk).1; exact this) hk)]
      rfl
end Go.Proofs.YtmhfkdnblemfdaaDoor
