/- The law FixedNear returns true for every input. Asked: strconv's table reads as laid. -/
import Derived.Test.YtckbfkkohkmcaaaDoorW
namespace Go.Proofs.YtckbfkkohkmcaaaDoor
open Go.RowKit

set_option maxHeartbeats 1000000 in
theorem near_law (a b c : Int) (w : World) (ht : Tab w) :
    Calls Tryd.prog 6 #[.int .i64 a, .int .i64 b, .int .i64 c] w fun e w' => e = .returned (.bool true) ∧ Below w.heap.size w w' := by
  have HW := Lib.hid (awake_any w ht)
  clear ht
  by_cases h : -1000000 ≤ a ∧ a ≤ 1000000 ∧ -1000000 ≤ b ∧ b ≤ 1000000 ∧ 1 ≤ c ∧ c ≤ 1000000
  · obtain ⟨a1, a2, b1, b2, c1, c2⟩ := h
    have hR : mulDivI a b c = quoI (a * b) c := by unfold mulDivI; rw [clampI_in a (by omega) (by omega), clampI_in b (by omega) (by omega), clampI_in c (by omega) (by omega)]
    have hp := mul_bound a b 1000000 1000000 (by omega) a2 (by omega) b2
    have hn := quoI_near (a * b) c (by omega) (by omega)
    rw [← hR] at hn
    have Hm := Lib.hid fun w => muldiv_any a b c w
    obtain ⟨R, hRe⟩ : ∃ R, R = mulDivI a b c := ⟨_, rfl⟩
    rw [← hRe] at Hm hn
    obtain ⟨P, hP⟩ : ∃ P, P = a * b := ⟨_, rfl⟩
    obtain ⟨Q, hQ⟩ : ∃ Q, Q = R * c := ⟨_, rfl⟩
    rw [← hP] at hp hn
    rw [← hQ] at hn
    have e1 : wrap64 (a * b) = P := by rw [hP]; unfold wrap64; omega
    have e2 : wrap64 (R * c) = Q := by rw [← hQ]; unfold wrap64; omega
    obtain ⟨D, hD⟩ : ∃ D, D = P - Q := ⟨_, rfl⟩
    rw [← hD] at hn
    have e3 : wrap64 (P - Q) = D := by rw [← hD]; unfold wrap64; omega
    have e4 : wrap64 (2 * D) = 2 * D := by unfold wrap64; omega
    have t1 : decide (2 * D ≤ c) = true := by rw [decide_eq_true_eq]; omega
    have t2 : decide (-c ≤ 2 * D) = true := by rw [decide_eq_true_eq]; omega
    clear hR hRe hP hQ hD hp hn
    go_enter Tryd.func6, Tryd.ntmps6
    go_wp2_with fail
    refine HW.out.mono ?_
    rintro e w1 ⟨rfl, hb1⟩
    have B1 := Lib.hid hb1
    clear hb1
    go_wp2_with fail
    refine (Hm.out _).mono ?_
    rintro e w2 ⟨rfl, hb2⟩
    have B2 := Lib.hid (B1.out.trans (hb2.mono B1.out.size))
    clear hb2
    go_wp2_with fail
    go_ret
    exact ⟨rfl, B2.out⟩
  · go_enter Tryd.func6, Tryd.ntmps6
    go_wp2_with fail
    refine HW.out.mono ?_
    rintro e w1 ⟨rfl, hb1⟩
    have B1 := Lib.hid hb1
    have h' := Lib.hid h
    clear hb1 h
    go_wp2_with fail
    all_goals first | (go_ret; exact ⟨rfl, B1.out⟩) | (exfalso; have h2 := h'.out; omega)
end Go.Proofs.YtckbfkkohkmcaaaDoor
