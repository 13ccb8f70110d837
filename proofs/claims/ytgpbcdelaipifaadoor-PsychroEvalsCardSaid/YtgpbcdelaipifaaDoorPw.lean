/- awake answers true. Asked: the table reads as laid. -/
import Derived.Test.YtgpbcdelaipifaaDoorPe
namespace Go.Proofs.YtgpbcdelaipifaaDoor
open Go.RowKit Go.Shelf

theorem ex_mixT : mixT 20000 3 0 1 = 15000 := by kernel_rfl
theorem ex_mixW : mixW 5000 3 1000 1 = 4000 := by kernel_rfl
theorem ex_sat : satF 20000 = 14757 := by kernel_rfl
theorem ex_sat2 : satF 22000 = 16922 := by kernel_rfl
theorem ex_rat : ratF 20000 50000 = 7379 := by kernel_rfl
theorem ex_ent : entF 20000 7379 = 38849 := by kernel_rfl
theorem ex_dew : dewF 7661 = 10000 := by kernel_rfl
set_option maxHeartbeats 2000000 in
theorem awake_yes (w : World) (ht : SatT w) :
    Calls Tryd.prog 10 #[] w fun e w' => e = .returned (.bool true) ∧ Below w.heap.size w w' := by
  have KM := Lib.hid (fun w => by have h := mix_any 20000 5000 3 0 1000 1 w; rw [ex_mixT, ex_mixW] at h; exact h)
  have KS := Lib.hid (fun w1 (hb : Below w.heap.size w w1) => by have h := sat_any 20000 w1 (ht.below hb); rw [ex_sat] at h; exact h)
  have KS2 := Lib.hid (fun w1 (hb : Below w.heap.size w w1) => by have h := sat_any 22000 w1 (ht.below hb); rw [ex_sat2] at h; exact h)
  have KR := Lib.hid (fun w1 (hb : Below w.heap.size w w1) => by have h := ratio_any 20000 50000 w1 (ht.below hb); rw [ex_rat] at h; exact h)
  have KE := Lib.hid (fun w1 => by have h := enthalpy_any 20000 7379 w1; rw [ex_ent] at h; exact h)
  have KD := Lib.hid (fun w1 (hb : Below w.heap.size w w1) => by have h := dew_any 7661 w1 (ht.below hb); rw [ex_dew] at h; exact h)
  clear ht
  go_enter Tryd.func10, Tryd.ntmps10
  go_wp2_with fail
  refine (KM.out _).mono ?_
  rintro e w1 ⟨rfl, hb⟩
  have HB1 := Lib.hid hb
  clear hb
  go_wp2_with fail
  refine (KS.out _ HB1.out).mono ?_
  rintro e w2 ⟨rfl, hb⟩
  have HB2 := Lib.hid (below_step HB1.out hb)
  clear hb
  go_wp2_with fail
  refine (KS2.out _ HB2.out).mono ?_
  rintro e w3 ⟨rfl, hb⟩
  have HB3 := Lib.hid (below_step HB2.out hb)
  clear hb
  go_wp2_with fail
  refine (KR.out _ HB3.out).mono ?_
  rintro e w4 ⟨rfl, hb⟩
  have HB4 := Lib.hid (below_step HB3.out hb)
  clear hb
  go_wp2_with fail
  refine (KE.out _).mono ?_
  rintro e w5 ⟨rfl, hb⟩
  have HB5 := Lib.hid (below_step HB4.out hb)
  clear hb
  go_wp2_with fail
  refine (KD.out _ HB5.out).mono ?_
  rintro e w6 ⟨rfl, hb⟩
  have HB6 := Lib.hid (below_step HB5.out hb)
  clear hb
  go_wp2_with fail
  go_ret
  exact ⟨rfl, HB6.out⟩
end Go.Proofs.YtgpbcdelaipifaaDoor
