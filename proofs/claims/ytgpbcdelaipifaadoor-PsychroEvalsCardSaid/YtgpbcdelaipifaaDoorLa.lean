/- The laws Air, Heat, Monotone, Dew, Inverse of psychro: true for every input. Asked: the table reads as laid. -/
import Derived.Test.YtgpbcdelaipifaaDoorPw
namespace Go.Proofs.YtgpbcdelaipifaaDoor
open Go.RowKit Go.Shelf

set_option maxRecDepth 100000 in
set_option maxHeartbeats 4000000 in
theorem air_law (t h x : Int) (w : World) (ht : SatT w) :
    Calls Tryd.prog 3 #[.int .i64 t, .int .i64 h, .int .i64 x] w fun e w' => e = .returned (.bool true) ∧ Below w.heap.size w w' := by
  have KAW := Lib.hid (fun w1 (hb : Below w.heap.size w w1) => show Calls Tryd.prog 10 #[] w1 fun e w' => e = .returned (.bool true) ∧ Below w1.heap.size w1 w' by exact awake_yes w1 (ht.below hb))
  have K1 := Lib.hid (fun w1 (hb : Below w.heap.size w w1) => show Calls Tryd.prog 11 #[.int .i64 t] w1 fun e w' => e = .returned (.int .i64 (satF t)) ∧ Below w1.heap.size w1 w' by exact sat_any t w1 (ht.below hb))
  have K2 := Lib.hid (fun w1 (hb : Below w.heap.size w w1) => show Calls Tryd.prog 12 #[.int .i64 t] w1 fun e w' => e = .returned (.int .i64 (satF t)) ∧ Below w1.heap.size w1 w' by exact rsat_any t w1)
  have K3 := Lib.hid (fun w1 (hb : Below w.heap.size w w1) => show Calls Tryd.prog 13 #[.int .i64 t, .int .i64 h] w1 fun e w' => e = .returned (.int .i64 (ratF t h)) ∧ Below w1.heap.size w1 w' by exact ratio_any t h w1 (ht.below hb))
  have K4 := Lib.hid (fun w1 (hb : Below w.heap.size w w1) => show Calls Tryd.prog 14 #[.int .i64 t, .int .i64 h] w1 fun e w' => e = .returned (.int .i64 (ratF t h)) ∧ Below w1.heap.size w1 w' by exact rratio_any t h w1)
  have K5 := Lib.hid (fun w1 (hb : Below w.heap.size w w1) => show Calls Tryd.prog 15 #[.int .i64 t, .int .i64 x] w1 fun e w' => e = .returned (.int .i64 (humF t x)) ∧ Below w1.heap.size w1 w' by exact humidity_any t x w1 (ht.below hb))
  have K6 := Lib.hid (fun w1 (hb : Below w.heap.size w w1) => show Calls Tryd.prog 16 #[.int .i64 t, .int .i64 x] w1 fun e w' => e = .returned (.int .i64 (humF t x)) ∧ Below w1.heap.size w1 w' by exact rhum_any t x w1)
  have K7 := Lib.hid (fun w1 (hb : Below w.heap.size w w1) => show Calls Tryd.prog 17 #[.int .i64 x] w1 fun e w' => e = .returned (.int .i64 (dewF x)) ∧ Below w1.heap.size w1 w' by exact dew_any x w1 (ht.below hb))
  have K8 := Lib.hid (fun w1 (hb : Below w.heap.size w w1) => show Calls Tryd.prog 18 #[.int .i64 x] w1 fun e w' => e = .returned (.int .i64 (dewF x)) ∧ Below w1.heap.size w1 w' by exact rdew_any x w1)
  have HB0 := Lib.hid (Below.refl w.heap.size w)
  clear ht
  go_enter Tryd.func3, Tryd.ntmps3
  go_wp2_with fail
  refine (KAW.out _ HB0.out).mono ?_
  rintro e w1 ⟨rfl, hb⟩
  have HB1 := Lib.hid (below_step HB0.out hb)
  clear hb
  go_wp2_with fail
  refine (K1.out _ HB1.out).mono ?_
  rintro e w2 ⟨rfl, hb⟩
  have HB2 := Lib.hid (below_step HB1.out hb)
  clear hb
  go_wp2_with fail
  refine (K2.out _ HB2.out).mono ?_
  rintro e w3 ⟨rfl, hb⟩
  have HB3 := Lib.hid (below_step HB2.out hb)
  clear hb
  go_wp2_with fail
  refine (K3.out _ HB3.out).mono ?_
  rintro e w4 ⟨rfl, hb⟩
  have HB4 := Lib.hid (below_step HB3.out hb)
  clear hb
  go_wp2_with fail
  refine (K4.out _ HB4.out).mono ?_
  rintro e w5 ⟨rfl, hb⟩
  have HB5 := Lib.hid (below_step HB4.out hb)
  clear hb
  go_wp2_with fail
  refine (K5.out _ HB5.out).mono ?_
  rintro e w6 ⟨rfl, hb⟩
  have HB6 := Lib.hid (below_step HB5.out hb)
  clear hb
  go_wp2_with fail
  refine (K6.out _ HB6.out).mono ?_
  rintro e w7 ⟨rfl, hb⟩
  have HB7 := Lib.hid (below_step HB6.out hb)
  clear hb
  go_wp2_with fail
  refine (K7.out _ HB7.out).mono ?_
  rintro e w8 ⟨rfl, hb⟩
  have HB8 := Lib.hid (below_step HB7.out hb)
  clear hb
  go_wp2_with fail
  refine (K8.out _ HB8.out).mono ?_
  rintro e w9 ⟨rfl, hb⟩
  have HB9 := Lib.hid (below_step HB8.out hb)
  clear hb
  go_wp2_with fail
  go_ret
  exact ⟨rfl, HB9.out⟩

set_option maxRecDepth 100000 in
set_option maxHeartbeats 4000000 in
theorem heat_law (t x h o d : Int) (w : World) (ht : SatT w) :
    Calls Tryd.prog 4 #[.int .i64 t, .int .i64 x, .int .i64 h, .int .i64 o, .int .i64 d] w fun e w' => e = .returned (.bool true) ∧ Below w.heap.size w w' := by
  obtain ⟨r, hr⟩ := least_some h x
  have KAW := Lib.hid (fun w1 (hb : Below w.heap.size w w1) => show Calls Tryd.prog 10 #[] w1 fun e w' => e = .returned (.bool true) ∧ Below w1.heap.size w1 w' by exact awake_yes w1 (ht.below hb))
  have K1 := Lib.hid (fun w1 (hb : Below w.heap.size w w1) => show Calls Tryd.prog 19 #[.int .i64 t, .int .i64 x] w1 fun e w' => e = .returned (.int .i64 (entF t x)) ∧ Below w1.heap.size w1 w' by exact enthalpy_any t x w1)
  have K2 := Lib.hid (fun w1 (hb : Below w.heap.size w w1) => show Calls Tryd.prog 20 #[.int .i64 t, .int .i64 x] w1 fun e w' => e = .returned (.int .i64 (entF t x)) ∧ Below w1.heap.size w1 w' by exact rent_any t x w1)
  have K3 := Lib.hid (fun w1 (hb : Below w.heap.size w w1) => show Calls Tryd.prog 21 #[.int .i64 h, .int .i64 x] w1 fun e w' => e = .returned (.int .i64 (-100000 + (r : Int))) ∧ Below w1.heap.size w1 w' by exact temp_any h x r w1 hr)
  have K4 := Lib.hid (fun w1 (hb : Below w.heap.size w w1) => show Calls Tryd.prog 22 #[.int .i64 h, .int .i64 x] w1 fun e w' => e = .returned (.int .i64 (-100000 + (r : Int))) ∧ Below w1.heap.size w1 w' by exact rtemp_any h x r hr w1)
  have K5 := Lib.hid (fun w1 (hb : Below w.heap.size w w1) => show Calls Tryd.prog 23 #[.int .i64 t, .int .i64 x, .int .i64 o, .int .i64 d] w1 fun e w' => e = .returned (.bool (econB t x o d)) ∧ Below w1.heap.size w1 w' by exact econ_any t x o d w1 (ht.below hb))
  have K6 := Lib.hid (fun w1 (hb : Below w.heap.size w w1) => show Calls Tryd.prog 24 #[.int .i64 t, .int .i64 x, .int .i64 o, .int .i64 d] w1 fun e w' => e = .returned (.bool (econB t x o d)) ∧ Below w1.heap.size w1 w' by exact recon_any t x o d w1)
  have HB0 := Lib.hid (Below.refl w.heap.size w)
  clear ht hr
  go_enter Tryd.func4, Tryd.ntmps4
  go_wp2_with fail
  refine (KAW.out _ HB0.out).mono ?_
  rintro e w1 ⟨rfl, hb⟩
  have HB1 := Lib.hid (below_step HB0.out hb)
  clear hb
  go_wp2_with fail
  refine (K1.out _ HB1.out).mono ?_
  rintro e w2 ⟨rfl, hb⟩
  have HB2 := Lib.hid (below_step HB1.out hb)
  clear hb
  go_wp2_with fail
  refine (K2.out _ HB2.out).mono ?_
  rintro e w3 ⟨rfl, hb⟩
  have HB3 := Lib.hid (below_step HB2.out hb)
  clear hb
  go_wp2_with fail
  refine (K3.out _ HB3.out).mono ?_
  rintro e w4 ⟨rfl, hb⟩
  have HB4 := Lib.hid (below_step HB3.out hb)
  clear hb
  go_wp2_with fail
  refine (K4.out _ HB4.out).mono ?_
  rintro e w5 ⟨rfl, hb⟩
  have HB5 := Lib.hid (below_step HB4.out hb)
  clear hb
  go_wp2_with fail
  refine (K5.out _ HB5.out).mono ?_
  rintro e w6 ⟨rfl, hb⟩
  have HB6 := Lib.hid (below_step HB5.out hb)
  clear hb
  go_wp2_with fail
  refine (K6.out _ HB6.out).mono ?_
  rintro e w7 ⟨rfl, hb⟩
  have HB7 := Lib.hid (below_step HB6.out hb)
  clear hb
  go_wp2_with fail
  go_ret
  exact ⟨rfl, HB7.out⟩

set_option maxRecDepth 100000 in
set_option maxHeartbeats 4000000 in
theorem dew_point_law (t h x : Int) (w : World) (ht : SatT w) :
    Calls Tryd.prog 7 #[.int .i64 t, .int .i64 h, .int .i64 x] w fun e w' => e = .returned (.bool true) ∧ Below w.heap.size w w' := by
  have KAW := Lib.hid (fun w1 (hb : Below w.heap.size w w1) => show Calls Tryd.prog 10 #[] w1 fun e w' => e = .returned (.bool true) ∧ Below w1.heap.size w1 w' by exact awake_yes w1 (ht.below hb))
  obtain ⟨A, eA⟩ : ∃ zz, zz = ratF t h := ⟨_, rfl⟩
  obtain ⟨D, eD⟩ : ∃ zz, zz = dewF A := ⟨_, rfl⟩
  have K1 := Lib.hid (fun w1 (hb : Below w.heap.size w w1) => show Calls Tryd.prog 13 #[.int .i64 t, .int .i64 h] w1 fun e w' => e = .returned (.int .i64 A) ∧ Below w1.heap.size w1 w' by rw [eA]; exact ratio_any t h w1 (ht.below hb))
  have K2 := Lib.hid (fun w1 (hb : Below w.heap.size w w1) => show Calls Tryd.prog 17 #[.int .i64 A] w1 fun e w' => e = .returned (.int .i64 D) ∧ Below w1.heap.size w1 w' by rw [eD]; exact dew_any A w1 (ht.below hb))
  obtain ⟨V, eV⟩ : ∃ zz, zz = dewF x := ⟨_, rfl⟩
  obtain ⟨S, eS⟩ : ∃ zz, zz = satF V := ⟨_, rfl⟩
  have K3 := Lib.hid (fun w1 (hb : Below w.heap.size w w1) => show Calls Tryd.prog 17 #[.int .i64 x] w1 fun e w' => e = .returned (.int .i64 V) ∧ Below w1.heap.size w1 w' by rw [eV]; exact dew_any x w1 (ht.below hb))
  have K4 := Lib.hid (fun w1 (hb : Below w.heap.size w w1) => show Calls Tryd.prog 11 #[.int .i64 V] w1 fun e w' => e = .returned (.int .i64 S) ∧ Below w1.heap.size w1 w' by rw [eS]; exact sat_any V w1 (ht.below hb))
  have hl : -20000 ≤ t → D ≤ min t 200000 + 7 := fun ht => by rw [eD, eA]; exact dew_law t h ht
  have hlow : x ≤ 637 → V = -20000 := fun hh => by rw [eV]; exact dewF_low x hh
  have hhigh : 153540 ≤ x → V = 60000 := fun hh => by rw [eV]; exact dewF_high x hh
  have hs : 637 ≤ x → x ≤ 153540 → -5 ≤ S - x ∧ S - x ≤ 5 := fun h1 h2 => by rw [eS, eV]; exact sat_law x h1 h2
  have hSr : 637 ≤ S ∧ S ≤ 153540 := by rw [eS]; exact satF_range V
  have HH := Lib.hid (And.intro hl (And.intro hlow (And.intro hhigh (And.intro hs hSr))))
  clear hl hlow hhigh hs hSr eA eD eV eS ht
  have HB0 := Lib.hid (Below.refl w.heap.size w)
  by_cases hc : -20000 ≤ t
  · have hl := HH.out.1 hc
    rcases (by omega : x < 637 ∨ (¬ x < 637 ∧ 153540 < x) ∨ (¬ x < 637 ∧ ¬ 153540 < x)) with h1 | ⟨h1, h2⟩ | ⟨h1, h2⟩
    · obtain rfl := HH.out.2.1 (by omega)
      go_enter Tryd.func7, Tryd.ntmps7
      go_wp2_with fail
      refine (KAW.out _ HB0.out).mono ?_
      rintro e w1 ⟨rfl, hb⟩
      have HB1 := Lib.hid (below_step HB0.out hb)
      clear hb
      go_wp2_with fail
      refine (K1.out _ HB1.out).mono ?_
      rintro e w2 ⟨rfl, hb⟩
      have HB2 := Lib.hid (below_step HB1.out hb)
      clear hb
      go_wp2_with fail
      refine (K2.out _ HB2.out).mono ?_
      rintro e w3 ⟨rfl, hb⟩
      have HB3 := Lib.hid (below_step HB2.out hb)
      clear hb
      go_wp2_with fail
      refine (K3.out _ HB3.out).mono ?_
      rintro e w4 ⟨rfl, hb⟩
      have HB4 := Lib.hid (below_step HB3.out hb)
      clear hb
      go_wp2_with fail
      go_ret
      exact ⟨rfl, HB4.out⟩
    · obtain rfl := HH.out.2.2.1 (by omega)
      go_enter Tryd.func7, Tryd.ntmps7
      go_wp2_with fail
      refine (KAW.out _ HB0.out).mono ?_
      rintro e w1 ⟨rfl, hb⟩
      have HB1 := Lib.hid (below_step HB0.out hb)
      clear hb
      go_wp2_with fail
      refine (K1.out _ HB1.out).mono ?_
      rintro e w2 ⟨rfl, hb⟩
      have HB2 := Lib.hid (below_step HB1.out hb)
      clear hb
      go_wp2_with fail
      refine (K2.out _ HB2.out).mono ?_
      rintro e w3 ⟨rfl, hb⟩
      have HB3 := Lib.hid (below_step HB2.out hb)
      clear hb
      go_wp2_with fail
      refine (K3.out _ HB3.out).mono ?_
      rintro e w4 ⟨rfl, hb⟩
      have HB4 := Lib.hid (below_step HB3.out hb)
      clear hb
      go_wp2_with fail
      refine (K3.out _ HB4.out).mono ?_
      rintro e w5 ⟨rfl, hb⟩
      have HB5 := Lib.hid (below_step HB4.out hb)
      clear hb
      go_wp2_with fail
      go_ret
      exact ⟨rfl, HB5.out⟩
    · have hs := HH.out.2.2.2.1 (by omega) (by omega)
      have hS := HH.out.2.2.2.2
      obtain ⟨q1, q2⟩ := hs
      obtain ⟨q3, q4⟩ := hS
      go_enter Tryd.func7, Tryd.ntmps7
      go_wp2_with fail
      refine (KAW.out _ HB0.out).mono ?_
      rintro e w1 ⟨rfl, hb⟩
      have HB1 := Lib.hid (below_step HB0.out hb)
      clear hb
      go_wp2_with fail
      refine (K1.out _ HB1.out).mono ?_
      rintro e w2 ⟨rfl, hb⟩
      have HB2 := Lib.hid (below_step HB1.out hb)
      clear hb
      go_wp2_with fail
      refine (K2.out _ HB2.out).mono ?_
      rintro e w3 ⟨rfl, hb⟩
      have HB3 := Lib.hid (below_step HB2.out hb)
      clear hb
      go_wp2_with fail
      refine (K3.out _ HB3.out).mono ?_
      rintro e w4 ⟨rfl, hb⟩
      have HB4 := Lib.hid (below_step HB3.out hb)
      clear hb
      go_wp2_with fail
      refine (K4.out _ HB4.out).mono ?_
      rintro e w5 ⟨rfl, hb⟩
      have HB5 := Lib.hid (below_step HB4.out hb)
      clear hb
      go_wp2_with fail
      go_ret
      exact ⟨rfl, HB5.out⟩
  · rcases (by omega : x < 637 ∨ (¬ x < 637 ∧ 153540 < x) ∨ (¬ x < 637 ∧ ¬ 153540 < x)) with h1 | ⟨h1, h2⟩ | ⟨h1, h2⟩
    · obtain rfl := HH.out.2.1 (by omega)
      go_enter Tryd.func7, Tryd.ntmps7
      go_wp2_with fail
      refine (KAW.out _ HB0.out).mono ?_
      rintro e w1 ⟨rfl, hb⟩
      have HB1 := Lib.hid (below_step HB0.out hb)
      clear hb
      go_wp2_with fail
      refine (K3.out _ HB1.out).mono ?_
      rintro e w2 ⟨rfl, hb⟩
      have HB2 := Lib.hid (below_step HB1.out hb)
      clear hb
      go_wp2_with fail
      go_ret
      exact ⟨rfl, HB2.out⟩
    · obtain rfl := HH.out.2.2.1 (by omega)
      go_enter Tryd.func7, Tryd.ntmps7
      go_wp2_with fail
      refine (KAW.out _ HB0.out).mono ?_
      rintro e w1 ⟨rfl, hb⟩
      have HB1 := Lib.hid (below_step HB0.out hb)
      clear hb
      go_wp2_with fail
      refine (K3.out _ HB1.out).mono ?_
      rintro e w2 ⟨rfl, hb⟩
      have HB2 := Lib.hid (below_step HB1.out hb)
      clear hb
      go_wp2_with fail
      refine (K3.out _ HB2.out).mono ?_
      rintro e w3 ⟨rfl, hb⟩
      have HB3 := Lib.hid (below_step HB2.out hb)
      clear hb
      go_wp2_with fail
      go_ret
      exact ⟨rfl, HB3.out⟩
    · have hs := HH.out.2.2.2.1 (by omega) (by omega)
      have hS := HH.out.2.2.2.2
      obtain ⟨q1, q2⟩ := hs
      obtain ⟨q3, q4⟩ := hS
      go_enter Tryd.func7, Tryd.ntmps7
      go_wp2_with fail
      refine (KAW.out _ HB0.out).mono ?_
      rintro e w1 ⟨rfl, hb⟩
      have HB1 := Lib.hid (below_step HB0.out hb)
      clear hb
      go_wp2_with fail
      refine (K3.out _ HB1.out).mono ?_
      rintro e w2 ⟨rfl, hb⟩
      have HB2 := Lib.hid (below_step HB1.out hb)
      clear hb
      go_wp2_with fail
      refine (K4.out _ HB2.out).mono ?_
      rintro e w3 ⟨rfl, hb⟩
      have HB3 := Lib.hid (below_step HB2.out hb)
      clear hb
      go_wp2_with fail
      go_ret
      exact ⟨rfl, HB3.out⟩

set_option maxRecDepth 100000 in
set_option maxHeartbeats 4000000 in
theorem inverse_law (h x : Int) (w : World) (ht : SatT w) :
    Calls Tryd.prog 8 #[.int .i64 h, .int .i64 x] w fun e w' => e = .returned (.bool true) ∧ Below w.heap.size w w' := by
  obtain ⟨H, eH⟩ : ∃ v, v = clampI h := ⟨_, rfl⟩
  obtain ⟨r, hr1, hr2, hr3⟩ := least_some H x
  have hcc : clampI H = H := by rw [eH]; exact clampI_clampI h
  have hmx : max (-1000000000000) (min 1000000000000 h) = H := by rw [eH]; unfold clampI; omega
  have KAW := Lib.hid (fun w1 (hb : Below w.heap.size w w1) => show Calls Tryd.prog 10 #[] w1 fun e w' => e = .returned (.bool true) ∧ Below w1.heap.size w1 w' by exact awake_yes w1 (ht.below hb))
  have K1 := Lib.hid (fun w1 (hb : Below w.heap.size w w1) => show Calls Tryd.prog 21 #[.int .i64 H, .int .i64 x] w1 fun e w' => e = .returned (.int .i64 (-100000 + (r : Int))) ∧ Below w1.heap.size w1 w' by exact temp_any H x r w1 ⟨hr1, hr2, hr3⟩)
  obtain ⟨E, eE⟩ : ∃ zz, zz = entF (-100000 + (r : Int)) x := ⟨_, rfl⟩
  have K2 := Lib.hid (fun w1 (hb : Below w.heap.size w w1) => show Calls Tryd.prog 19 #[.int .i64 (-100000 + (r : Int)), .int .i64 x] w1 fun e w' => e = .returned (.int .i64 E) ∧ Below w1.heap.size w1 w' by rw [eE]; exact enthalpy_any _ x w1)
  obtain ⟨F, eF⟩ : ∃ zz, zz = entF (-100000 + (r : Int) - 1) x := ⟨_, rfl⟩
  have K3 := Lib.hid (fun w1 (hb : Below w.heap.size w w1) => show Calls Tryd.prog 19 #[.int .i64 (-100000 + (r : Int) - 1), .int .i64 x] w1 fun e w' => e = .returned (.int .i64 F) ∧ Below w1.heap.size w1 w' by rw [eF]; exact enthalpy_any _ x w1)
  rw [hcc] at hr2 hr3
  have hE : r < 300000 → H ≤ E := fun h => by rw [eE]; exact of_decide_eq_true (hr3 r (Nat.le_refl _) h)
  have hF : 0 < r → F < H := fun h => by
    have := of_decide_eq_false (hr2 (r - 1) (by omega))
    rw [show (-100000 : Int) + ((r - 1 : Nat) : Int) = -100000 + (r : Int) - 1 by omega, ← eF] at this
    omega
  have HE := Lib.hid hE
  have HF := Lib.hid hF
  have HM := Lib.hid hmx
  clear hE hF hmx hr2 hr3 hcc eH eE eF ht
  have HB0 := Lib.hid (Below.refl w.heap.size w)
  have hr0 : (0 : Int) ≤ (r : Int) := by omega
  have hr9 : (r : Int) ≤ 300000 := by omega
  rcases (by omega : r = 0 ∨ (0 < r ∧ r < 300000) ∨ r = 300000) with hz | ⟨hz, hy⟩ | hz
  · subst hz
    have q := HE.out (by omega)
    have q1 : ¬ E < H := by omega
    have qm := HM.out
    clear hr0 hr9 hr1 q
    go_enter Tryd.func8, Tryd.ntmps8
    go_wp2_with fail
    refine (KAW.out _ HB0.out).mono ?_
    rintro e w1 ⟨rfl, hb⟩
    have HB1 := Lib.hid (below_step HB0.out hb)
    clear hb
    go_wp2_with fail
    refine (K1.out _ HB1.out).mono ?_
    rintro e w2 ⟨rfl, hb⟩
    have HB2 := Lib.hid (below_step HB1.out hb)
    clear hb
    go_wp2_with fail
    refine (K2.out _ HB2.out).mono ?_
    rintro e w3 ⟨rfl, hb⟩
    have HB3 := Lib.hid (below_step HB2.out hb)
    clear hb
    go_wp2_with fail
    go_ret
    exact ⟨rfl, HB3.out⟩
  · have q := HE.out hy
    have q1 : ¬ E < H := by omega
    have q2 := HF.out hz
    have qm := HM.out
    have q3 : (-100000 + (r : Int) == -100000) = false := by rw [beq_eq_false_iff_ne]; omega
    clear hr1 q
    go_enter Tryd.func8, Tryd.ntmps8
    go_wp2_with fail
    refine (KAW.out _ HB0.out).mono ?_
    rintro e w1 ⟨rfl, hb⟩
    have HB1 := Lib.hid (below_step HB0.out hb)
    clear hb
    go_wp2_with fail
    refine (K1.out _ HB1.out).mono ?_
    rintro e w2 ⟨rfl, hb⟩
    have HB2 := Lib.hid (below_step HB1.out hb)
    clear hb
    go_wp2_with fail
    refine (K2.out _ HB2.out).mono ?_
    rintro e w3 ⟨rfl, hb⟩
    have HB3 := Lib.hid (below_step HB2.out hb)
    clear hb
    go_wp2_with fail
    refine (K3.out _ HB3.out).mono ?_
    rintro e w4 ⟨rfl, hb⟩
    have HB4 := Lib.hid (below_step HB3.out hb)
    clear hb
    go_wp2_with fail
    go_ret
    exact ⟨rfl, HB4.out⟩
  · subst hz
    have q2 := HF.out (by omega)
    have qm := HM.out
    clear hr0 hr9 hr1
    go_enter Tryd.func8, Tryd.ntmps8
    go_wp2_with fail
    refine (KAW.out _ HB0.out).mono ?_
    rintro e w1 ⟨rfl, hb⟩
    have HB1 := Lib.hid (below_step HB0.out hb)
    clear hb
    go_wp2_with fail
    refine (K1.out _ HB1.out).mono ?_
    rintro e w2 ⟨rfl, hb⟩
    have HB2 := Lib.hid (below_step HB1.out hb)
    clear hb
    go_wp2_with fail
    refine (K3.out _ HB2.out).mono ?_
    rintro e w3 ⟨rfl, hb⟩
    have HB3 := Lib.hid (below_step HB2.out hb)
    clear hb
    go_wp2_with fail
    go_ret
    exact ⟨rfl, HB3.out⟩

end Go.Proofs.YtgpbcdelaipifaaDoor
