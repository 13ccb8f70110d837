/- Contracts of the specification's Saturation, Dew, Ratio, Humidity, Enthalpy, Temperature, Mix, Economizer. -/
import Derived.Test.YtgpbcdelaipifaaDoorPd
namespace Go.Proofs.YtgpbcdelaipifaaDoor
open Go.RowKit Go.Shelf

set_option maxHeartbeats 8000000 in
theorem rsat_any (t : Int) (w : World) :
    Calls Tryd.prog 12 #[.int .i64 t] w fun e w' => e = .returned (.int .i64 (satF t)) ∧ Below w.heap.size w w' := by
  obtain ⟨T, hT⟩ : ∃ T, T = limI t (-100000) 200000 := ⟨_, rfl⟩
  have KT := Lib.hid (fun w => show Calls Tryd.prog 32 #[.int .i64 t] w fun e w' => e = .returned (.int .i64 T) ∧ w = w' by rw [hT]; exact rlimT_any t w)
  have KD := Lib.hid (fun (i : Nat) (hi : i ≤ 16) (w : World) => rdeg_any i w hi)
  have hTF : satF t = satF T := by rw [hT]; unfold satF; rw [show limI (limI t (-100000) 200000) (-20000) 60000 = limI t (-20000) 60000 by unfold limI; omega]
  have hrT := limI_range t (-100000) 200000 (by omega)
  rw [← hT] at hrT
  rw [hTF]
  clear hT hTF
  by_cases hlow : T ≤ (-20000)
  · rw [satF_low T (by omega)]
    go_enter Tryd.func12, Tryd.ntmps12
    go_wp2_with fail
    refine (KT.out _).mono ?_
    rintro e w' ⟨rfl, rfl⟩
    go_wp2_with fail
    refine (rtable_any _).mono ?_
    rintro e w1 ⟨b, rfl, hrow, hb⟩
    have c0 := hrow.c 0 _ (satL_at 0 (by omega))
    replace c0 : w1.cell? ⟨b, 0, none⟩ = some (.int .i64 637) := c0
    have HB := Lib.hid hb
    clear hrow hb
    go_wp2_with fail
    go_ret
    exact ⟨rfl, HB.out⟩
  by_cases hhigh : 60000 ≤ T
  · rw [satF_high T (by omega)]
    go_enter Tryd.func12, Tryd.ntmps12
    go_wp2_with fail
    refine (KT.out _).mono ?_
    rintro e w' ⟨rfl, rfl⟩
    go_wp2_with fail
    refine (rtable_any _).mono ?_
    rintro e w1 ⟨b, rfl, hrow, hb⟩
    have HR := Lib.hid hrow
    have HB := Lib.hid hb
    have c0 := hrow.c 0 _ (satL_at 0 (by omega))
    replace c0 : w1.cell? ⟨b, 0, none⟩ = some (.int .i64 637) := c0
    have c16 := hrow.c 16 _ (satL_at 16 (by omega))
    replace c16 : w1.cell? ⟨b, 16, none⟩ = some (.int .i64 153540) := c16
    clear hrow hb
    go_wp2_with fail
    go_loop [4] (fun a => ∃ k : Nat, a = .int .i64 k ∧ 1 ≤ k ∧ k ≤ 17) (fun a => (17 - intOf a).toNat)
    case atStart => exact ⟨1, rfl, by omega, by omega⟩
    case round =>
      obtain ⟨k, rfl, hk1, hk2⟩ := hrel
      by_cases hlt : k < 17
      · have q1 : (k : Int) < 17 := by omega
        have q0 : (0 : Int) ≤ (k : Int) := by omega
        have q2 := HR.out.c k _ (satL_at k (by omega))
        have q3 : degI k ≤ 60000 := by unfold degI; omega
        obtain ⟨Y, hY⟩ : ∃ y, y = degI k := ⟨_, rfl⟩
        rw [← hY] at q3
        have KY := Lib.hid (fun w => show Calls Tryd.prog 34 #[.int .i64 k] w fun e w' => e = .returned (.int .i64 Y) ∧ w = w' by rw [hY]; exact KD.out k (by omega) w)
        have q4 : ¬ T < Y := by omega
        clear hY
        go_wp2_with fail
        refine (KY.out _).mono ?_
        rintro e w' ⟨rfl, rfl⟩
        go_wp2_with fail
        go_round
        case rel => exact ⟨k + 1, by go_num, by omega, by omega⟩
        case measure => simp [intOf]; omega
      · obtain rfl : k = 17 := by omega
        go_wp2_with fail
        go_ret
        exact ⟨rfl, HB.out⟩
  obtain ⟨i, hi, hi1, hi2, hiF⟩ : ∃ i : Nat, i ≤ 15 ∧ degI i ≤ T ∧ T < degI (i + 1) ∧ satF T = spieceI i T := by
    have h := sIdx_in T (by omega) (by omega)
    refine ⟨sIdx T, h.1, h.2.1, ?_, satF_piece T _ h.1 h.2.1 h.2.2⟩
    unfold sIdx degI; omega
  have hq : ∀ k : Nat, 1 ≤ k → k ≤ i → degI k ≤ T := fun k h1 h2 => by
    unfold degI at *; omega
  have HQ := Lib.hid hq
  have HI := Lib.hid (show degI (i + 1) > T from hi2)
  obtain ⟨S1, h1⟩ : ∃ s, s = satI i := ⟨_, rfl⟩
  obtain ⟨S2, h2⟩ : ∃ s, s = satI (i + 1) := ⟨_, rfl⟩
  obtain ⟨D1, h3⟩ : ∃ s, s = degI i := ⟨_, rfl⟩
  obtain ⟨D2, h4⟩ : ∃ s, s = degI (i + 1) := ⟨_, rfl⟩
  have hKA := Lib.hid (fun w => show Calls Tryd.prog 34 #[.int .i64 i] w fun e w' => e = .returned (.int .i64 D1) ∧ w = w' by rw [h3]; exact rdeg_any i w (by omega))
  have hKB := Lib.hid (fun w => show Calls Tryd.prog 34 #[.int .i64 ((i : Int) + 1)] w fun e w' => e = .returned (.int .i64 D2) ∧ w = w' by rw [h4]; exact rdeg_any (i + 1) w (by omega))
  have HCC := Lib.hid (And.intro (satL_at i (by omega)) (satL_at (i + 1) (by omega)))
  rw [hiF]
  obtain ⟨Z, hZ⟩ : ∃ z, z = spieceI i T := ⟨_, rfl⟩
  have hKL := Lib.hid (fun w => show Calls Tryd.prog 35 #[.int .i64 T, .int .i64 D1, .int .i64 S1, .int .i64 D2, .int .i64 S2] w fun e w' => e = .returned (.int .i64 Z) ∧ Below w.heap.size w w' by rw [hZ, h1, h2, h3, h4]; exact rline_any _ _ _ _ _ w)
  rw [← hZ]
  rw [← h1, ← h2] at HCC
  rw [← h4] at HI hi2
  clear hZ h1 h2 h3 h4 hq hi1 hiF
  go_enter Tryd.func12, Tryd.ntmps12
  go_wp2_with fail
  refine (KT.out _).mono ?_
  rintro e w' ⟨rfl, rfl⟩
  go_wp2_with fail
  refine (rtable_any _).mono ?_
  rintro e w1 ⟨b, rfl, hrow, hb⟩
  have HR := Lib.hid hrow
  have HB := Lib.hid hb
  have hg := hrow.lt
  have c0 := hrow.c 0 _ (satL_at 0 (by omega))
  replace c0 : w1.cell? ⟨b, 0, none⟩ = some (.int .i64 637) := c0
  clear hrow hb
  go_wp2_with fail
  go_loop [4] (fun a => ∃ k : Nat, a = .int .i64 k ∧ 1 ≤ k ∧ k ≤ i + 1) (fun a => (17 - intOf a).toNat)
  case atStart => exact ⟨1, rfl, by omega, by omega⟩
  case round =>
    obtain ⟨k, rfl, hk1, hk2⟩ := hrel
    have q1 : (k : Int) < 17 := by omega
    have q0 : (0 : Int) ≤ (k : Int) := by omega
    by_cases hlt : k ≤ i
    · have q2 := HR.out.c k _ (satL_at k (by omega))
      have q3 := HQ.out k hk1 hlt
      obtain ⟨Y, hY⟩ : ∃ y, y = degI k := ⟨_, rfl⟩
      rw [← hY] at q3
      have KY := Lib.hid (fun w => show Calls Tryd.prog 34 #[.int .i64 k] w fun e w' => e = .returned (.int .i64 Y) ∧ w = w' by rw [hY]; exact KD.out k (by omega) w)
      have q4 : ¬ T < Y := by omega
      clear hY
      go_wp2_with fail
      refine (KY.out _).mono ?_
      rintro e w' ⟨rfl, rfl⟩
      go_wp2_with fail
      go_round
      case rel => exact ⟨k + 1, by go_num, by omega, by omega⟩
      case measure => simp [intOf]; omega
    · obtain rfl : k = i + 1 := by omega
      have k1 := HR.out.c i _ HCC.out.1
      have k2 := HR.out.c (i + 1) _ HCC.out.2
      have HK := Lib.hid (And.intro k1 k2)
      have hi3 := HI.out
      have e1 : (((i + 1 : Nat) : Int)) = (i : Int) + 1 := by omega
      have e2 : (i : Int) + 1 - 1 = i := by omega
      have p1 : (0 : Int) ≤ i := by omega
      have p2 : (i : Int) < 17 := by omega
      have p3 : (0 : Int) ≤ (i : Int) + 1 := by omega
      have p4 : (i : Int) + 1 < 17 := by omega
      have p5 : ((i : Int) + 1).toNat = i + 1 := by omega
      have p6 : IntKind.i64.wrap (i : Int) = (i : Int) := IntWalk.i64_in _ (by omega)
      rw [e1]
      clear q1 q0 e1 e2 c0 hlt hk1 hk2
      go_wp2_with fail
      refine (hKB.out _).mono ?_
      rintro e w' ⟨rfl, rfl⟩
      go_wp2_with fail
      go_region_held3 (fun w' => w'.cell? ⟨b, i, none⟩ = some (.int .i64 S1) ∧ w'.cell? ⟨b, i + 1, none⟩ = some (.int .i64 S2))
        (first | (with_reducible exact ⟨k3, k4⟩) | go_keep)
        ((first | ((with_reducible refine (hKA.out _).mono ?_); rintro e w' ⟨rfl, rfl⟩) | ((with_reducible refine (hKB.out _).mono ?_); rintro e w' ⟨rfl, rfl⟩) | ((with_reducible refine (hKL.out _).mono ?_); rintro e w2 ⟨rfl, hb2⟩; have k3 := (hb2.cell (p := ⟨b, i, none⟩) hg).trans HK.out.1; have k4 := (hb2.cell (p := ⟨b, i + 1, none⟩) hg).trans HK.out.2)))
      all_goals
        rename_i hHeld
        clear hHeld
        go_wp2_with fail
        go_ret
        exact ⟨rfl, below_step (HB.out.drew) hb2⟩
set_option maxHeartbeats 8000000 in
theorem rdew_any (t : Int) (w : World) :
    Calls Tryd.prog 18 #[.int .i64 t] w fun e w' => e = .returned (.int .i64 (dewF t)) ∧ Below w.heap.size w w' := by
  obtain ⟨T, hT⟩ : ∃ T, T = limI t 0 1000000 := ⟨_, rfl⟩
  have KT := Lib.hid (fun w => show Calls Tryd.prog 40 #[.int .i64 t] w fun e w' => e = .returned (.int .i64 T) ∧ w = w' by rw [hT]; exact rlimR_any t w)
  have KD := Lib.hid (fun (i : Nat) (hi : i ≤ 16) (w : World) => rdeg_any i w hi)
  have hTF : dewF t = dewF T := by rw [hT]; unfold dewF; rw [show limI (limI t 0 1000000) 0 1000000 = limI t 0 1000000 by unfold limI; omega]
  have hrT := limI_range t 0 1000000 (by omega)
  rw [← hT] at hrT
  rw [hTF]
  clear hT hTF
  by_cases hlow : T ≤ 637
  · rw [dewF_low T (by omega)]
    go_enter Tryd.func18, Tryd.ntmps18
    go_wp2_with fail
    refine (KT.out _).mono ?_
    rintro e w' ⟨rfl, rfl⟩
    go_wp2_with fail
    refine (rtable_any _).mono ?_
    rintro e w1 ⟨b, rfl, hrow, hb⟩
    have c0 := hrow.c 0 _ (satL_at 0 (by omega))
    replace c0 : w1.cell? ⟨b, 0, none⟩ = some (.int .i64 637) := c0
    have HB := Lib.hid hb
    clear hrow hb
    go_wp2_with fail
    go_ret
    exact ⟨rfl, HB.out⟩
  by_cases hhigh : 153540 ≤ T
  · rw [dewF_high T (by omega)]
    go_enter Tryd.func18, Tryd.ntmps18
    go_wp2_with fail
    refine (KT.out _).mono ?_
    rintro e w' ⟨rfl, rfl⟩
    go_wp2_with fail
    refine (rtable_any _).mono ?_
    rintro e w1 ⟨b, rfl, hrow, hb⟩
    have HR := Lib.hid hrow
    have HB := Lib.hid hb
    have c0 := hrow.c 0 _ (satL_at 0 (by omega))
    replace c0 : w1.cell? ⟨b, 0, none⟩ = some (.int .i64 637) := c0
    have c16 := hrow.c 16 _ (satL_at 16 (by omega))
    replace c16 : w1.cell? ⟨b, 16, none⟩ = some (.int .i64 153540) := c16
    clear hrow hb
    go_wp2_with fail
    go_loop [4] (fun a => ∃ k : Nat, a = .int .i64 k ∧ 1 ≤ k ∧ k ≤ 17) (fun a => (17 - intOf a).toNat)
    case atStart => exact ⟨1, rfl, by omega, by omega⟩
    case round =>
      obtain ⟨k, rfl, hk1, hk2⟩ := hrel
      by_cases hlt : k < 17
      · have q1 : (k : Int) < 17 := by omega
        have q0 : (0 : Int) ≤ (k : Int) := by omega
        have q2 := HR.out.c k _ (satL_at k (by omega))
        have q3 : satI k ≤ 153540 := by exact (satI_range k (by omega)).2
        obtain ⟨Y, hY⟩ : ∃ y, y = satI k := ⟨_, rfl⟩
        rw [← hY] at q3 q2
        have KY := Lib.hid (fun w => show Calls Tryd.prog 34 #[.int .i64 k] w fun e w' => e = .returned (.int .i64 (degI k)) ∧ w = w' by exact KD.out k (by omega) w)
        have q4 : ¬ T < Y := by omega
        clear hY
        go_wp2_with fail
        go_round
        case rel => exact ⟨k + 1, by go_num, by omega, by omega⟩
        case measure => simp [intOf]; omega
      · obtain rfl : k = 17 := by omega
        go_wp2_with fail
        go_ret
        exact ⟨rfl, HB.out⟩
  obtain ⟨i, hi, hi1, hi2, hiF⟩ : ∃ i : Nat, i ≤ 15 ∧ satI i ≤ T ∧ T < satI (i + 1) ∧ dewF T = dpieceI i T := by
    obtain ⟨j, h1, h2, h3⟩ := some_sat T (by omega) (by omega)
    have e := dewF_piece T j h1 h2 h3
    by_cases hj : T < satI (j + 1)
    · exact ⟨j, h1, h2, hj, e⟩
    · by_cases h15 : j = 15
      · subst h15
        have : satI (15 + 1) = 153540 := rfl
        omega
      · have := satI_lt (j + 1) (by omega)
        exact ⟨j + 1, by omega, by omega, by omega, dewF_piece T (j + 1) (by omega) (by omega) (by omega)⟩
  have hq : ∀ k : Nat, 1 ≤ k → k ≤ i → satI k ≤ T := fun k h1 h2 => by
    have := satI_mono i k h2 (by omega); omega
  have HQ := Lib.hid hq
  have HI := Lib.hid (show satI (i + 1) > T from hi2)
  obtain ⟨S1, h1⟩ : ∃ s, s = satI i := ⟨_, rfl⟩
  obtain ⟨S2, h2⟩ : ∃ s, s = satI (i + 1) := ⟨_, rfl⟩
  obtain ⟨D1, h3⟩ : ∃ s, s = degI i := ⟨_, rfl⟩
  obtain ⟨D2, h4⟩ : ∃ s, s = degI (i + 1) := ⟨_, rfl⟩
  have hKA := Lib.hid (fun w => show Calls Tryd.prog 34 #[.int .i64 i] w fun e w' => e = .returned (.int .i64 D1) ∧ w = w' by rw [h3]; exact rdeg_any i w (by omega))
  have hKB := Lib.hid (fun w => show Calls Tryd.prog 34 #[.int .i64 ((i : Int) + 1)] w fun e w' => e = .returned (.int .i64 D2) ∧ w = w' by rw [h4]; exact rdeg_any (i + 1) w (by omega))
  have HCC := Lib.hid (And.intro (satL_at i (by omega)) (satL_at (i + 1) (by omega)))
  rw [hiF]
  obtain ⟨Z, hZ⟩ : ∃ z, z = dpieceI i T := ⟨_, rfl⟩
  have hKL := Lib.hid (fun w => show Calls Tryd.prog 35 #[.int .i64 T, .int .i64 S1, .int .i64 D1, .int .i64 S2, .int .i64 D2] w fun e w' => e = .returned (.int .i64 Z) ∧ Below w.heap.size w w' by rw [hZ, h1, h2, h3, h4]; exact rline_any _ _ _ _ _ w)
  rw [← hZ]
  rw [← h1, ← h2] at HCC
  rw [← h2] at HI hi2
  clear hZ h1 h2 h3 h4 hq hi1 hiF
  go_enter Tryd.func18, Tryd.ntmps18
  go_wp2_with fail
  refine (KT.out _).mono ?_
  rintro e w' ⟨rfl, rfl⟩
  go_wp2_with fail
  refine (rtable_any _).mono ?_
  rintro e w1 ⟨b, rfl, hrow, hb⟩
  have HR := Lib.hid hrow
  have HB := Lib.hid hb
  have hg := hrow.lt
  have c0 := hrow.c 0 _ (satL_at 0 (by omega))
  replace c0 : w1.cell? ⟨b, 0, none⟩ = some (.int .i64 637) := c0
  clear hrow hb
  go_wp2_with fail
  go_loop [4] (fun a => ∃ k : Nat, a = .int .i64 k ∧ 1 ≤ k ∧ k ≤ i + 1) (fun a => (17 - intOf a).toNat)
  case atStart => exact ⟨1, rfl, by omega, by omega⟩
  case round =>
    obtain ⟨k, rfl, hk1, hk2⟩ := hrel
    have q1 : (k : Int) < 17 := by omega
    have q0 : (0 : Int) ≤ (k : Int) := by omega
    by_cases hlt : k ≤ i
    · have q2 := HR.out.c k _ (satL_at k (by omega))
      have q3 := HQ.out k hk1 hlt
      obtain ⟨Y, hY⟩ : ∃ y, y = satI k := ⟨_, rfl⟩
      rw [← hY] at q3 q2
      have KY := Lib.hid (fun w => show Calls Tryd.prog 34 #[.int .i64 k] w fun e w' => e = .returned (.int .i64 (degI k)) ∧ w = w' by exact KD.out k (by omega) w)
      have q4 : ¬ T < Y := by omega
      clear hY
      go_wp2_with fail
      go_round
      case rel => exact ⟨k + 1, by go_num, by omega, by omega⟩
      case measure => simp [intOf]; omega
    · obtain rfl : k = i + 1 := by omega
      have k1 := HR.out.c i _ HCC.out.1
      have k2 := HR.out.c (i + 1) _ HCC.out.2
      have HK := Lib.hid (And.intro k1 k2)
      have hi3 := HI.out
      have e1 : (((i + 1 : Nat) : Int)) = (i : Int) + 1 := by omega
      have e2 : (i : Int) + 1 - 1 = i := by omega
      have p1 : (0 : Int) ≤ i := by omega
      have p2 : (i : Int) < 17 := by omega
      have p3 : (0 : Int) ≤ (i : Int) + 1 := by omega
      have p4 : (i : Int) + 1 < 17 := by omega
      have p5 : ((i : Int) + 1).toNat = i + 1 := by omega
      have p6 : IntKind.i64.wrap (i : Int) = (i : Int) := IntWalk.i64_in _ (by omega)
      rw [e1]
      clear q1 q0 e1 e2 c0 hlt hk1 hk2
      go_wp2_with fail
      go_region_held3 (fun w' => w'.cell? ⟨b, i, none⟩ = some (.int .i64 S1) ∧ w'.cell? ⟨b, i + 1, none⟩ = some (.int .i64 S2))
        (first | (with_reducible exact ⟨k3, k4⟩) | go_keep)
        ((first | ((with_reducible refine (hKA.out _).mono ?_); rintro e w' ⟨rfl, rfl⟩) | ((with_reducible refine (hKB.out _).mono ?_); rintro e w' ⟨rfl, rfl⟩) | ((with_reducible refine (hKL.out _).mono ?_); rintro e w2 ⟨rfl, hb2⟩; have k3 := (hb2.cell (p := ⟨b, i, none⟩) hg).trans HK.out.1; have k4 := (hb2.cell (p := ⟨b, i + 1, none⟩) hg).trans HK.out.2)))
      all_goals
        rename_i hHeld
        clear hHeld
        go_wp2_with fail
        go_ret
        exact ⟨rfl, below_step (HB.out.drew) hb2⟩
set_option maxHeartbeats 4000000 in
theorem rratio_any (t h : Int) (w : World) :
    Calls Tryd.prog 14 #[.int .i64 t, .int .i64 h] w fun e w' => e = .returned (.int .i64 (ratF t h)) ∧ Below w.heap.size w w' := by
  unfold ratF
  go_enter Tryd.func14, Tryd.ntmps14
  go_wp2_with fail
  refine (rsat_any _ _).mono ?_
  rintro e w1 ⟨rfl, hb⟩
  have HB1 := Lib.hid hb
  clear hb
  go_wp2_with fail
  refine (rlimit_any _ _ _ _ (by decide)).mono ?_
  rintro e w' ⟨rfl, rfl⟩
  go_wp2_with fail
  refine (rmuldiv_any _ _ _ _ (by decide) (by decide)).mono ?_
  rintro e w2 ⟨rfl, hb⟩
  have HB2 := Lib.hid (below_step HB1.out hb)
  clear hb
  go_wp2_with fail
  go_ret
  exact ⟨rfl, HB2.out⟩
set_option maxHeartbeats 4000000 in
theorem rhum_any (t h : Int) (w : World) :
    Calls Tryd.prog 16 #[.int .i64 t, .int .i64 h] w fun e w' => e = .returned (.int .i64 (humF t h)) ∧ Below w.heap.size w w' := by
  have hr := satF_range t
  have HR := Lib.hid hr
  clear hr
  unfold humF
  go_enter Tryd.func16, Tryd.ntmps16
  go_wp2_with fail
  refine (rlimR_any _ _).mono ?_
  rintro e w' ⟨rfl, rfl⟩
  go_wp2_with fail
  refine (rsat_any _ _).mono ?_
  rintro e w1 ⟨rfl, hb⟩
  have HB1 := Lib.hid hb
  clear hb
  go_wp2_with fail
  refine (rmuldiv_any _ _ _ _ (by have := HR.out; omega) (by have := HR.out; omega)).mono ?_
  rintro e w2 ⟨rfl, hb⟩
  have HB2 := Lib.hid (below_step HB1.out hb)
  clear hb
  go_wp2_with fail
  all_goals
    go_ret
    exact ⟨ret_int (by omega), HB2.out⟩
set_option maxHeartbeats 4000000 in
theorem rent_any (t h : Int) (w : World) :
    Calls Tryd.prog 20 #[.int .i64 t, .int .i64 h] w fun e w' => e = .returned (.int .i64 (entF t h)) ∧ Below w.heap.size w w' := by
  unfold entF
  obtain ⟨T, hT⟩ : ∃ T, T = limI t (-100000) 200000 := ⟨_, rfl⟩
  have hr := limI_range t (-100000) 200000 (by omega)
  have hKL := Lib.hid (fun w => show Calls Tryd.prog 32 #[.int .i64 t] w fun e w' => e = .returned (.int .i64 T) ∧ w = w' by rw [hT]; exact rlimT_any t w)
  rw [← hT] at hr ⊢
  have hq := heat_range T hr.1 hr.2
  obtain ⟨M, hM⟩ : ∃ m, m = mulDivI T 1860 1000 := ⟨_, rfl⟩
  have hKM := Lib.hid (fun w => show Calls Tryd.prog 37 #[.int .i64 T, .int .i64 1860, .int .i64 1000] w fun e w' => e = .returned (.int .i64 M) ∧ Below w.heap.size w w' by rw [hM]; exact rmuldiv_any _ _ _ w (by decide) (by decide))
  rw [← hM] at hq ⊢
  have a1 := mulDivI_range T 1006 1000
  obtain ⟨X, hX⟩ : ∃ m, m = mulDivI T 1006 1000 := ⟨_, rfl⟩
  have hKX := Lib.hid (fun w => show Calls Tryd.prog 37 #[.int .i64 T, .int .i64 1006, .int .i64 1000] w fun e w' => e = .returned (.int .i64 X) ∧ Below w.heap.size w w' by rw [hX]; exact rmuldiv_any _ _ _ w (by decide) (by decide))
  rw [← hX] at a1 ⊢
  have a2 := mulDivI_range (limI h 0 1000000) (2501000 + M) 1000000
  obtain ⟨U, hU⟩ : ∃ m, m = limI h 0 1000000 := ⟨_, rfl⟩
  have hKU := Lib.hid (fun w => show Calls Tryd.prog 40 #[.int .i64 h] w fun e w' => e = .returned (.int .i64 U) ∧ w = w' by rw [hU]; exact rlimR_any h w)
  rw [← hU] at a2 ⊢
  obtain ⟨Y, hY⟩ : ∃ m, m = mulDivI U (2501000 + M) 1000000 := ⟨_, rfl⟩
  have hKY := Lib.hid (fun w => show Calls Tryd.prog 37 #[.int .i64 U, .int .i64 (2501000 + M), .int .i64 1000000] w fun e w' => e = .returned (.int .i64 Y) ∧ Below w.heap.size w w' by rw [hY]; exact rmuldiv_any _ _ _ w (by decide) (by decide))
  rw [← hY] at a2 ⊢
  clear hT hr hM hX hU hY
  obtain ⟨q1, q2⟩ := hq
  obtain ⟨a3, a4⟩ := a1
  obtain ⟨a5, a6⟩ := a2
  go_enter Tryd.func20, Tryd.ntmps20
  go_wp2_with fail
  refine (hKL.out _).mono ?_
  rintro e w' ⟨rfl, rfl⟩
  go_wp2_with fail
  refine (hKX.out _).mono ?_
  rintro e w1 ⟨rfl, hb⟩
  have HB1 := Lib.hid hb
  clear hb
  go_wp2_with fail
  refine (hKU.out _).mono ?_
  rintro e w' ⟨rfl, rfl⟩
  go_wp2_with fail
  refine (hKM.out _).mono ?_
  rintro e w2 ⟨rfl, hb⟩
  have HB2 := Lib.hid (below_step HB1.out hb)
  clear hb
  go_wp2_with fail
  refine (hKY.out _).mono ?_
  rintro e w3 ⟨rfl, hb⟩
  have HB3 := Lib.hid (below_step HB2.out hb)
  clear hb
  go_wp2_with fail
  go_ret
  exact ⟨rfl, HB3.out⟩
set_option maxHeartbeats 4000000 in
theorem rtemp_any (h x : Int) (r : Nat) (hr : LeastT h x r) (w : World) :
    Calls Tryd.prog 22 #[.int .i64 h, .int .i64 x] w fun e w' => e = .returned (.int .i64 (-100000 + (r : Int))) ∧ Below w.heap.size w w' := by
  obtain ⟨hr1, hr2, hr3⟩ := hr
  obtain ⟨C, hC⟩ : ∃ c, c = clampI h := ⟨_, rfl⟩
  have hKC := Lib.hid (fun w => show Calls Tryd.prog 45 #[.int .i64 h] w fun e w' => e = .returned (.int .i64 C) ∧ w = w' by rw [hC]; exact rclamp_any h w)
  rw [← hC] at hr2 hr3
  have HL := Lib.hid hr2
  have HH := Lib.hid hr3
  clear hC hr2 hr3
  go_enter Tryd.func22, Tryd.ntmps22
  go_wp2_with fail
  refine (hKC.out _).mono ?_
  rintro e w' ⟨rfl, rfl⟩
  go_wp2_with fail
  go_loopw [5, 6] (fun a b wr => ∃ lo hi : Int, a = .int .i64 lo ∧ b = .int .i64 hi ∧ -100000 ≤ lo ∧ lo ≤ -100000 + (r : Int) ∧ -100000 + (r : Int) ≤ hi ∧ hi ≤ 200000 ∧ Hid (Below w.heap.size w wr)) (fun a b _ => (intOf b - intOf a).toNat)
  case atStart => exact ⟨_, _, rfl, rfl, by omega, by omega, by omega, by omega, Lib.hid (Below.refl _ _)⟩
  case round =>
    obtain ⟨lo, hi, rfl, rfl, h1, h2, h3, h4, HB⟩ := hrel
    by_cases hlt : lo < hi
    · have hm : ∃ m : Nat, ((m : Int) = (lo + hi + 400000) / 2 - 200000 + 100000) := ⟨((lo + hi + 400000) / 2 - 200000 + 100000).toNat, by omega⟩
      obtain ⟨m, hm⟩ := hm
      have hmid : (lo + hi + 400000) / 2 - 200000 = -100000 + (m : Int) := by omega
      obtain ⟨E, hE⟩ : ∃ e, e = entF (-100000 + (m : Int)) x := ⟨_, rfl⟩
      have hKE := Lib.hid (fun w => show Calls Tryd.prog 20 #[.int .i64 (-100000 + (m : Int)), .int .i64 x] w fun e w' => e = .returned (.int .i64 E) ∧ Below w.heap.size w w' by rw [hE]; exact rent_any _ _ w)
      by_cases hmr : m < r
      · have hf := HL.out m hmr
        rw [← hE] at hf
        have hf2 : ¬ C ≤ E := of_decide_eq_false hf
        have HM := Lib.hid (show -100000 + (m : Int) + 1 ≤ -100000 + (r : Int) ∧ lo ≤ -100000 + (m : Int) ∧ -100000 ≤ -100000 + (m : Int) from ⟨by omega, by omega, by omega⟩)
        have hm9 : (m : Int) ≤ 300000 := by omega
        have hm0 : (0 : Int) ≤ m := by omega
        clear hE hm hf hmr
        go_wp2_with fail
        refine (hKE.out _).mono ?_
        rintro e w1 ⟨rfl, hb⟩
        have HB1 := Lib.hid (below_step HB.out hb)
        clear hb
        go_wp2_with fail
        go_roundw
        case rel => exact ⟨_, _, rfl, rfl, by omega, by have := HM.out; omega, h3, h4, HB1⟩
        case measure => have := HM.out; simp [intOf]; omega
      · have ht := HH.out m (by omega) (by omega)
        rw [← hE] at ht
        have hf2 : C ≤ E := of_decide_eq_true ht
        have HM := Lib.hid (show -100000 + (r : Int) ≤ -100000 + (m : Int) ∧ -100000 + (m : Int) < hi ∧ lo ≤ -100000 + (m : Int) from ⟨by omega, by omega, by omega⟩)
        have hm9 : (m : Int) ≤ 300000 := by omega
        have hm0 : (0 : Int) ≤ m := by omega
        clear hE hm ht hmr
        go_wp2_with fail
        refine (hKE.out _).mono ?_
        rintro e w1 ⟨rfl, hb⟩
        have HB1 := Lib.hid (below_step HB.out hb)
        clear hb
        go_wp2_with fail
        go_roundw
        case rel => exact ⟨_, _, rfl, rfl, h1, h2, by have := HM.out; omega, by have := HM.out; omega, HB1⟩
        case measure => have := HM.out; simp [intOf]; omega
    · obtain rfl : lo = -100000 + (r : Int) := by omega
      go_wp2_with fail
      go_ret
      exact ⟨rfl, HB.out⟩
set_option maxHeartbeats 4000000 in
theorem rmix_any (t u f t2 u2 f2 : Int) (w : World) :
    Calls Tryd.prog 26 #[.int .i64 t, .int .i64 u, .int .i64 f, .int .i64 t2, .int .i64 u2, .int .i64 f2] w fun e w' => e = .returned (.tuple #[.int .i64 (mixT t f t2 f2), .int .i64 (mixW u f u2 f2)]) ∧ Below w.heap.size w w' := by
  unfold mixT mixW
  obtain ⟨T1, eT1⟩ : ∃ v, v = limI t (-100000) 200000 := ⟨_, rfl⟩
  have rT1 := limI_range t (-100000) 200000 (by omega)
  have KT1 := Lib.hid (fun w => show Calls Tryd.prog 32 #[.int .i64 t] w fun e w' => e = .returned (.int .i64 T1) ∧ w = w' by rw [eT1]; exact rlimT_any t w)
  rw [← eT1] at rT1 ⊢
  obtain ⟨lT1, gT1⟩ := rT1
  clear eT1
  obtain ⟨U1, eU1⟩ : ∃ v, v = limI u 0 1000000 := ⟨_, rfl⟩
  have rU1 := limI_range u 0 1000000 (by omega)
  have KU1 := Lib.hid (fun w => show Calls Tryd.prog 40 #[.int .i64 u] w fun e w' => e = .returned (.int .i64 U1) ∧ w = w' by rw [eU1]; exact rlimR_any u w)
  rw [← eU1] at rU1 ⊢
  obtain ⟨lU1, gU1⟩ := rU1
  clear eU1
  obtain ⟨F1, eF1⟩ : ∃ v, v = limI f 0 1000000000 := ⟨_, rfl⟩
  have rF1 := limI_range f 0 1000000000 (by omega)
  have KF1 := Lib.hid (fun w => show Calls Tryd.prog 48 #[.int .i64 f] w fun e w' => e = .returned (.int .i64 F1) ∧ w = w' by rw [eF1]; exact rlimF_any f w)
  rw [← eF1] at rF1 ⊢
  obtain ⟨lF1, gF1⟩ := rF1
  clear eF1
  obtain ⟨T2, eT2⟩ : ∃ v, v = limI t2 (-100000) 200000 := ⟨_, rfl⟩
  have rT2 := limI_range t2 (-100000) 200000 (by omega)
  have KT2 := Lib.hid (fun w => show Calls Tryd.prog 32 #[.int .i64 t2] w fun e w' => e = .returned (.int .i64 T2) ∧ w = w' by rw [eT2]; exact rlimT_any t2 w)
  rw [← eT2] at rT2 ⊢
  obtain ⟨lT2, gT2⟩ := rT2
  clear eT2
  obtain ⟨U2, eU2⟩ : ∃ v, v = limI u2 0 1000000 := ⟨_, rfl⟩
  have rU2 := limI_range u2 0 1000000 (by omega)
  have KU2 := Lib.hid (fun w => show Calls Tryd.prog 40 #[.int .i64 u2] w fun e w' => e = .returned (.int .i64 U2) ∧ w = w' by rw [eU2]; exact rlimR_any u2 w)
  rw [← eU2] at rU2 ⊢
  obtain ⟨lU2, gU2⟩ := rU2
  clear eU2
  obtain ⟨F2, eF2⟩ : ∃ v, v = limI f2 0 1000000000 := ⟨_, rfl⟩
  have rF2 := limI_range f2 0 1000000000 (by omega)
  have KF2 := Lib.hid (fun w => show Calls Tryd.prog 48 #[.int .i64 f2] w fun e w' => e = .returned (.int .i64 F2) ∧ w = w' by rw [eF2]; exact rlimF_any f2 w)
  rw [← eF2] at rF2 ⊢
  obtain ⟨lF2, gF2⟩ := rF2
  clear eF2
  unfold mixF
  by_cases h0 : F1 + F2 = 0
  · have z : ((F1 + F2) == 0) = true := by rw [beq_iff_eq]; exact h0
    rw [if_pos h0, if_pos h0]
    clear h0
    go_enter Tryd.func26, Tryd.ntmps26
    go_wp2_with fail
    refine (KT1.out _).mono ?_
    rintro e w' ⟨rfl, rfl⟩
    go_wp2_with fail
    refine (KU1.out _).mono ?_
    rintro e w' ⟨rfl, rfl⟩
    go_wp2_with fail
    refine (KF1.out _).mono ?_
    rintro e w' ⟨rfl, rfl⟩
    go_wp2_with fail
    refine (KT2.out _).mono ?_
    rintro e w' ⟨rfl, rfl⟩
    go_wp2_with fail
    refine (KU2.out _).mono ?_
    rintro e w' ⟨rfl, rfl⟩
    go_wp2_with fail
    refine (KF2.out _).mono ?_
    rintro e w' ⟨rfl, rfl⟩
    go_wp2_with fail
    go_ret2
    exact ⟨rfl, Below.refl _ _⟩
  · have z : ((F1 + F2) == 0) = false := by rw [beq_eq_false_iff_ne]; exact h0
    rw [if_neg h0, if_neg h0]
    have ra := mulDivI_range (T2 - T1) F2 (F1 + F2)
    have rb := mulDivI_range (U2 - U1) F2 (F1 + F2)
    obtain ⟨M, hM⟩ : ∃ m, m = mulDivI (T2 - T1) F2 (F1 + F2) := ⟨_, rfl⟩
    obtain ⟨O, hO⟩ : ∃ m, m = mulDivI (U2 - U1) F2 (F1 + F2) := ⟨_, rfl⟩
    have KM := Lib.hid (fun w => show Calls Tryd.prog 37 #[.int .i64 (T2 - T1), .int .i64 F2, .int .i64 (F1 + F2)] w fun e w' => e = .returned (.int .i64 M) ∧ Below w.heap.size w w' by rw [hM]; exact rmuldiv_any _ _ _ w (by omega) (by omega))
    have KO := Lib.hid (fun w => show Calls Tryd.prog 37 #[.int .i64 (U2 - U1), .int .i64 F2, .int .i64 (F1 + F2)] w fun e w' => e = .returned (.int .i64 O) ∧ Below w.heap.size w w' by rw [hO]; exact rmuldiv_any _ _ _ w (by omega) (by omega))
    rw [← hM, ← hO]
    rw [← hM] at ra
    rw [← hO] at rb
    obtain ⟨ra1, ra2⟩ := ra
    obtain ⟨rb1, rb2⟩ := rb
    clear h0 hM hO
    go_enter Tryd.func26, Tryd.ntmps26
    go_wp2_with fail
    refine (KT1.out _).mono ?_
    rintro e w' ⟨rfl, rfl⟩
    go_wp2_with fail
    refine (KU1.out _).mono ?_
    rintro e w' ⟨rfl, rfl⟩
    go_wp2_with fail
    refine (KF1.out _).mono ?_
    rintro e w' ⟨rfl, rfl⟩
    go_wp2_with fail
    refine (KT2.out _).mono ?_
    rintro e w' ⟨rfl, rfl⟩
    go_wp2_with fail
    refine (KU2.out _).mono ?_
    rintro e w' ⟨rfl, rfl⟩
    go_wp2_with fail
    refine (KF2.out _).mono ?_
    rintro e w' ⟨rfl, rfl⟩
    go_wp2_with fail
    refine (KM.out _).mono ?_
    rintro e w1 ⟨rfl, hb⟩
    have HB1 := Lib.hid hb
    clear hb
    go_wp2_with fail
    refine (KO.out _).mono ?_
    rintro e w2 ⟨rfl, hb⟩
    have HB2 := Lib.hid (below_step HB1.out hb)
    clear hb
    go_wp2_with fail
    go_ret2
    exact ⟨rfl, HB2.out⟩
set_option maxHeartbeats 4000000 in
theorem recon_any (o oh i ih : Int) (w : World) :
    Calls Tryd.prog 24 #[.int .i64 o, .int .i64 oh, .int .i64 i, .int .i64 ih] w fun e w' => e = .returned (.bool (econB o oh i ih)) ∧ Below w.heap.size w w' := by
  go_enter Tryd.func24, Tryd.ntmps24
  go_wp2_with fail
  refine (rratio_any _ _ _).mono ?_
  rintro e w1 ⟨rfl, hb⟩
  have HB1 := Lib.hid hb
  clear hb
  go_wp2_with fail
  refine (rent_any _ _ _).mono ?_
  rintro e w2 ⟨rfl, hb⟩
  have HB2 := Lib.hid (below_step HB1.out hb)
  clear hb
  go_wp2_with fail
  refine (rratio_any _ _ _).mono ?_
  rintro e w3 ⟨rfl, hb⟩
  have HB3 := Lib.hid (below_step HB2.out hb)
  clear hb
  go_wp2_with fail
  refine (rent_any _ _ _).mono ?_
  rintro e w4 ⟨rfl, hb⟩
  have HB4 := Lib.hid (below_step HB3.out hb)
  clear hb
  go_wp2_with fail
  go_ret
  exact ⟨rfl, HB4.out⟩
end Go.Proofs.YtgpbcdelaipifaaDoor
