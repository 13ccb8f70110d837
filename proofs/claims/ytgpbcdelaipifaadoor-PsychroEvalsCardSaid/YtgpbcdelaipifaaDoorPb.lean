/- Contracts of psychro's limits, Saturation, Dew, Ratio, Humidity and Enthalpy. Asked: the table reads as laid, where it is read. -/
import Derived.Test.YtgpbcdelaipifaaDoorL
import Derived.Test.YtgpbcdelaipifaaDoorMd
import Derived.Test.YtgpbcdelaipifaaDoorPa
import Derived.Deep.QuietTactic
import Derived.Deep.RegionWith
import Derived.Deep.RegionHeld3
import Derived.BigQuiet
import Derived.RegionTactic
import Derived.LoopTactic
import Derived.Lib.SmallJoins
import Derived.Lib.Hide
namespace Go.Proofs.YtgpbcdelaipifaaDoor
open Go.RowKit

/-- the table reads as laid -/
def SatT (w : World) : Prop := Lib.TabIs Tryd.prog w "plenum/psychro.saturated" .i64 satL
theorem SatT.below {w w' : World} (h : SatT w) (hb : Below w.heap.size w w') : SatT w' := Go.Joins.tab_stays (g := 0) (by kernel_rfl) h hb (Nat.le_refl _)
theorem SatT.at {w : World} (h : SatT w) (i : Nat) (hi : i ≤ 16) : w.cell? ⟨0, i, none⟩ = some (.int .i64 (satI i)) :=
  Lib.TabIs.cell (g := 0) h (by kernel_rfl) i (by show i < 17; omega)

set_option maxHeartbeats 400000 in
theorem limited_any (n lo hi : Int) (w : World) :
    Calls Tryd.prog 29 #[.int .i64 n, .int .i64 lo, .int .i64 hi] w fun e w' => e = .returned (.int .i64 (limI n lo hi)) ∧ w = w' := by
  unfold limI
  go_enter Tryd.func29, Tryd.ntmps29
  go_wp2
  all_goals
    go_ret
    exact ⟨ret_int (by omega), rfl⟩
set_option maxHeartbeats 400000 in
theorem limT_any (n : Int) (w : World) :
    Calls Tryd.prog 41 #[.int .i64 n] w fun e w' => e = .returned (.int .i64 (limI n (-100000) 200000)) ∧ w = w' := by
  go_enter Tryd.func41, Tryd.ntmps41
  go_wp2_with (go_at_call 29; refine (limited_any _ _ _ _).mono ?_; rintro e w' ⟨rfl, rfl⟩)
  go_ret
  exact ⟨rfl, rfl⟩
set_option maxHeartbeats 400000 in
theorem limR_any (n : Int) (w : World) :
    Calls Tryd.prog 39 #[.int .i64 n] w fun e w' => e = .returned (.int .i64 (limI n 0 1000000)) ∧ w = w' := by
  go_enter Tryd.func39, Tryd.ntmps39
  go_wp2_with (go_at_call 29; refine (limited_any _ _ _ _).mono ?_; rintro e w' ⟨rfl, rfl⟩)
  go_ret
  exact ⟨rfl, rfl⟩
set_option maxHeartbeats 400000 in
theorem tempAt_any (i : Nat) (w : World) (hi : i ≤ 16) :
    Calls Tryd.prog 31 #[.int .i64 i] w fun e w' => e = .returned (.int .i64 (degI i)) ∧ w = w' := by
  unfold degI
  have h1 : (i : Int) ≤ 16 := by omega
  go_enter Tryd.func31, Tryd.ntmps31
  go_wp2
  go_ret
  exact ⟨ret_int (by omega), rfl⟩
theorem tempAt1_any (i : Nat) (w : World) (hi : i ≤ 15) :
    Calls Tryd.prog 31 #[.int .i64 ((i : Int) + 1)] w fun e w' => e = .returned (.int .i64 (degI (i + 1))) ∧ w = w' := tempAt_any (i + 1) w (by omega)

set_option maxHeartbeats 2000000 in
theorem sat_any (t : Int) (w : World) (ht : SatT w) :
    Calls Tryd.prog 11 #[.int .i64 t] w fun e w' => e = .returned (.int .i64 (satF t)) ∧ Below w.heap.size w w' := by
  obtain ⟨T, hT⟩ : ∃ T, T = limI t (-20000) 60000 := ⟨_, rfl⟩
  obtain ⟨Z, hZ⟩ : ∃ Z, Z = satF t := ⟨_, rfl⟩
  have hr := limI_range t (-20000) 60000 (by omega)
  rw [← hT] at hr
  have hin := (sIdx_in T hr.1 hr.2).1
  have hKL := Lib.hid (fun w => show Calls Tryd.prog 29 #[.int .i64 t, .int .i64 (-20000), .int .i64 60000] w fun e w' => e = .returned (.int .i64 T) ∧ w = w' by rw [hT]; exact limited_any t (-20000) 60000 w)
  have he : min ((T + 20000) / 5000) 15 = ((sIdx T : Nat) : Int) := by unfold sIdx; omega
  have hKZ : lineI T (degI (sIdx T)) (satI (sIdx T)) (degI (sIdx T + 1)) (satI (sIdx T + 1)) = Z := by rw [hZ, satF, ← hT]; rfl
  rw [← hZ]
  obtain ⟨i, hi⟩ : ∃ i, i = sIdx T := ⟨_, rfl⟩
  rw [← hi] at he hin hKZ
  have c1 := ht.at i (by omega)
  have c2 := ht.at (i + 1) (by omega)
  have HA := Lib.hid (And.intro c1 c2)
  obtain ⟨S1, h1⟩ : ∃ s, s = satI i := ⟨_, rfl⟩
  obtain ⟨S2, h2⟩ : ∃ s, s = satI (i + 1) := ⟨_, rfl⟩
  obtain ⟨D1, h3⟩ : ∃ s, s = degI i := ⟨_, rfl⟩
  obtain ⟨D2, h4⟩ : ∃ s, s = degI (i + 1) := ⟨_, rfl⟩
  have hKA := Lib.hid (fun w => show Calls Tryd.prog 31 #[.int .i64 i] w fun e w' => e = .returned (.int .i64 D1) ∧ w = w' by rw [h3]; exact tempAt_any i w (by omega))
  have hKB := Lib.hid (fun w => show Calls Tryd.prog 31 #[.int .i64 ((i : Int) + 1)] w fun e w' => e = .returned (.int .i64 D2) ∧ w = w' by rw [h4]; exact tempAt1_any i w hin)
  rw [← h1, ← h2, ← h3, ← h4] at hKZ
  rw [← h1] at c1
  rw [← h2] at c2
  have hKC := Lib.hid (fun w => show Calls Tryd.prog 30 #[.int .i64 T, .int .i64 D1, .int .i64 S1, .int .i64 D2, .int .i64 S2] w fun e w' => e = .returned (.int .i64 Z) ∧ Below w.heap.size w w' by rw [← hKZ]; exact line_any _ _ _ _ _ w)
  clear h1 h2 h3 h4 hZ hT hKZ hi HA
  have p1 : (0 : Int) ≤ i := by omega
  have p2 : (i : Int) < 17 := by omega
  have p3 : (0 : Int) ≤ (i : Int) + 1 := by omega
  have p4 : (i : Int) + 1 < 17 := by omega
  have p5 : ((i : Int) + 1).toNat = i + 1 := by omega
  have p6 : IntKind.i64.wrap ((i : Int) + 1) = (i : Int) + 1 := IntWalk.i64_in _ (by omega)
  have hg := World.block_lt_of_cell? _ _ c1
  clear ht hin
  obtain ⟨hr1, hr2⟩ := hr
  go_enter Tryd.func11, Tryd.ntmps11
  go_wp2_with fail
  refine (hKL.out _).mono ?_
  rintro e w' ⟨rfl, rfl⟩
  clear hKL
  go_wp2_with fail
  go_region_held3 (fun w' => w'.cell? ⟨0, i, none⟩ = some (.int .i64 S1) ∧ w'.cell? ⟨0, i + 1, none⟩ = some (.int .i64 S2))
    (first | (with_reducible exact ⟨k1, k2⟩) | go_keep)
    ((first | ((with_reducible refine (hKA.out _).mono ?_); rintro e w' ⟨rfl, rfl⟩) | ((with_reducible refine (hKB.out _).mono ?_); rintro e w' ⟨rfl, rfl⟩) | ((with_reducible refine (hKC.out _).mono ?_); rintro e w2 ⟨rfl, hb2⟩; have k1 := (hb2.cell (p := ⟨0, i, none⟩) hg).trans c1; have k2 := (hb2.cell (p := ⟨0, i + 1, none⟩) hg).trans c2)))
  all_goals
    rename_i hHeld
    clear hHeld
    go_wp2_with fail
    go_ret
    exact ⟨rfl, (Below.refl w.heap.size w).drew.trans hb2⟩

set_option maxHeartbeats 2000000 in
theorem dew_any (t : Int) (w : World) (ht : SatT w) :
    Calls Tryd.prog 17 #[.int .i64 t] w fun e w' => e = .returned (.int .i64 (dewF t)) ∧ Below w.heap.size w w' := by
  obtain ⟨T, hT⟩ : ∃ T, T = limI t 0 1000000 := ⟨_, rfl⟩
  obtain ⟨Z, hZ⟩ : ∃ Z, Z = dewF t := ⟨_, rfl⟩
  have hr := limI_range t 0 1000000 (by omega)
  rw [← hT] at hr
  have hd := dIdx_le T
  have hup := Lib.hid (fun k (h1 : k + 1 ≤ 15) (h2 : k + 1 ≤ dIdx T) => dIdx_up T (k + 1) h1 h2 (by omega))
  have hdn := Lib.hid (fun k => dIdx_down T k)
  have hKL := Lib.hid (fun w => show Calls Tryd.prog 39 #[.int .i64 t] w fun e w' => e = .returned (.int .i64 T) ∧ w = w' by rw [hT]; exact limR_any t w)
  have hKZ : lineI T (satI (dIdx T)) (degI (dIdx T)) (satI (dIdx T + 1)) (degI (dIdx T + 1)) = Z := by rw [hZ, dewF, ← hT]; rfl
  rw [← hZ]
  obtain ⟨i, hi⟩ : ∃ i, i = dIdx T := ⟨_, rfl⟩
  rw [← hi] at hd hup hdn hKZ
  have c1 := ht.at i (by omega)
  have c2 := ht.at (i + 1) (by omega)
  have HT := Lib.hid (fun k => ht.at (k + 1))
  obtain ⟨S1, h1⟩ : ∃ s, s = satI i := ⟨_, rfl⟩
  obtain ⟨S2, h2⟩ : ∃ s, s = satI (i + 1) := ⟨_, rfl⟩
  obtain ⟨D1, h3⟩ : ∃ s, s = degI i := ⟨_, rfl⟩
  obtain ⟨D2, h4⟩ : ∃ s, s = degI (i + 1) := ⟨_, rfl⟩
  have hKA := Lib.hid (fun w => show Calls Tryd.prog 31 #[.int .i64 i] w fun e w' => e = .returned (.int .i64 D1) ∧ w = w' by rw [h3]; exact tempAt_any i w (by omega))
  have hKB := Lib.hid (fun w => show Calls Tryd.prog 31 #[.int .i64 ((i : Int) + 1)] w fun e w' => e = .returned (.int .i64 D2) ∧ w = w' by rw [h4]; exact tempAt1_any i w hd)
  rw [← h1, ← h2, ← h3, ← h4] at hKZ
  rw [← h1] at c1
  rw [← h2] at c2
  have hKC := Lib.hid (fun w => show Calls Tryd.prog 30 #[.int .i64 T, .int .i64 S1, .int .i64 D1, .int .i64 S2, .int .i64 D2] w fun e w' => e = .returned (.int .i64 Z) ∧ Below w.heap.size w w' by rw [← hKZ]; exact line_any _ _ _ _ _ w)
  have hg := World.block_lt_of_cell? _ _ c1
  have HC := Lib.hid (And.intro c1 c2)
  have HN := Lib.hid (show i < 15 → ¬ S2 ≤ T from fun hl hs => by rw [h2] at hs; have := hdn.out i hl hs; omega)
  clear h1 h2 h3 h4 hZ hT hKZ hi ht c1 c2
  obtain ⟨hr1, hr2⟩ := hr
  go_enter Tryd.func17, Tryd.ntmps17
  go_wp2_with fail
  refine (hKL.out _).mono ?_
  rintro e w' ⟨rfl, rfl⟩
  clear hKL
  go_wp2_with fail
  go_loop [4] (fun a => ∃ k : Nat, a = .int .i64 k ∧ k ≤ i) (fun a => (i - intOf a).toNat)
  case atStart => exact ⟨0, rfl, by omega⟩
  case round =>
    obtain ⟨k, rfl, hk⟩ := hrel
    by_cases hlt : k < i
    · have q1 : (k : Int) < 15 := by omega
      have q2 := HT.out k (by omega)
      have q3 := hup.out k (by omega) (by omega)
      obtain ⟨Y, hY⟩ : ∃ y, y = satI (k + 1) := ⟨_, rfl⟩
      rw [← hY] at q2 q3
      have q5 : ((k : Int) + 1).toNat = k + 1 := by omega
      clear hY
      go_wp2_with fail
      go_round
      case rel => exact ⟨k + 1, by go_num, by omega⟩
      case measure => simp [intOf]; omega
    · obtain rfl : k = i := by omega
      have p1 : (0 : Int) ≤ k := by omega
      have p2 : (k : Int) < 17 := by omega
      have p3 : (0 : Int) ≤ (k : Int) + 1 := by omega
      have p4 : (k : Int) + 1 < 17 := by omega
      have p5 : ((k : Int) + 1).toNat = k + 1 := by omega
      have p6 : IntKind.i64.wrap ((k : Int) + 1) = (k : Int) + 1 := IntWalk.i64_in _ (by omega)
      have c1 := HC.out.1
      have c2 := HC.out.2
      by_cases h15 : (k : Int) < 15
      · have hns := HN.out (by omega)
        go_wp2_with fail
        go_region_held3 (fun w' => w'.cell? ⟨0, k, none⟩ = some (.int .i64 S1) ∧ w'.cell? ⟨0, k + 1, none⟩ = some (.int .i64 S2))
          (first | (with_reducible exact ⟨k1, k2⟩) | go_keep)
          ((first | ((with_reducible refine (hKA.out _).mono ?_); rintro e w' ⟨rfl, rfl⟩) | ((with_reducible refine (hKB.out _).mono ?_); rintro e w' ⟨rfl, rfl⟩) | ((with_reducible refine (hKC.out _).mono ?_); rintro e w2 ⟨rfl, hb2⟩; have k1 := (hb2.cell (p := ⟨0, k, none⟩) hg).trans c1; have k2 := (hb2.cell (p := ⟨0, k + 1, none⟩) hg).trans c2)))
        all_goals
          rename_i hHeld
          clear hHeld
          go_wp2_with fail
          go_ret
          exact ⟨rfl, (Below.refl w.heap.size w).drew.trans hb2⟩
      · go_wp2_with fail
        go_region_held3 (fun w' => w'.cell? ⟨0, k, none⟩ = some (.int .i64 S1) ∧ w'.cell? ⟨0, k + 1, none⟩ = some (.int .i64 S2))
          (first | (with_reducible exact ⟨k1, k2⟩) | go_keep)
          ((first | ((with_reducible refine (hKA.out _).mono ?_); rintro e w' ⟨rfl, rfl⟩) | ((with_reducible refine (hKB.out _).mono ?_); rintro e w' ⟨rfl, rfl⟩) | ((with_reducible refine (hKC.out _).mono ?_); rintro e w2 ⟨rfl, hb2⟩; have k1 := (hb2.cell (p := ⟨0, k, none⟩) hg).trans c1; have k2 := (hb2.cell (p := ⟨0, k + 1, none⟩) hg).trans c2)))
        all_goals
          rename_i hHeld
          clear hHeld
          go_wp2_with fail
          go_ret
          exact ⟨rfl, (Below.refl w.heap.size w).drew.trans hb2⟩

theorem below_step {w w1 w2 : World} (h1 : Below w.heap.size w w1) (h2 : Below w1.heap.size w1 w2) : Below w.heap.size w w2 := h1.trans (h2.mono h1.size)
set_option maxHeartbeats 2000000 in
theorem ratio_any (t h : Int) (w : World) (ht : SatT w) :
    Calls Tryd.prog 13 #[.int .i64 t, .int .i64 h] w fun e w' => e = .returned (.int .i64 (ratF t h)) ∧ Below w.heap.size w w' := by
  have HS := Lib.hid (sat_any t w ht)
  unfold ratF
  go_enter Tryd.func13, Tryd.ntmps13
  go_wp2_with fail
  refine HS.out.mono ?_
  rintro e w1 ⟨rfl, hb⟩
  have HB := Lib.hid hb
  clear hb
  go_wp2_with fail
  refine (limited_any _ _ _ _).mono ?_
  rintro e w' ⟨rfl, rfl⟩
  go_wp2_with fail
  refine (muldiv_any _ _ _ _).mono ?_
  rintro e w2 ⟨rfl, hb⟩
  have HB2 := Lib.hid (below_step HB.out hb)
  clear hb
  go_wp2_with fail
  go_ret
  exact ⟨rfl, HB2.out⟩
set_option maxHeartbeats 2000000 in
theorem humidity_any (t h : Int) (w : World) (ht : SatT w) :
    Calls Tryd.prog 15 #[.int .i64 t, .int .i64 h] w fun e w' => e = .returned (.int .i64 (humF t h)) ∧ Below w.heap.size w w' := by
  have HS := Lib.hid (fun w (ht : SatT w) => sat_any t w ht)
  have HT := Lib.hid ht
  clear ht
  unfold humF
  go_enter Tryd.func15, Tryd.ntmps15
  go_wp2_with fail
  refine (limR_any _ _).mono ?_
  rintro e w' ⟨rfl, rfl⟩
  go_wp2_with fail
  refine (HS.out _ HT.out).mono ?_
  rintro e w1 ⟨rfl, hb⟩
  have HB := Lib.hid hb
  clear hb
  go_wp2_with fail
  refine (muldiv_any _ _ _ _).mono ?_
  rintro e w2 ⟨rfl, hb⟩
  have HB2 := Lib.hid (below_step HB.out hb)
  clear hb
  go_wp2_with fail
  all_goals
    go_ret
    exact ⟨ret_int (by omega), HB2.out⟩
set_option maxHeartbeats 2000000 in
theorem enthalpy_any (t h : Int) (w : World) :
    Calls Tryd.prog 19 #[.int .i64 t, .int .i64 h] w fun e w' => e = .returned (.int .i64 (entF t h)) ∧ Below w.heap.size w w' := by
  unfold entF
  obtain ⟨T, hT⟩ : ∃ T, T = limI t (-100000) 200000 := ⟨_, rfl⟩
  have hr := limI_range t (-100000) 200000 (by omega)
  have hKL := Lib.hid (fun w => show Calls Tryd.prog 41 #[.int .i64 t] w fun e w' => e = .returned (.int .i64 T) ∧ w = w' by rw [hT]; exact limT_any t w)
  rw [← hT] at hr ⊢
  have hq := heat_range T hr.1 hr.2
  obtain ⟨M, hM⟩ : ∃ m, m = mulDivI T 1860 1000 := ⟨_, rfl⟩
  have hKM := Lib.hid (fun w => show Calls Tryd.prog 36 #[.int .i64 T, .int .i64 1860, .int .i64 1000] w fun e w' => e = .returned (.int .i64 M) ∧ Below w.heap.size w w' by rw [hM]; exact muldiv_any _ _ _ w)
  rw [← hM] at hq ⊢
  have a1 := mulDivI_range T 1006 1000
  obtain ⟨X, hX⟩ : ∃ m, m = mulDivI T 1006 1000 := ⟨_, rfl⟩
  have hKX := Lib.hid (fun w => show Calls Tryd.prog 36 #[.int .i64 T, .int .i64 1006, .int .i64 1000] w fun e w' => e = .returned (.int .i64 X) ∧ Below w.heap.size w w' by rw [hX]; exact muldiv_any _ _ _ w)
  rw [← hX] at a1 ⊢
  have a2 := mulDivI_range (limI h 0 1000000) (2501000 + M) 1000000
  obtain ⟨U, hU⟩ : ∃ m, m = limI h 0 1000000 := ⟨_, rfl⟩
  have hKU := Lib.hid (fun w => show Calls Tryd.prog 39 #[.int .i64 h] w fun e w' => e = .returned (.int .i64 U) ∧ w = w' by rw [hU]; exact limR_any h w)
  rw [← hU] at a2 ⊢
  obtain ⟨Y, hY⟩ : ∃ m, m = mulDivI U (2501000 + M) 1000000 := ⟨_, rfl⟩
  have hKY := Lib.hid (fun w => show Calls Tryd.prog 36 #[.int .i64 U, .int .i64 (2501000 + M), .int .i64 1000000] w fun e w' => e = .returned (.int .i64 Y) ∧ Below w.heap.size w w' by rw [hY]; exact muldiv_any _ _ _ w)
  rw [← hY] at a2 ⊢
  clear hT hr hM hX hU hY
  obtain ⟨q1, q2⟩ := hq
  obtain ⟨a3, a4⟩ := a1
  obtain ⟨a5, a6⟩ := a2
  go_enter Tryd.func19, Tryd.ntmps19
  go_wp2_with fail
  refine (hKL.out _).mono ?_
  rintro e w' ⟨rfl, rfl⟩
  go_wp2_with fail
  refine (hKU.out _).mono ?_
  rintro e w' ⟨rfl, rfl⟩
  go_wp2_with fail
  refine (hKX.out _).mono ?_
  rintro e w1 ⟨rfl, hb⟩
  have HB1 := Lib.hid hb
  clear hb
  go_wp2_with fail
  refine (hKM.out _).mono ?_
  rintro e w2 ⟨rfl, hb⟩
  have HB2 := Lib.hid (below_step HB1.out hb)
  clear hb
  go_wp2_with fail
  refine (hKY.out _).mono ?_
  rintro e w3 ⟨rfl, hb⟩
  have HB3 := Lib.hid (below_step HB2.out hb)
  clear hb
  go_wp2_with fail
  go_ret
  exact ⟨rfl, HB3.out⟩
end Go.Proofs.YtgpbcdelaipifaaDoor
