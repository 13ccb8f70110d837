/- The law Bounds. -/
import Derived.Test.YtaobbedajgkmiaaDoorFy
namespace Go.Proofs.YtaobbedajgkmiaaDoor
open Go.RowKit Go.Shelf

set_option linter.unusedVariables false
set_option linter.unusedSimpArgs false
set_option maxHeartbeats 16000000 in
set_option maxRecDepth 100000 in
theorem bounds_law (a b low high : Int) (w : World) (hm : MaxAt w) :
    Calls Tryd.prog 7 #[.int .i64 a, .int .i64 b, .int .i64 low, .int .i64 high] w fun e w' => e = .returned (.bool true) ∧ Below w.heap.size w w' := by
  have KAW := Lib.hid (awake_yes w hm)
  have HMX := Lib.hid (fun (x : World) (hb : Below w.heap.size w x) => hm.keep hb)
  have ra := clampI_range a
  have rb := clampI_range b
  obtain ⟨A, hA⟩ : ∃ A, A = clampI a := ⟨_, rfl⟩
  obtain ⟨C, hC⟩ : ∃ C, C = clampI b := ⟨_, rfl⟩
  have ka := fun w => rclamp_any a w
  have kb := fun w => rclamp_any b w
  rw [← hA] at ka ra
  rw [← hC] at kb rb
  have KA := Lib.hid ka
  have KB := Lib.hid kb
  obtain ⟨a1, a2⟩ := ra
  obtain ⟨b1, b2⟩ := rb
  clear ka kb hA hC hm
  obtain ⟨X, hX⟩ : ∃ x, x = min A C := ⟨_, rfl⟩
  obtain ⟨E, hE⟩ : ∃ x, x = mean2 A C := ⟨_, rfl⟩
  obtain ⟨Y, hY⟩ : ∃ x, x = max A C := ⟨_, rfl⟩
  obtain ⟨N, hN⟩ : ∃ x, x = -A := ⟨_, rfl⟩
  obtain ⟨T, hT⟩ : ∃ x, x = max A N := ⟨_, rfl⟩
  have hbt := mean_between a1 a2 b1 b2
  rw [← hX, ← hE, ← hY] at hbt
  have f1 : decide (E < X) = false := decide_eq_false (by omega)
  have f2 : decide (Y < E) = false := decide_eq_false (by omega)
  have f3 : decide (T < 0) = false := decide_eq_false (by omega)
  have n1 : -1000000000000 ≤ N := by omega
  have n2 : N ≤ 1000000000000 := by omega
  have hNN : -N = A := by omega
  have KX := Lib.hid (fun q ic w hm hv => show Calls Tryd.prog 23 #[.string ⟨#[109, 105, 110]⟩, .slice none 0 0, .slice (some ⟨q, 0, none⟩) 2 ic] w fun e w' => e = .returned (.tuple #[.agg #[.int .i64 1, .int .i64 X], .int .i64 0]) ∧ Below w.heap.size w w' by rw [hX]; exact ev2_min A C a1 a2 b1 b2 q ic w hm hv)
  have KE := Lib.hid (fun q ic w hm hv => show Calls Tryd.prog 23 #[.string ⟨#[109, 101, 97, 110]⟩, .slice none 0 0, .slice (some ⟨q, 0, none⟩) 2 ic] w fun e w' => e = .returned (.tuple #[.agg #[.int .i64 1, .int .i64 E], .int .i64 0]) ∧ Below w.heap.size w w' by rw [hE]; exact ev2_mean A C a1 a2 b1 b2 q ic w hm hv)
  have KY := Lib.hid (fun q ic w hm hv => show Calls Tryd.prog 23 #[.string ⟨#[109, 97, 120]⟩, .slice none 0 0, .slice (some ⟨q, 0, none⟩) 2 ic] w fun e w' => e = .returned (.tuple #[.agg #[.int .i64 1, .int .i64 Y], .int .i64 0]) ∧ Below w.heap.size w w' by rw [hY]; exact ev2_max A C a1 a2 b1 b2 q ic w hm hv)
  have KN := Lib.hid (fun q ic w hm hv => show Calls Tryd.prog 23 #[.string ⟨#[110, 101, 103]⟩, .slice none 0 0, .slice (some ⟨q, 0, none⟩) 1 ic] w fun e w' => e = .returned (.tuple #[.agg #[.int .i64 1, .int .i64 N], .int .i64 0]) ∧ Below w.heap.size w w' by rw [hN]; exact ev1_neg A a1 a2 q ic w hm hv)
  have KR := Lib.hid (fun q ic w hm hv => show Calls Tryd.prog 23 #[.string ⟨#[110, 101, 103]⟩, .slice none 0 0, .slice (some ⟨q, 0, none⟩) 1 ic] w fun e w' => e = .returned (.tuple #[.agg #[.int .i64 1, .int .i64 A], .int .i64 0]) ∧ Below w.heap.size w w' by have h := ev1_neg N n1 n2 q ic w hm hv; rw [hNN] at h; exact h)
  have KT := Lib.hid (fun q ic w hm hv => show Calls Tryd.prog 23 #[.string ⟨#[97, 98, 115]⟩, .slice none 0 0, .slice (some ⟨q, 0, none⟩) 1 ic] w fun e w' => e = .returned (.tuple #[.agg #[.int .i64 1, .int .i64 T], .int .i64 0]) ∧ Below w.heap.size w w' by rw [hT, hN]; exact ev1_abs A a1 a2 q ic w hm hv)
  have HTe := Lib.hid hT.symm
  have HXA := Lib.hid (show ∀ l h : Int, True from fun _ _ => trivial)
  clear hX hE hY hN hT hNN hbt
  go_enter Tryd.func7, Tryd.ntmps7
  go_wp2_with fail
  refine (KAW.out).mono ?_
  rintro e w1 ⟨rfl, hb⟩
  have HB1 := Lib.hid hb
  clear hb 
  go_wp2_with fail
  refine (KA.out _).mono ?_
  rintro e w' ⟨rfl, rfl⟩
  go_wp2_with fail
  refine (KB.out _).mono ?_
  rintro e w' ⟨rfl, rfl⟩
  go_wp2_with fail
  refine (analog_any A _).mono ?_
  rintro e w2 ⟨rfl, hb⟩
  have HB2 := Lib.hid (HB1.out.trans (hb.mono HB1.out.size))
  clear hb  HB1
  go_wp2_with fail
  refine (analog_any C _).mono ?_
  rintro e w3 ⟨rfl, hb⟩
  have HB3 := Lib.hid (HB2.out.trans (hb.mono HB2.out.size))
  clear hb  HB2
  obtain ⟨w4, gQ, hW, hg, R, hb, sz⟩ := box1 w3 #[.int .i64 1, .int .i64 A, .int .i64 1, .int .i64 C] 51
  have HB4 := Lib.hid (HB3.out.trans (hb.mono HB3.out.size))
  have HQ_4 := Lib.hid R
  clear R hb sz  HB3
  go_wp2_with fail
  rw [← hW]
  rw [← hg]
  clear hW hg
  refine (KX.out gQ _ _ (HMX.out _ HB4.out) HQ_4.out).mono ?_
  rintro e w5 ⟨rfl, hb⟩
  have HQ_5 := Lib.hid (HQ_4.out.keep hb)
  have HB5 := Lib.hid (HB4.out.trans (hb.mono HB4.out.size))
  clear hb HQ_4 HB4
  obtain ⟨w6, gX, hW, hg, R, hb, sz⟩ := box1 w5 #[.int .i64 1, .int .i64 X] 51
  have HQ_6 := Lib.hid (HQ_5.out.keep hb)
  have HB6 := Lib.hid (HB5.out.trans (hb.mono HB5.out.size))
  have HX_6 := Lib.hid R
  clear R hb sz HQ_5 HB5
  go_upto_region 7 with fail
  rw [← hW]
  rw [← hg]
  clear hW hg
  go_wp2_with fail
  refine (KE.out gQ _ _ (HMX.out _ HB6.out) HQ_6.out).mono ?_
  rintro e w7 ⟨rfl, hb⟩
  have HQ_7 := Lib.hid (HQ_6.out.keep hb)
  have HX_7 := Lib.hid (HX_6.out.keep hb)
  have HB7 := Lib.hid (HB6.out.trans (hb.mono HB6.out.size))
  clear hb HQ_6 HX_6 HB6
  obtain ⟨w8, gE, hW, hg, R, hb, sz⟩ := box1 w7 #[.int .i64 1, .int .i64 E] 51
  have HQ_8 := Lib.hid (HQ_7.out.keep hb)
  have HX_8 := Lib.hid (HX_7.out.keep hb)
  have HB8 := Lib.hid (HB7.out.trans (hb.mono HB7.out.size))
  have HE_8 := Lib.hid R
  clear R hb sz HQ_7 HX_7 HB7
  go_upto_region 8 with fail
  rw [← hW]
  rw [← hg]
  clear hW hg
  go_wp2_with fail
  refine (KY.out gQ _ _ (HMX.out _ HB8.out) HQ_8.out).mono ?_
  rintro e w9 ⟨rfl, hb⟩
  have HQ_9 := Lib.hid (HQ_8.out.keep hb)
  have HX_9 := Lib.hid (HX_8.out.keep hb)
  have HE_9 := Lib.hid (HE_8.out.keep hb)
  have HB9 := Lib.hid (HB8.out.trans (hb.mono HB8.out.size))
  clear hb HQ_8 HX_8 HE_8 HB8
  obtain ⟨w10, gY, hW, hg, R, hb, sz⟩ := box1 w9 #[.int .i64 1, .int .i64 Y] 51
  have HQ_10 := Lib.hid (HQ_9.out.keep hb)
  have HX_10 := Lib.hid (HX_9.out.keep hb)
  have HE_10 := Lib.hid (HE_9.out.keep hb)
  have HB10 := Lib.hid (HB9.out.trans (hb.mono HB9.out.size))
  have HY_10 := Lib.hid R
  clear R hb sz HQ_9 HX_9 HE_9 HB9
  go_upto_region 9 with fail
  rw [← hW]
  rw [← hg]
  clear hW hg
  go_wp2_with fail
  refine (KN.out gQ _ _ (HMX.out _ HB10.out) (ins_head HQ_10.out)).mono ?_
  rintro e w11 ⟨rfl, hb⟩
  have HQ_11 := Lib.hid (HQ_10.out.keep hb)
  have HX_11 := Lib.hid (HX_10.out.keep hb)
  have HE_11 := Lib.hid (HE_10.out.keep hb)
  have HY_11 := Lib.hid (HY_10.out.keep hb)
  have HB11 := Lib.hid (HB10.out.trans (hb.mono HB10.out.size))
  clear hb HQ_10 HX_10 HE_10 HY_10 HB10
  obtain ⟨w12, gN, hW, hg, R, hb, sz⟩ := box1 w11 #[.int .i64 1, .int .i64 N] 51
  have HQ_12 := Lib.hid (HQ_11.out.keep hb)
  have HX_12 := Lib.hid (HX_11.out.keep hb)
  have HE_12 := Lib.hid (HE_11.out.keep hb)
  have HY_12 := Lib.hid (HY_11.out.keep hb)
  have HB12 := Lib.hid (HB11.out.trans (hb.mono HB11.out.size))
  have HN_12 := Lib.hid R
  clear R hb sz HQ_11 HX_11 HE_11 HY_11 HB11
  go_upto_region 10 with fail
  rw [← hW]
  rw [← hg]
  clear hW hg
  have n_0 := HN_12.out.c 0 _ rfl
  have n_1 := HN_12.out.c 1 _ rfl
  obtain ⟨w13, gL, hW, hg, R, hb, sz⟩ := box1 w12 #[.int .i64 1, .int .i64 N] 51
  have HQ_13 := Lib.hid (HQ_12.out.keep hb)
  have HX_13 := Lib.hid (HX_12.out.keep hb)
  have HE_13 := Lib.hid (HE_12.out.keep hb)
  have HY_13 := Lib.hid (HY_12.out.keep hb)
  have HN_13 := Lib.hid (HN_12.out.keep hb)
  have HB13 := Lib.hid (HB12.out.trans (hb.mono HB12.out.size))
  have HL_13 := Lib.hid R
  clear R hb sz HQ_12 HX_12 HE_12 HY_12 HN_12 HB12
  go_wp2_with fail
  rw [← hW]
  rw [← hg]
  clear hW hg
  clear n_0 n_1
  refine (KR.out gL _ _ (HMX.out _ HB13.out) (row_ins1 HL_13.out rfl (by decide))).mono ?_
  rintro e w14 ⟨rfl, hb⟩
  have HQ_14 := Lib.hid (HQ_13.out.keep hb)
  have HX_14 := Lib.hid (HX_13.out.keep hb)
  have HE_14 := Lib.hid (HE_13.out.keep hb)
  have HY_14 := Lib.hid (HY_13.out.keep hb)
  have HN_14 := Lib.hid (HN_13.out.keep hb)
  have HL_14 := Lib.hid (HL_13.out.keep hb)
  have HB14 := Lib.hid (HB13.out.trans (hb.mono HB13.out.size))
  clear hb HQ_13 HX_13 HE_13 HY_13 HN_13 HL_13 HB13
  obtain ⟨w15, gR, hW, hg, R, hb, sz⟩ := box1 w14 #[.int .i64 1, .int .i64 A] 51
  have HQ_15 := Lib.hid (HQ_14.out.keep hb)
  have HX_15 := Lib.hid (HX_14.out.keep hb)
  have HE_15 := Lib.hid (HE_14.out.keep hb)
  have HY_15 := Lib.hid (HY_14.out.keep hb)
  have HN_15 := Lib.hid (HN_14.out.keep hb)
  have HL_15 := Lib.hid (HL_14.out.keep hb)
  have HB15 := Lib.hid (HB14.out.trans (hb.mono HB14.out.size))
  have HR_15 := Lib.hid R
  clear R hb sz HQ_14 HX_14 HE_14 HY_14 HN_14 HL_14 HB14
  go_upto_region 11 with fail
  rw [← hW]
  rw [← hg]
  clear hW hg
  go_wp2_with fail
  refine (KT.out gQ _ _ (HMX.out _ HB15.out) (ins_head HQ_15.out)).mono ?_
  rintro e w16 ⟨rfl, hb⟩
  have HQ_16 := Lib.hid (HQ_15.out.keep hb)
  have HX_16 := Lib.hid (HX_15.out.keep hb)
  have HE_16 := Lib.hid (HE_15.out.keep hb)
  have HY_16 := Lib.hid (HY_15.out.keep hb)
  have HN_16 := Lib.hid (HN_15.out.keep hb)
  have HL_16 := Lib.hid (HL_15.out.keep hb)
  have HR_16 := Lib.hid (HR_15.out.keep hb)
  have HB16 := Lib.hid (HB15.out.trans (hb.mono HB15.out.size))
  clear hb HQ_15 HX_15 HE_15 HY_15 HN_15 HL_15 HR_15 HB15
  obtain ⟨w17, gT, hW, hg, R, hb, sz⟩ := box1 w16 #[.int .i64 1, .int .i64 T] 51
  have HQ_17 := Lib.hid (HQ_16.out.keep hb)
  have HX_17 := Lib.hid (HX_16.out.keep hb)
  have HE_17 := Lib.hid (HE_16.out.keep hb)
  have HY_17 := Lib.hid (HY_16.out.keep hb)
  have HN_17 := Lib.hid (HN_16.out.keep hb)
  have HL_17 := Lib.hid (HL_16.out.keep hb)
  have HR_17 := Lib.hid (HR_16.out.keep hb)
  have HB17 := Lib.hid (HB16.out.trans (hb.mono HB16.out.size))
  have HT_17 := Lib.hid R
  clear R hb sz HQ_16 HX_16 HE_16 HY_16 HN_16 HL_16 HR_16 HB16
  go_upto_region 12 with fail
  rw [← hW]
  rw [← hg]
  clear hW hg
  have q_0 := HQ_17.out.c 0 _ rfl
  have q_1 := HQ_17.out.c 1 _ rfl
  have q_2 := HQ_17.out.c 2 _ rfl
  have q_3 := HQ_17.out.c 3 _ rfl
  have x_0 := HX_17.out.c 0 _ rfl
  have x_1 := HX_17.out.c 1 _ rfl
  have e_0 := HE_17.out.c 0 _ rfl
  have e_1 := HE_17.out.c 1 _ rfl
  have y_0 := HY_17.out.c 0 _ rfl
  have y_1 := HY_17.out.c 1 _ rfl
  have n_0 := HN_17.out.c 0 _ rfl
  have n_1 := HN_17.out.c 1 _ rfl
  have r_0 := HR_17.out.c 0 _ rfl
  have r_1 := HR_17.out.c 1 _ rfl
  have t_0 := HT_17.out.c 0 _ rfl
  have t_1 := HT_17.out.c 1 _ rfl
  have hTe := HTe.out
  go_wp2_with fail
  go_quiet ((fail))
  (try simp only [Exit.then])
  clear hTe f1 f2 f3
  rename_i nq
  obtain ⟨wq, hwq⟩ : ∃ x, x = w17.drewN nq := ⟨_, rfl⟩
  rw [← hwq]
  have hb : Below w17.heap.size w17 wq := by rw [hwq]; exact bdrewF _ _ _
  have HQ := Lib.hid (HQ_17.out.keep hb)
  have HB := Lib.hid (HB17.out.trans (hb.mono HB17.out.size))
  clear hwq hb
  clear q_0 q_1 q_2 q_3
  clear x_0 x_1
  clear e_0 e_1
  clear y_0 y_1
  clear n_0 n_1
  clear r_0 r_1
  clear t_0 t_1
  clear HQ_17 HX_17 HE_17 HY_17 HN_17 HL_17 HR_17 HT_17 HB17
  by_cases x1 : low < -1000000000000
  · have HBAD := Lib.hid (show low < -1000000000000 ∨ 1000000000000 < high ∨ high < low from .inl x1)
    have g1 : decide (low < (-1000000000000 : Int)) = true := decide_eq_true x1
    obtain ⟨wl, p, hW, hp, RP, hb, sz⟩ := box1 wq #[.int .i64 low, .int .i64 high] 2
    have HP := Lib.hid RP
    have HQl := Lib.hid (HQ.out.keep hb)
    have HBl := Lib.hid (HB.out.trans (hb.mono HB.out.size))
    clear RP hb sz HQ HB
    go_wp2_with fail
    rw [← hW]
    rw [← hp]
    clear hW hp
    refine (ev1_limit_inv A low high HBAD.out p _ gQ _ _ (HMX.out _ HBl.out) HP.out (ins_head HQl.out)).mono ?_
    rintro e wv ⟨rfl, hb⟩
    obtain ⟨wz, z, hW, hz, RZ, hb2, sz⟩ := box1 wv #[.int .i64 0, .int .i64 0] 51
    have HBz := Lib.hid (HBl.out.trans ((hb.trans (hb2.mono hb.size)).mono HBl.out.size))
    clear hb RZ hb2 sz HQl HBl HP HBAD
    go_upto_region 15 with fail
    rw [← hW]
    rw [← hz]
    clear hW hz
    go_wp2_with fail
    go_ret
    exact ⟨rfl, HBz.out⟩
  · by_cases x2 : 1000000000000 < high
    · have HBAD := Lib.hid (show low < -1000000000000 ∨ 1000000000000 < high ∨ high < low from .inr (.inl x2))
      have g1 : decide (low < (-1000000000000 : Int)) = false := decide_eq_false x1
      have g2 : decide ((1000000000000 : Int) < high) = true := decide_eq_true x2
      obtain ⟨wl, p, hW, hp, RP, hb, sz⟩ := box1 wq #[.int .i64 low, .int .i64 high] 2
      have HP := Lib.hid RP
      have HQl := Lib.hid (HQ.out.keep hb)
      have HBl := Lib.hid (HB.out.trans (hb.mono HB.out.size))
      clear RP hb sz HQ HB
      go_wp2_with fail
      rw [← hW]
      rw [← hp]
      clear hW hp
      refine (ev1_limit_inv A low high HBAD.out p _ gQ _ _ (HMX.out _ HBl.out) HP.out (ins_head HQl.out)).mono ?_
      rintro e wv ⟨rfl, hb⟩
      obtain ⟨wz, z, hW, hz, RZ, hb2, sz⟩ := box1 wv #[.int .i64 0, .int .i64 0] 51
      have HBz := Lib.hid (HBl.out.trans ((hb.trans (hb2.mono hb.size)).mono HBl.out.size))
      clear hb RZ hb2 sz HQl HBl HP HBAD
      go_upto_region 15 with fail
      rw [← hW]
      rw [← hz]
      clear hW hz
      go_wp2_with fail
      go_ret
      exact ⟨rfl, HBz.out⟩
    · by_cases x3 : high < low
      · have HBAD := Lib.hid (show low < -1000000000000 ∨ 1000000000000 < high ∨ high < low from .inr (.inr x3))
        have g1 : decide (low < (-1000000000000 : Int)) = false := decide_eq_false x1
        have g2 : decide ((1000000000000 : Int) < high) = false := decide_eq_false x2
        have g3 : decide (high < low) = true := decide_eq_true x3
        obtain ⟨wl, p, hW, hp, RP, hb, sz⟩ := box1 wq #[.int .i64 low, .int .i64 high] 2
        have HP := Lib.hid RP
        have HQl := Lib.hid (HQ.out.keep hb)
        have HBl := Lib.hid (HB.out.trans (hb.mono HB.out.size))
        clear RP hb sz HQ HB
        go_wp2_with fail
        rw [← hW]
        rw [← hp]
        clear hW hp
        refine (ev1_limit_inv A low high HBAD.out p _ gQ _ _ (HMX.out _ HBl.out) HP.out (ins_head HQl.out)).mono ?_
        rintro e wv ⟨rfl, hb⟩
        obtain ⟨wz, z, hW, hz, RZ, hb2, sz⟩ := box1 wv #[.int .i64 0, .int .i64 0] 51
        have HBz := Lib.hid (HBl.out.trans ((hb.trans (hb2.mono hb.size)).mono HBl.out.size))
        clear hb RZ hb2 sz HQl HBl HP HBAD
        go_upto_region 15 with fail
        rw [← hW]
        rw [← hz]
        clear hW hz
        go_wp2_with fail
        go_ret
        exact ⟨rfl, HBz.out⟩
      · have g1 : decide (low < (-1000000000000 : Int)) = false := decide_eq_false x1
        have g2 : decide ((1000000000000 : Int) < high) = false := decide_eq_false x2
        have g3 : decide (high < low) = false := decide_eq_false x3
        obtain ⟨wl, p, hW, hp, RP, hb, sz⟩ := box1 wq #[.int .i64 low, .int .i64 high] 2
        have HP := Lib.hid RP
        have HQl := Lib.hid (HQ.out.keep hb)
        have HBl := Lib.hid (HB.out.trans (hb.mono HB.out.size))
        clear RP hb sz HQ HB
        go_wp2_with fail
        rw [← hW]
        rw [← hp]
        clear hW hp
        obtain ⟨V, hV⟩ : ∃ x, x = min (max A low) high := ⟨_, rfl⟩
        have kv := ev1_limit A low high a1 a2 (by omega) (by omega) (by omega) p 2 gQ 2 wl (HMX.out _ HBl.out) HP.out (ins_head HQl.out)
        rw [← hV] at kv
        have KV := Lib.hid kv
        have v1 : decide (low ≤ V) = true := decide_eq_true (by omega)
        have v2 : decide (V ≤ high) = true := decide_eq_true (by omega)
        have hVA : low ≤ A → A ≤ high → V = A := by omega
        have HVA := Lib.hid hVA
        clear kv hV hVA
        refine KV.out.mono ?_
        rintro e wv ⟨rfl, hb⟩
        obtain ⟨wz, z, hW, hz, RZ, hb2, sz⟩ := box1 wv #[.int .i64 1, .int .i64 V] 51
        have HZ := Lib.hid RZ
        have HBz := Lib.hid (HBl.out.trans ((hb.trans (hb2.mono hb.size)).mono HBl.out.size))
        clear hb RZ hb2 sz HQl HBl HP KV
        go_upto_region 15 with fail
        rw [← hW]
        rw [← hz]
        clear hW hz
        have z_0 := HZ.out.c 0 _ rfl
        have z_1 := HZ.out.c 1 _ rfl
        by_cases c1 : A < low
        · have d1 : decide (A < low) = true := decide_eq_true c1
          clear c1 HVA
          go_wp2_with fail
          go_ret
          exact ⟨rfl, HBz.out⟩
        · have d1 : decide (A < low) = false := decide_eq_false c1
          by_cases c2 : high < A
          · have d2 : decide (high < A) = true := decide_eq_true c2
            clear c1 c2 HVA
            go_wp2_with fail
            go_ret
            exact ⟨rfl, HBz.out⟩
          · have d2 : decide (high < A) = false := decide_eq_false c2
            have d3 : (V == A) = true := by rw [HVA.out (by omega) (by omega)]; simp
            clear c1 c2 HVA
            go_wp2_with fail
            go_ret
            exact ⟨rfl, HBz.out⟩
end Go.Proofs.YtaobbedajgkmiaaDoor
