/- The laws Monotone, Mixes of psychro: true for every input. Asked: the table reads as laid. -/
import Derived.Test.YtgpbcdelaipifaaDoorPw
namespace Go.Proofs.YtgpbcdelaipifaaDoor
open Go.RowKit Go.Shelf

set_option maxRecDepth 100000 in
set_option maxHeartbeats 4000000 in
theorem monotone_law (t x h a b c : Int) (w : World) (ht : SatT w) :
    Calls Tryd.prog 6 #[.int .i64 t, .int .i64 x, .int .i64 h, .agg #[.int .i64 a, .int .i64 b, .int .i64 c]] w fun e w' => e = .returned (.bool true) ∧ Below w.heap.size w w' := by
  obtain ⟨u, eu⟩ : ∃ v, v = max t a := ⟨_, rfl⟩
  obtain ⟨v, ev⟩ : ∃ v, v = max x b := ⟨_, rfl⟩
  obtain ⟨k, ek⟩ : ∃ v, v = max h c := ⟨_, rfl⟩
  have lu : t ≤ u := by omega
  have lv : x ≤ v := by omega
  have lk : h ≤ k := by omega
  have KAW := Lib.hid (fun w1 (hb : Below w.heap.size w w1) => show Calls Tryd.prog 10 #[] w1 fun e w' => e = .returned (.bool true) ∧ Below w1.heap.size w1 w' by exact awake_yes w1 (ht.below hb))
  obtain ⟨A, eA⟩ : ∃ zz, zz = satF t := ⟨_, rfl⟩
  have KA := Lib.hid (fun w1 (hb : Below w.heap.size w w1) => show Calls Tryd.prog 11 #[.int .i64 t] w1 fun e w' => e = .returned (.int .i64 A) ∧ Below w1.heap.size w1 w' by rw [eA]; exact sat_any t w1 (ht.below hb))
  obtain ⟨B, eB⟩ : ∃ zz, zz = satF u := ⟨_, rfl⟩
  have KB := Lib.hid (fun w1 (hb : Below w.heap.size w w1) => show Calls Tryd.prog 11 #[.int .i64 u] w1 fun e w' => e = .returned (.int .i64 B) ∧ Below w1.heap.size w1 w' by rw [eB]; exact sat_any u w1 (ht.below hb))
  obtain ⟨C, eC⟩ : ∃ zz, zz = ratF t h := ⟨_, rfl⟩
  have KC := Lib.hid (fun w1 (hb : Below w.heap.size w w1) => show Calls Tryd.prog 13 #[.int .i64 t, .int .i64 h] w1 fun e w' => e = .returned (.int .i64 C) ∧ Below w1.heap.size w1 w' by rw [eC]; exact ratio_any t h w1 (ht.below hb))
  obtain ⟨D, eD⟩ : ∃ zz, zz = ratF u k := ⟨_, rfl⟩
  have KD := Lib.hid (fun w1 (hb : Below w.heap.size w w1) => show Calls Tryd.prog 13 #[.int .i64 u, .int .i64 k] w1 fun e w' => e = .returned (.int .i64 D) ∧ Below w1.heap.size w1 w' by rw [eD]; exact ratio_any u k w1 (ht.below hb))
  obtain ⟨E, eE⟩ : ∃ zz, zz = dewF x := ⟨_, rfl⟩
  have KE := Lib.hid (fun w1 (hb : Below w.heap.size w w1) => show Calls Tryd.prog 17 #[.int .i64 x] w1 fun e w' => e = .returned (.int .i64 E) ∧ Below w1.heap.size w1 w' by rw [eE]; exact dew_any x w1 (ht.below hb))
  obtain ⟨F, eF⟩ : ∃ zz, zz = dewF v := ⟨_, rfl⟩
  have KF := Lib.hid (fun w1 (hb : Below w.heap.size w w1) => show Calls Tryd.prog 17 #[.int .i64 v] w1 fun e w' => e = .returned (.int .i64 F) ∧ Below w1.heap.size w1 w' by rw [eF]; exact dew_any v w1 (ht.below hb))
  obtain ⟨G, eG⟩ : ∃ zz, zz = entF t x := ⟨_, rfl⟩
  have KG := Lib.hid (fun w1 (hb : Below w.heap.size w w1) => show Calls Tryd.prog 19 #[.int .i64 t, .int .i64 x] w1 fun e w' => e = .returned (.int .i64 G) ∧ Below w1.heap.size w1 w' by rw [eG]; exact enthalpy_any t x w1)
  obtain ⟨H, eH⟩ : ∃ zz, zz = entF u x := ⟨_, rfl⟩
  have KH := Lib.hid (fun w1 (hb : Below w.heap.size w w1) => show Calls Tryd.prog 19 #[.int .i64 u, .int .i64 x] w1 fun e w' => e = .returned (.int .i64 H) ∧ Below w1.heap.size w1 w' by rw [eH]; exact enthalpy_any u x w1)
  obtain ⟨I, eI⟩ : ∃ zz, zz = entF u v := ⟨_, rfl⟩
  have KI := Lib.hid (fun w1 (hb : Below w.heap.size w w1) => show Calls Tryd.prog 19 #[.int .i64 u, .int .i64 v] w1 fun e w' => e = .returned (.int .i64 I) ∧ Below w1.heap.size w1 w' by rw [eI]; exact enthalpy_any u v w1)
  obtain ⟨J, eJ⟩ : ∃ zz, zz = humF t x := ⟨_, rfl⟩
  have KJ := Lib.hid (fun w1 (hb : Below w.heap.size w w1) => show Calls Tryd.prog 15 #[.int .i64 t, .int .i64 x] w1 fun e w' => e = .returned (.int .i64 J) ∧ Below w1.heap.size w1 w' by rw [eJ]; exact humidity_any t x w1 (ht.below hb))
  obtain ⟨M, eM⟩ : ∃ zz, zz = humF t v := ⟨_, rfl⟩
  have KM := Lib.hid (fun w1 (hb : Below w.heap.size w w1) => show Calls Tryd.prog 15 #[.int .i64 t, .int .i64 v] w1 fun e w' => e = .returned (.int .i64 M) ∧ Below w1.heap.size w1 w' by rw [eM]; exact humidity_any t v w1 (ht.below hb))
  have m1 : A ≤ B := by rw [eA, eB]; exact satF_mono t u lu
  have m2 : C ≤ D := by rw [eC, eD]; exact ratF_mono t u h k lu lk
  have m3 : E ≤ F := by rw [eE, eF]; exact dewF_mono x v lv
  have m4 : G ≤ H := by rw [eG, eH]; exact entF_mono t u x x lu (Int.le_refl _)
  have m5 : G ≤ I := by rw [eG, eI]; exact entF_mono t u x v lu lv
  have m6 : J ≤ M := by rw [eJ, eM]; exact humF_mono t x v lv
  have HU := Lib.hid (And.intro eu (And.intro ev ek))
  clear eA eB eC eD eE eF eG eH eI eJ eM lu lv lk eu ev ek
  obtain ⟨W, g, hW, hg, RG, B0, sz⟩ := box1 w #[.int .i64 a, .int .i64 b, .int .i64 c] 28
  have HB0 := Lib.hid B0
  have HG := Lib.hid RG
  clear ht
  by_cases hneg : t < 0
  · go_enter Tryd.func6, Tryd.ntmps6
    go_upto_region 1 with fail
    rw [← hW]
    try rw [← hg]
    clear hW hg RG B0 sz
    go_wp2_with fail
    refine (KAW.out _ HB0.out).mono ?_
    rintro e w1 ⟨rfl, hb⟩
    have HB1 := Lib.hid (below_step HB0.out hb)
    have HG1 := Lib.hid (HG.out.keep hb)
    clear hb
    have g0 := HG1.out.c 0 _ rfl
    have g1 := HG1.out.c 1 _ rfl
    have g2 := HG1.out.c 2 _ rfl
    have u1 := HU.out.1.symm
    have u2 := HU.out.2.1.symm
    have u3 := HU.out.2.2.symm
    go_wp2_with fail
    refine (KA.out _ HB1.out).mono ?_
    rintro e w2 ⟨rfl, hb⟩
    have HB2 := Lib.hid (below_step HB1.out hb)
    clear hb
    go_wp2_with fail
    refine (KB.out _ HB2.out).mono ?_
    rintro e w3 ⟨rfl, hb⟩
    have HB3 := Lib.hid (below_step HB2.out hb)
    clear hb
    go_wp2_with fail
    refine (KC.out _ HB3.out).mono ?_
    rintro e w4 ⟨rfl, hb⟩
    have HB4 := Lib.hid (below_step HB3.out hb)
    clear hb
    go_wp2_with fail
    refine (KD.out _ HB4.out).mono ?_
    rintro e w5 ⟨rfl, hb⟩
    have HB5 := Lib.hid (below_step HB4.out hb)
    clear hb
    go_wp2_with fail
    refine (KE.out _ HB5.out).mono ?_
    rintro e w6 ⟨rfl, hb⟩
    have HB6 := Lib.hid (below_step HB5.out hb)
    clear hb
    go_wp2_with fail
    refine (KF.out _ HB6.out).mono ?_
    rintro e w7 ⟨rfl, hb⟩
    have HB7 := Lib.hid (below_step HB6.out hb)
    clear hb
    go_wp2_with fail
    refine (KG.out _ HB7.out).mono ?_
    rintro e w8 ⟨rfl, hb⟩
    have HB8 := Lib.hid (below_step HB7.out hb)
    clear hb
    go_wp2_with fail
    refine (KH.out _ HB8.out).mono ?_
    rintro e w9 ⟨rfl, hb⟩
    have HB9 := Lib.hid (below_step HB8.out hb)
    clear hb
    go_wp2_with fail
    refine (KJ.out _ HB9.out).mono ?_
    rintro e w10 ⟨rfl, hb⟩
    have HB10 := Lib.hid (below_step HB9.out hb)
    clear hb
    go_wp2_with fail
    refine (KM.out _ HB10.out).mono ?_
    rintro e w11 ⟨rfl, hb⟩
    have HB11 := Lib.hid (below_step HB10.out hb)
    clear hb
    go_wp2_with fail
    go_ret
    exact ⟨rfl, HB11.out⟩
  · go_enter Tryd.func6, Tryd.ntmps6
    go_upto_region 1 with fail
    rw [← hW]
    try rw [← hg]
    clear hW hg RG B0 sz
    go_wp2_with fail
    refine (KAW.out _ HB0.out).mono ?_
    rintro e w1 ⟨rfl, hb⟩
    have HB1 := Lib.hid (below_step HB0.out hb)
    have HG1 := Lib.hid (HG.out.keep hb)
    clear hb
    have g0 := HG1.out.c 0 _ rfl
    have g1 := HG1.out.c 1 _ rfl
    have g2 := HG1.out.c 2 _ rfl
    have u1 := HU.out.1.symm
    have u2 := HU.out.2.1.symm
    have u3 := HU.out.2.2.symm
    go_wp2_with fail
    refine (KA.out _ HB1.out).mono ?_
    rintro e w2 ⟨rfl, hb⟩
    have HB2 := Lib.hid (below_step HB1.out hb)
    clear hb
    go_wp2_with fail
    refine (KB.out _ HB2.out).mono ?_
    rintro e w3 ⟨rfl, hb⟩
    have HB3 := Lib.hid (below_step HB2.out hb)
    clear hb
    go_wp2_with fail
    refine (KC.out _ HB3.out).mono ?_
    rintro e w4 ⟨rfl, hb⟩
    have HB4 := Lib.hid (below_step HB3.out hb)
    clear hb
    go_wp2_with fail
    refine (KD.out _ HB4.out).mono ?_
    rintro e w5 ⟨rfl, hb⟩
    have HB5 := Lib.hid (below_step HB4.out hb)
    clear hb
    go_wp2_with fail
    refine (KE.out _ HB5.out).mono ?_
    rintro e w6 ⟨rfl, hb⟩
    have HB6 := Lib.hid (below_step HB5.out hb)
    clear hb
    go_wp2_with fail
    refine (KF.out _ HB6.out).mono ?_
    rintro e w7 ⟨rfl, hb⟩
    have HB7 := Lib.hid (below_step HB6.out hb)
    clear hb
    go_wp2_with fail
    refine (KG.out _ HB7.out).mono ?_
    rintro e w8 ⟨rfl, hb⟩
    have HB8 := Lib.hid (below_step HB7.out hb)
    clear hb
    go_wp2_with fail
    refine (KH.out _ HB8.out).mono ?_
    rintro e w9 ⟨rfl, hb⟩
    have HB9 := Lib.hid (below_step HB8.out hb)
    clear hb
    go_wp2_with fail
    refine (KG.out _ HB9.out).mono ?_
    rintro e w10 ⟨rfl, hb⟩
    have HB10 := Lib.hid (below_step HB9.out hb)
    clear hb
    go_wp2_with fail
    refine (KI.out _ HB10.out).mono ?_
    rintro e w11 ⟨rfl, hb⟩
    have HB11 := Lib.hid (below_step HB10.out hb)
    clear hb
    go_wp2_with fail
    refine (KJ.out _ HB11.out).mono ?_
    rintro e w12 ⟨rfl, hb⟩
    have HB12 := Lib.hid (below_step HB11.out hb)
    clear hb
    go_wp2_with fail
    refine (KM.out _ HB12.out).mono ?_
    rintro e w13 ⟨rfl, hb⟩
    have HB13 := Lib.hid (below_step HB12.out hb)
    clear hb
    go_wp2_with fail
    go_ret
    exact ⟨rfl, HB13.out⟩

set_option maxRecDepth 100000 in
set_option maxHeartbeats 4000000 in
theorem mixes_law (t u f t2 u2 f2 : Int) (w : World) (ht : SatT w) :
    Calls Tryd.prog 5 #[.agg #[.int .i64 t, .int .i64 u, .int .i64 f], .agg #[.int .i64 t2, .int .i64 u2, .int .i64 f2]] w fun e w' => e = .returned (.bool true) ∧ Below w.heap.size w w' := by
  have KAW := Lib.hid (fun w1 (hb : Below w.heap.size w w1) => show Calls Tryd.prog 10 #[] w1 fun e w' => e = .returned (.bool true) ∧ Below w1.heap.size w1 w' by exact awake_yes w1 (ht.below hb))
  obtain ⟨X, eX⟩ : ∃ zz, zz = mixT t f t2 f2 := ⟨_, rfl⟩
  obtain ⟨Y, eY⟩ : ∃ zz, zz = mixW u f u2 f2 := ⟨_, rfl⟩
  have K1 := Lib.hid (fun w1 (hb : Below w.heap.size w w1) => show Calls Tryd.prog 25 #[.int .i64 t, .int .i64 u, .int .i64 f, .int .i64 t2, .int .i64 u2, .int .i64 f2] w1 fun e w' => e = .returned (.tuple #[.int .i64 X, .int .i64 Y]) ∧ Below w1.heap.size w1 w' by rw [eX, eY]; exact mix_any t u f t2 u2 f2 w1)
  have K2 := Lib.hid (fun w1 (hb : Below w.heap.size w w1) => show Calls Tryd.prog 26 #[.int .i64 t, .int .i64 u, .int .i64 f, .int .i64 t2, .int .i64 u2, .int .i64 f2] w1 fun e w' => e = .returned (.tuple #[.int .i64 X, .int .i64 Y]) ∧ Below w1.heap.size w1 w' by rw [eX, eY]; exact rmix_any t u f t2 u2 f2 w1)
  obtain ⟨T1, e1⟩ : ∃ v, v = limI t (-100000) 200000 := ⟨_, rfl⟩
  obtain ⟨T2, e2⟩ : ∃ v, v = limI t2 (-100000) 200000 := ⟨_, rfl⟩
  have r1 := limI_range t (-100000) 200000 (by omega)
  have r2 := limI_range t2 (-100000) 200000 (by omega)
  have r3 := limI_range u 0 1000000 (by omega)
  have r4 := limI_range u2 0 1000000 (by omega)
  have r5 := limI_range f 0 1000000000 (by omega)
  have r6 := limI_range f2 0 1000000000 (by omega)
  have m1 : min T1 T2 ≤ X ∧ X ≤ max T1 T2 := by rw [e1, e2, eX]; exact mix_range _ _ _ _ r5.1 r6.1 r5.2 r6.2 (by omega) (by omega) (by omega) (by omega)
  have m2 : 0 ≤ Y ∧ Y ≤ 1000000 := by have := mix_range (limI u 0 1000000) (limI u2 0 1000000) (limI f 0 1000000000) (limI f2 0 1000000000) r5.1 r6.1 r5.2 r6.2 (by omega) (by omega) (by omega) (by omega); rw [eY]; unfold mixW; omega
  have h1 : max (-100000) (min 200000 t) = T1 := by rw [e1]; unfold limI; omega
  have h2 : max (-100000) (min 200000 t2) = T2 := by rw [e2]; unfold limI; omega
  have HU := Lib.hid (And.intro h1 h2)
  obtain ⟨m3, m4⟩ := m1
  obtain ⟨m5, m6⟩ := m2
  clear e1 e2 r1 r2 r3 r4 r5 r6 h1 h2 eX eY ht
  obtain ⟨W, g, g2, hW, hg, hg2, RG, RG2, B0, sz⟩ := box2 w #[.int .i64 t, .int .i64 u, .int .i64 f] 28 #[.int .i64 t2, .int .i64 u2, .int .i64 f2] 28
  have HB0 := Lib.hid B0
  have HG := Lib.hid RG
  have HH := Lib.hid RG2
  go_enter Tryd.func5, Tryd.ntmps5
  go_upto_region 1 with fail
  rw [← hW]
  try rw [← hg2]
  try rw [← hg]
  clear hW hg hg2 RG RG2 B0 sz
  go_wp2_with fail
  refine (KAW.out _ HB0.out).mono ?_
  rintro e w1 ⟨rfl, hb⟩
  have HB1 := Lib.hid (below_step HB0.out hb)
  have HG1 := Lib.hid (HG.out.keep hb)
  have HH1 := Lib.hid (HH.out.keep hb)
  clear hb
  have a0 := HG1.out.c 0 _ rfl
  have a1 := HG1.out.c 1 _ rfl
  have a2 := HG1.out.c 2 _ rfl
  have b0 := HH1.out.c 0 _ rfl
  have b1 := HH1.out.c 1 _ rfl
  have b2 := HH1.out.c 2 _ rfl
  go_wp2_with fail
  refine (K1.out _ HB1.out).mono ?_
  rintro e w2 ⟨rfl, hb⟩
  have HB2 := Lib.hid (below_step HB1.out hb)
  have HG2 := Lib.hid (HG1.out.keep hb)
  have HH2 := Lib.hid (HH1.out.keep hb)
  clear hb a0 a1 a2 b0 b1 b2
  have a0 := HG2.out.c 0 _ rfl
  have a1 := HG2.out.c 1 _ rfl
  have a2 := HG2.out.c 2 _ rfl
  have b0 := HH2.out.c 0 _ rfl
  have b1 := HH2.out.c 1 _ rfl
  have b2 := HH2.out.c 2 _ rfl
  go_wp2_with fail
  refine (K2.out _ HB2.out).mono ?_
  rintro e w3 ⟨rfl, hb⟩
  have HB3 := Lib.hid (below_step HB2.out hb)
  have HG3 := Lib.hid (HG2.out.keep hb)
  have HH3 := Lib.hid (HH2.out.keep hb)
  clear hb a0 a1 a2 b0 b1 b2
  have a0 := HG3.out.c 0 _ rfl
  have a1 := HG3.out.c 1 _ rfl
  have a2 := HG3.out.c 2 _ rfl
  have b0 := HH3.out.c 0 _ rfl
  have b1 := HH3.out.c 1 _ rfl
  have b2 := HH3.out.c 2 _ rfl
  have u1 := HU.out.1
  have u2 := HU.out.2
  go_wp2_with fail
  go_ret
  exact ⟨rfl, HB3.out⟩

end Go.Proofs.YtgpbcdelaipifaaDoor
