/- The law UnitsMonotone. -/
import Derived.Test.YtjkdcbkfcmaadaaDoorRn
import Derived.Test.YtjkdcbkfcmaadaaDoorPb
namespace Go.Proofs.YtjkdcbkfcmaadaaDoor
open Go.RowKit Go.Shelf

theorem unit_freshT (w : World) (t : TypeId) (e0 e1 e2 e3 n d o : Int) : UnitAt (w.alloc (Obj.cells #[.int .i64 e0, .int .i64 e1, .int .i64 e2, .int .i64 e3, .int .i64 n, .int .i64 d, .int .i64 o] t)) w.heap.size e0 e1 e2 e3 n d o :=
  ⟨World.cell?_alloc_new _ _ _ _, World.cell?_alloc_new _ _ _ _, World.cell?_alloc_new _ _ _ _, World.cell?_alloc_new _ _ _ _, World.cell?_alloc_new _ _ _ _, World.cell?_alloc_new _ _ _ _, World.cell?_alloc_new _ _ _ _, fun o => by simp⟩
theorem two_boxes (w : World) (t : TypeId) (u0 u1 u2 u3 un ud uo v0 v1 v2 v3 vn vd vo : Int) : ∃ (W : World) (g h : Nat), W = (w.alloc (Obj.cells #[.int .i64 u0, .int .i64 u1, .int .i64 u2, .int .i64 u3, .int .i64 un, .int .i64 ud, .int .i64 uo] t)).alloc (Obj.cells #[.int .i64 v0, .int .i64 v1, .int .i64 v2, .int .i64 v3, .int .i64 vn, .int .i64 vd, .int .i64 vo] t) ∧ g = w.heap.size ∧ h = w.heap.size + 1 ∧ UnitAt W g u0 u1 u2 u3 un ud uo ∧ UnitAt W h v0 v1 v2 v3 vn vd vo ∧ Below w.heap.size w W ∧ W.heap.size = w.heap.size + 2 := by
  have a := unit_freshT w t u0 u1 u2 u3 un ud uo
  have sz := World.size_alloc w (Obj.cells #[.int .i64 u0, .int .i64 u1, .int .i64 u2, .int .i64 u3, .int .i64 un, .int .i64 ud, .int .i64 uo] t)
  have b := unit_freshT (w.alloc (Obj.cells #[.int .i64 u0, .int .i64 u1, .int .i64 u2, .int .i64 u3, .int .i64 un, .int .i64 ud, .int .i64 uo] t)) t v0 v1 v2 v3 vn vd vo
  rw [sz] at b
  have b1 := (Below.refl _ _).alloc (Nat.le_refl _) (w := w.alloc (Obj.cells #[.int .i64 u0, .int .i64 u1, .int .i64 u2, .int .i64 u3, .int .i64 un, .int .i64 ud, .int .i64 uo] t)) (Obj.cells #[.int .i64 v0, .int .i64 v1, .int .i64 v2, .int .i64 v3, .int .i64 vn, .int .i64 vd, .int .i64 vo] t)
  exact ⟨_, _, _, rfl, rfl, rfl, a.keep b1, b, (((Below.refl w.heap.size w).alloc (Nat.le_refl _) _).alloc (by rw [sz]; omega) _), by rw [World.size_alloc, sz]⟩

theorem clamp_in {x : Int} (h1 : -1000000000000 ≤ x) (h2 : x ≤ 1000000000000) : clampI x = x := by
  unfold clampI
  omega
theorem mono_cases {n m X Y E1 E2 : Int} {u v : UnitD} (h : n ≤ m) (h1 : convR n u v = (X, E1)) (h2 : convR m u v = (Y, E2)) : E1 ≠ 0 ∨ E2 ≠ 0 ∨ (E1 = 0 ∧ E2 = 0 ∧ X ≤ Y) := by
  by_cases a : E1 = 0
  · by_cases b : E2 = 0
    · refine .inr (.inr ⟨a, b, ?_⟩)
      have := conv_mono h (by rw [h1]; exact a) (by rw [h2]; exact b)
      rwa [h1, h2] at this
    · exact .inr (.inl b)
  · exact .inl a
set_option maxRecDepth 100000 in
set_option maxHeartbeats 4000000 in
theorem mono_law (n m : Int) (u0 u1 u2 u3 un ud uo v0 v1 v2 v3 vn vd vo : Int) (w : World) (hg : Gu w) : Calls Tryd.prog 4 #[.int .i64 n, .int .i64 m, .agg #[.int .i64 u0, .int .i64 u1, .int .i64 u2, .int .i64 u3, .int .i64 un, .int .i64 ud, .int .i64 uo], .agg #[.int .i64 v0, .int .i64 v1, .int .i64 v2, .int .i64 v3, .int .i64 vn, .int .i64 vd, .int .i64 vo]] w fun e w' => e = .returned (.bool true) ∧ Below w.heap.size w w' := by
  obtain ⟨V, hV⟩ : ∃ V, V = validB ⟨u0, u1, u2, u3, un, ud, uo⟩ := ⟨_, rfl⟩
  have hva := fun w => valid_any u0 u1 u2 u3 un ud uo w
  rw [← hV] at hva
  have HVa := Lib.hid hva
  have HVe := Lib.hid hV
  have HA := Lib.hid awake_yes
  clear hva hV
  go_enter Tryd.func4, Tryd.ntmps4
  go_wp2_with fail
  obtain ⟨W, g, h, hW, hg0, hh0, U1, V1, B1, sz⟩ := two_boxes w 24 u0 u1 u2 u3 un ud uo v0 v1 v2 v3 vn vd vo
  rw [← hW]
  try rw [← hh0]
  try rw [← hg0]
  obtain ⟨a0, a1, a2, a3, a4, a5, a6, az⟩ := U1
  obtain ⟨b0, b1, b2, b3, b4, b5, b6, bz⟩ := V1
  have hgl : g < W.heap.size := by omega
  have hhl : h < W.heap.size := by omega
  clear hW hg0 hh0 sz
  have HB1 := Lib.hid B1
  have HG := Lib.hid hg
  clear B1 hg
  go_region_held3 (fun w' => w'.cell? ⟨g, 0, none⟩ = some (.int .i64 u0) ∧ w'.cell? ⟨g, 1, none⟩ = some (.int .i64 u1) ∧ w'.cell? ⟨g, 2, none⟩ = some (.int .i64 u2) ∧ w'.cell? ⟨g, 3, none⟩ = some (.int .i64 u3) ∧ w'.cell? ⟨g, 4, none⟩ = some (.int .i64 un) ∧ w'.cell? ⟨g, 5, none⟩ = some (.int .i64 ud) ∧ w'.cell? ⟨g, 6, none⟩ = some (.int .i64 uo) ∧ w'.cell? ⟨h, 0, none⟩ = some (.int .i64 v0) ∧ w'.cell? ⟨h, 1, none⟩ = some (.int .i64 v1) ∧ w'.cell? ⟨h, 2, none⟩ = some (.int .i64 v2) ∧ w'.cell? ⟨h, 3, none⟩ = some (.int .i64 v3) ∧ w'.cell? ⟨h, 4, none⟩ = some (.int .i64 vn) ∧ w'.cell? ⟨h, 5, none⟩ = some (.int .i64 vd) ∧ w'.cell? ⟨h, 6, none⟩ = some (.int .i64 vo)) (first | go_keep) ((fail))
  all_goals
    rename_i hHeld
    clear hHeld a0 a1 a2 a3 a4 a5 a6 az b0 b1 b2 b3 b4 b5 b6 bz
  case' refine_2.refine_3.refine_3.refine_1.refine_2.refine_1.refine_2.refine_1.refine_2.refine_1.refine_2 =>
    obtain ⟨W2, p, q, hW2, hp, hq, U2, V2, B2, sz2⟩ := two_boxes W 25 u0 u1 u2 u3 un ud uo v0 v1 v2 v3 vn vd vo
  case' refine_2.refine_3.refine_3.refine_2.refine_1.refine_2.refine_1.refine_2.refine_1.refine_2.refine_1.refine_2 =>
    obtain ⟨W2, q, p, hW2, hq, hp, V2, U2, B2, sz2⟩ := two_boxes W 25 v0 v1 v2 v3 vn vd vo u0 u1 u2 u3 un ud uo
  all_goals
    rw [← hW2]
    first | rw [← hq, ← hp] | rw [← hp, ← hq]
    have U3 : UnitAt W2.drew p u0 u1 u2 u3 un ud uo := U2.drew
    have V3 : UnitAt W2.drew q v0 v1 v2 v3 vn vd vo := V2.drew
    have B3 : Below W.heap.size W W2.drew := B2.drew
    obtain ⟨W3, hW3⟩ : ∃ x, x = W2.drew := ⟨_, rfl⟩
    rw [← hW3] at U3 V3 B3 ⊢
    have HU := Lib.hid U3
    have HV := Lib.hid V3
    have HB := Lib.hid (HB1.out.trans (B3.mono HB1.out.size))
    clear hW2 hp hq U2 V2 B2 sz2 hW3 U3 V3 B3 hgl hhl HB1
    obtain ⟨p0, p1, p2, p3, p4, p5, p6, pz⟩ := HU.out
    obtain ⟨q0, q1, q2, q3, q4, q5, q6, qz⟩ := HV.out
    by_cases hnm : m < n
    · obtain ⟨⟨X, E1⟩, hx1⟩ : ∃ r, r = convR m ⟨u0, u1, u2, u3, un, ud, uo⟩ ⟨v0, v1, v2, v3, vn, vd, vo⟩ := ⟨_, rfl⟩
      obtain ⟨⟨Y, E2⟩, hx2⟩ : ∃ r, r = convR n ⟨u0, u1, u2, u3, un, ud, uo⟩ ⟨v0, v1, v2, v3, vn, vd, vo⟩ := ⟨_, rfl⟩
      obtain ⟨⟨Z, E3⟩, hx3⟩ : ∃ r, r = convR m ⟨u0, u1, u2, u3, un, ud, uo⟩ ⟨u0, u1, u2, u3, un, ud, uo⟩ := ⟨_, rfl⟩
      have c1 := fun w => convert_any m ⟨u0, u1, u2, u3, un, ud, uo⟩ ⟨v0, v1, v2, v3, vn, vd, vo⟩ w
      have c2 := fun w => convert_any n ⟨u0, u1, u2, u3, un, ud, uo⟩ ⟨v0, v1, v2, v3, vn, vd, vo⟩ w
      have c3 := fun w => convert_any m ⟨u0, u1, u2, u3, un, ud, uo⟩ ⟨u0, u1, u2, u3, un, ud, uo⟩ w
      rw [← hx1] at c1
      rw [← hx2] at c2
      rw [← hx3] at c3
      have HC1 := Lib.hid c1
      have HC2 := Lib.hid c2
      have HC3 := Lib.hid c3
      have HX3 := Lib.hid hx3.symm
      have HXY := Lib.hid (mono_cases (show m ≤ n by omega) hx1.symm hx2.symm)
      clear c1 c2 c3 hx1 hx2 hx3
      go_wp2_with fail
      refine (HC1.out _).mono ?_
      rintro e w1 ⟨rfl, hb⟩
      have HU1 := Lib.hid (HU.out.keep hb)
      have HV1 := Lib.hid (HV.out.keep hb)
      have HB2 := Lib.hid (HB.out.trans (hb.mono HB.out.size))
      clear hb p0 p1 p2 p3 p4 p5 p6 pz q0 q1 q2 q3 q4 q5 q6 qz HU HV HB
      obtain ⟨p0, p1, p2, p3, p4, p5, p6, pz⟩ := HU1.out
      obtain ⟨q0, q1, q2, q3, q4, q5, q6, qz⟩ := HV1.out
      go_wp2_with fail
      refine (HC2.out _).mono ?_
      rintro e w2 ⟨rfl, hb⟩
      have HU2 := Lib.hid (HU1.out.keep hb)
      have HB3 := Lib.hid (HB2.out.trans (hb.mono HB2.out.size))
      clear hb p0 p1 p2 p3 p4 p5 p6 pz q0 q1 q2 q3 q4 q5 q6 qz HU1 HV1 HB2
      obtain ⟨p0, p1, p2, p3, p4, p5, p6, pz⟩ := HU2.out
      go_wp2_with fail
      refine (HC3.out _).mono ?_
      rintro e w3 ⟨rfl, hb⟩
      have HU3 := Lib.hid (HU2.out.keep hb)
      have HB4 := Lib.hid (HB3.out.trans (hb.mono HB3.out.size))
      clear hb p0 p1 p2 p3 p4 p5 p6 pz HU2 HB3
      obtain ⟨p0, p1, p2, p3, p4, p5, p6, pz⟩ := HU3.out
      go_wp2_with fail
      refine (HVa.out _).mono ?_
      rintro e w4 ⟨rfl, hb⟩
      have HB5 := Lib.hid (HB4.out.trans (hb.mono HB4.out.size))
      clear hb p0 p1 p2 p3 p4 p5 p6 pz HU3 HB4
      by_cases hv : V = true ∧ -1000000000000 ≤ m ∧ m ≤ 1000000000000
      · obtain ⟨rfl, hl, hu⟩ := hv
        obtain ⟨rfl, rfl⟩ : Z = m ∧ E3 = 0 := by
          have h := HX3.out
          rw [conv_self m _ HVe.out.symm (clamp_in hl hu)] at h
          injection h with h1 h2
          exact ⟨h1.symm, h2.symm⟩
        go_wp2_with fail
        refine (HA.out _ (HG.out.below HB5.out)).mono ?_
        rintro e w5 ⟨rfl, hb⟩
        have HB6 := Lib.hid (HB5.out.trans (hb.mono HB5.out.size))
        clear hb HB5
        rcases HXY.out with h | h | ⟨rfl, rfl, hxy⟩
        · have h1 : (E1 != 0) = true := by simpa using h
          clear h
          go_wp2_with fail
          go_ret
          exact ⟨rfl, HB6.out⟩
        · have h1 : (E2 != 0) = true := by simpa using h
          clear h
          go_wp2_with fail
          all_goals
            go_ret
            exact ⟨rfl, HB6.out⟩
        · go_wp2_with fail
          go_ret
          exact ⟨rfl, HB6.out⟩
      · have hcase : V = false ∨ (V = true ∧ m < -1000000000000) ∨ (V = true ∧ -1000000000000 ≤ m ∧ 1000000000000 < m) := by
          cases V
          · exact .inl rfl
          · refine .inr ?_
            by_cases h1 : m < -1000000000000
            · exact .inl ⟨rfl, h1⟩
            · exact .inr ⟨rfl, by omega, by
                by_cases h2 : m ≤ 1000000000000
                · exact absurd ⟨rfl, by omega, h2⟩ hv
                · omega⟩
        clear hv
        rcases hcase with rfl | ⟨rfl, hl⟩ | ⟨rfl, hl, hu⟩
        all_goals
          go_wp2_with fail
          refine (HA.out _ (HG.out.below HB5.out)).mono ?_
          rintro e w5 ⟨rfl, hb⟩
          have HB6 := Lib.hid (HB5.out.trans (hb.mono HB5.out.size))
          clear hb HB5
          rcases HXY.out with h | h | ⟨rfl, rfl, hxy⟩
          · have h1 : (E1 != 0) = true := by simpa using h
            clear h
            go_wp2_with fail
            go_ret
            exact ⟨rfl, HB6.out⟩
          · have h1 : (E2 != 0) = true := by simpa using h
            clear h
            go_wp2_with fail
            all_goals
              go_ret
              exact ⟨rfl, HB6.out⟩
          · go_wp2_with fail
            go_ret
            exact ⟨rfl, HB6.out⟩
    · obtain ⟨⟨X, E1⟩, hx1⟩ : ∃ r, r = convR n ⟨u0, u1, u2, u3, un, ud, uo⟩ ⟨v0, v1, v2, v3, vn, vd, vo⟩ := ⟨_, rfl⟩
      obtain ⟨⟨Y, E2⟩, hx2⟩ : ∃ r, r = convR m ⟨u0, u1, u2, u3, un, ud, uo⟩ ⟨v0, v1, v2, v3, vn, vd, vo⟩ := ⟨_, rfl⟩
      obtain ⟨⟨Z, E3⟩, hx3⟩ : ∃ r, r = convR n ⟨u0, u1, u2, u3, un, ud, uo⟩ ⟨u0, u1, u2, u3, un, ud, uo⟩ := ⟨_, rfl⟩
      have c1 := fun w => convert_any n ⟨u0, u1, u2, u3, un, ud, uo⟩ ⟨v0, v1, v2, v3, vn, vd, vo⟩ w
      have c2 := fun w => convert_any m ⟨u0, u1, u2, u3, un, ud, uo⟩ ⟨v0, v1, v2, v3, vn, vd, vo⟩ w
      have c3 := fun w => convert_any n ⟨u0, u1, u2, u3, un, ud, uo⟩ ⟨u0, u1, u2, u3, un, ud, uo⟩ w
      rw [← hx1] at c1
      rw [← hx2] at c2
      rw [← hx3] at c3
      have HC1 := Lib.hid c1
      have HC2 := Lib.hid c2
      have HC3 := Lib.hid c3
      have HX3 := Lib.hid hx3.symm
      have HXY := Lib.hid (mono_cases (show n ≤ m by omega) hx1.symm hx2.symm)
      clear c1 c2 c3 hx1 hx2 hx3
      go_wp2_with fail
      refine (HC1.out _).mono ?_
      rintro e w1 ⟨rfl, hb⟩
      have HU1 := Lib.hid (HU.out.keep hb)
      have HV1 := Lib.hid (HV.out.keep hb)
      have HB2 := Lib.hid (HB.out.trans (hb.mono HB.out.size))
      clear hb p0 p1 p2 p3 p4 p5 p6 pz q0 q1 q2 q3 q4 q5 q6 qz HU HV HB
      obtain ⟨p0, p1, p2, p3, p4, p5, p6, pz⟩ := HU1.out
      obtain ⟨q0, q1, q2, q3, q4, q5, q6, qz⟩ := HV1.out
      go_wp2_with fail
      refine (HC2.out _).mono ?_
      rintro e w2 ⟨rfl, hb⟩
      have HU2 := Lib.hid (HU1.out.keep hb)
      have HB3 := Lib.hid (HB2.out.trans (hb.mono HB2.out.size))
      clear hb p0 p1 p2 p3 p4 p5 p6 pz q0 q1 q2 q3 q4 q5 q6 qz HU1 HV1 HB2
      obtain ⟨p0, p1, p2, p3, p4, p5, p6, pz⟩ := HU2.out
      go_wp2_with fail
      refine (HC3.out _).mono ?_
      rintro e w3 ⟨rfl, hb⟩
      have HU3 := Lib.hid (HU2.out.keep hb)
      have HB4 := Lib.hid (HB3.out.trans (hb.mono HB3.out.size))
      clear hb p0 p1 p2 p3 p4 p5 p6 pz HU2 HB3
      obtain ⟨p0, p1, p2, p3, p4, p5, p6, pz⟩ := HU3.out
      go_wp2_with fail
      refine (HVa.out _).mono ?_
      rintro e w4 ⟨rfl, hb⟩
      have HB5 := Lib.hid (HB4.out.trans (hb.mono HB4.out.size))
      clear hb p0 p1 p2 p3 p4 p5 p6 pz HU3 HB4
      by_cases hv : V = true ∧ -1000000000000 ≤ n ∧ n ≤ 1000000000000
      · obtain ⟨rfl, hl, hu⟩ := hv
        obtain ⟨rfl, rfl⟩ : Z = n ∧ E3 = 0 := by
          have h := HX3.out
          rw [conv_self n _ HVe.out.symm (clamp_in hl hu)] at h
          injection h with h1 h2
          exact ⟨h1.symm, h2.symm⟩
        go_wp2_with fail
        refine (HA.out _ (HG.out.below HB5.out)).mono ?_
        rintro e w5 ⟨rfl, hb⟩
        have HB6 := Lib.hid (HB5.out.trans (hb.mono HB5.out.size))
        clear hb HB5
        rcases HXY.out with h | h | ⟨rfl, rfl, hxy⟩
        · have h1 : (E1 != 0) = true := by simpa using h
          clear h
          go_wp2_with fail
          go_ret
          exact ⟨rfl, HB6.out⟩
        · have h1 : (E2 != 0) = true := by simpa using h
          clear h
          go_wp2_with fail
          all_goals
            go_ret
            exact ⟨rfl, HB6.out⟩
        · go_wp2_with fail
          go_ret
          exact ⟨rfl, HB6.out⟩
      · have hcase : V = false ∨ (V = true ∧ n < -1000000000000) ∨ (V = true ∧ -1000000000000 ≤ n ∧ 1000000000000 < n) := by
          cases V
          · exact .inl rfl
          · refine .inr ?_
            by_cases h1 : n < -1000000000000
            · exact .inl ⟨rfl, h1⟩
            · exact .inr ⟨rfl, by omega, by
                by_cases h2 : n ≤ 1000000000000
                · exact absurd ⟨rfl, by omega, h2⟩ hv
                · omega⟩
        clear hv
        rcases hcase with rfl | ⟨rfl, hl⟩ | ⟨rfl, hl, hu⟩
        all_goals
          go_wp2_with fail
          refine (HA.out _ (HG.out.below HB5.out)).mono ?_
          rintro e w5 ⟨rfl, hb⟩
          have HB6 := Lib.hid (HB5.out.trans (hb.mono HB5.out.size))
          clear hb HB5
          rcases HXY.out with h | h | ⟨rfl, rfl, hxy⟩
          · have h1 : (E1 != 0) = true := by simpa using h
            clear h
            go_wp2_with fail
            go_ret
            exact ⟨rfl, HB6.out⟩
          · have h1 : (E2 != 0) = true := by simpa using h
            clear h
            go_wp2_with fail
            all_goals
              go_ret
              exact ⟨rfl, HB6.out⟩
          · go_wp2_with fail
            go_ret
            exact ⟨rfl, HB6.out⟩
end Go.Proofs.YtjkdcbkfcmaadaaDoor
