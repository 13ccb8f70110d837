/- The law UnitsConverts. -/
import Derived.Test.YtlahoohgbfjciaaGreatDoorRl
import Derived.Test.YtlahoohgbfjciaaGreatDoorVu
import Derived.Test.YtlahoohgbfjciaaGreatDoorQc
import Derived.Lib.SmallJoins
import Derived.OpenShut
namespace Go.Proofs.YtlahoohgbfjciaaGreatDoor
open Go.RowKit Go.Shelf

section
open Go.ChangeShapes Go.WideShapes Go.ChangeAt Go.RowKit Go.Joins

theorem cells_runit : Tryz.prog.cellsOf 24 = 7 := by kernel_rfl
theorem cells_arr4 : Tryz.prog.cellsOf 22 = 4 := by kernel_rfl
theorem cells_int : Tryz.prog.cellsOf 3 = 1 := by kernel_rfl
theorem cells_int64 : Tryz.prog.cellsOf 2 = 1 := by kernel_rfl
def wfU (x : UnitD) : Prop := (Lit.int .i64 x.e0).wf = true ∧ (Lit.int .i64 x.e1).wf = true ∧ (Lit.int .i64 x.e2).wf = true ∧ (Lit.int .i64 x.e3).wf = true ∧ (Lit.int .i64 x.n).wf = true ∧ (Lit.int .i64 x.d).wf = true ∧ (Lit.int .i64 x.o).wf = true
def dataU {H : Type} (x : UnitD) : DataW H := .agg [.agg [.lit (.int .i64 x.e0), .lit (.int .i64 x.e1), .lit (.int .i64 x.e2), .lit (.int .i64 x.e3)], .lit (.int .i64 x.n), .lit (.int .i64 x.d), .lit (.int .i64 x.o)]
theorem arr7 {α : Type} {a : Array α} (h : a.size = 7) : ∃ c0 c1 c2 c3 c4 c5 c6, a = #[c0, c1, c2, c3, c4, c5, c6] := by
  obtain ⟨l⟩ := a
  match l, h with
  | [c0, c1, c2, c3, c4, c5, c6], _ => exact ⟨c0, c1, c2, c3, c4, c5, c6, rfl⟩
theorem list4 {α : Type} {l : List α} (h : l.length = 4) : ∃ c0 c1 c2 c3, l = [c0, c1, c2, c3] := by
  match l, h with
  | [c0, c1, c2, c3], _ => exact ⟨c0, c1, c2, c3, rfl⟩
set_option maxRecDepth 100000 in
theorem open_unit {H : Type} {enc : TypeId × Value → H} {w : World} {base b0 : Nat} {spare : Nat → Bool} {held : Bool} {r : Reach} {v : Value} {d : DataW H} {p : List MemPlace} (hv : Value.okWide Tryz.prog w r b0 24 v) (h : DataW.Trod enc Tryz.prog w base spare held 24 v d p) :
    ∃ x : UnitD, v = unitV x ∧ d = dataU x ∧ p = [] ∧ wfU x := by
  obtain ⟨cs, rfl, hsz⟩ := okWide_struct Tryz.underlying24 hv
  obtain ⟨c0, c1, c2, c3, c4, c5, c6, rfl⟩ := arr7 (hsz.trans cells_runit)
  obtain ⟨fuel, hf⟩ := h
  obtain ⟨xs, n, rfl, hx, _, hl, hfl⟩ := DataW.trod_struct Tryz.underlying24 hf
  obtain ⟨y0, y1, y2, y3, rfl⟩ := list4 hl
  have f0 : DataW.trod enc Tryz.prog w base spare held n 22 [c0, c1, c2, c3] = some y0 := by simpa [cells_arr4, Value.cells] using hfl 0 _ rfl
  have f1 : DataW.trod enc Tryz.prog w base spare held n 2 [c4] = some y1 := by simpa [cells_int64, Value.cells] using hfl 1 _ rfl
  have f2 : DataW.trod enc Tryz.prog w base spare held n 2 [c5] = some y2 := by simpa [cells_int64, Value.cells] using hfl 2 _ rfl
  have f3 : DataW.trod enc Tryz.prog w base spare held n 2 [c6] = some y3 := by simpa [cells_int64, Value.cells] using hfl 3 _ rfl
  clear hfl hf hv
  obtain ⟨ys, m, rfl, hy, _, hly, hal⟩ := DataW.trod_array Tryz.underlying22 f0
  obtain ⟨z0, z1, z2, z3, rfl⟩ := list4 hly
  have g0 : DataW.trod enc Tryz.prog w base spare held m 3 [c0] = some z0 := by simpa [cells_int] using hal 0 (by decide)
  have g1 : DataW.trod enc Tryz.prog w base spare held m 3 [c1] = some z1 := by simpa [cells_int] using hal 1 (by decide)
  have g2 : DataW.trod enc Tryz.prog w base spare held m 3 [c2] = some z2 := by simpa [cells_int] using hal 2 (by decide)
  have g3 : DataW.trod enc Tryz.prog w base spare held m 3 [c3] = some z3 := by simpa [cells_int] using hal 3 (by decide)
  clear hal f0
  obtain ⟨a0, e0, rfl, w0⟩ := DataW.trod_int Tryz.underlying3 g0
  obtain ⟨a1, e1, rfl, w1⟩ := DataW.trod_int Tryz.underlying3 g1
  obtain ⟨a2, e2, rfl, w2⟩ := DataW.trod_int Tryz.underlying3 g2
  obtain ⟨a3, e3, rfl, w3⟩ := DataW.trod_int Tryz.underlying3 g3
  obtain ⟨a4, e4, rfl, w4⟩ := DataW.trod_int Tryz.underlying2 f1
  obtain ⟨a5, e5, rfl, w5⟩ := DataW.trod_int Tryz.underlying2 f2
  obtain ⟨a6, e6, rfl, w6⟩ := DataW.trod_int Tryz.underlying2 f3
  obtain rfl : c0 = .int .i64 a0 := by simpa using e0
  obtain rfl : c1 = .int .i64 a1 := by simpa using e1
  obtain rfl : c2 = .int .i64 a2 := by simpa using e2
  obtain rfl : c3 = .int .i64 a3 := by simpa using e3
  obtain rfl : c4 = .int .i64 a4 := by simpa using e4
  obtain rfl : c5 = .int .i64 a5 := by simpa using e5
  obtain rfl : c6 = .int .i64 a6 := by simpa using e6
  subst hy
  simp at hx
  exact ⟨⟨a0, a1, a2, a3, a4, a5, a6⟩, rfl, hx.1, hx.2, w0, w1, w2, w3, w4, w5, w6⟩
set_option maxRecDepth 100000 in
theorem shut_unit {H : Type} {enc : TypeId × Value → H} {w : World} {base : Nat} {spare : Nat → Bool} {held : Bool} {x : UnitD} (hx : wfU x) :
    DataW.Trod enc Tryz.prog w base spare held 24 (unitV x) (dataU x) [] := by
  obtain ⟨w0, w1, w2, w3, w4, w5, w6⟩ := hx
  have i : ∀ n : Int, (Lit.int .i64 n).wf = true → DataW.trod enc Tryz.prog w base spare held 1 3 [.int .i64 n] = some (.lit (.int .i64 n), []) := fun n h => by simp [DataW.trod, Tryz.underlying3, h]
  have j : ∀ n : Int, (Lit.int .i64 n).wf = true → DataW.trod enc Tryz.prog w base spare held 2 2 [.int .i64 n] = some (.lit (.int .i64 n), []) := fun n h => by simp [DataW.trod, Tryz.underlying2, h]
  have a : DataW.trod enc Tryz.prog w base spare held 2 22 [.int .i64 x.e0, .int .i64 x.e1, .int .i64 x.e2, .int .i64 x.e3] = some (.agg [.lit (.int .i64 x.e0), .lit (.int .i64 x.e1), .lit (.int .i64 x.e2), .lit (.int .i64 x.e3)], []) := by
    unfold DataW.trod
    rw [Tryz.underlying22]
    simp [cells_arr4, cells_int, i _ w0, i _ w1, i _ w2, i _ w3, List.range_succ]
  refine ⟨3, ?_⟩
  unfold DataW.trod
  rw [Tryz.underlying24]
  simp [cells_runit, cells_arr4, cells_int64, Value.cells, a, j _ w4, j _ w5, j _ w6, dataU]
end

theorem rconv_any (u0 u1 u2 u3 un ud uo v0 v1 v2 v3 vn vd vo x : Int) (w : World) : Calls Tryz.prog 5 #[.int .i64 x, .agg #[.int .i64 u0, .int .i64 u1, .int .i64 u2, .int .i64 u3, .int .i64 un, .int .i64 ud, .int .i64 uo], .agg #[.int .i64 v0, .int .i64 v1, .int .i64 v2, .int .i64 v3, .int .i64 vn, .int .i64 vd, .int .i64 vo]] w fun e w' => e = .returned (.tuple #[.int .i64 (convR x ⟨u0, u1, u2, u3, un, ud, uo⟩ ⟨v0, v1, v2, v3, vn, vd, vo⟩).1, .int .i64 (convR x ⟨u0, u1, u2, u3, un, ud, uo⟩ ⟨v0, v1, v2, v3, vn, vd, vo⟩).2]) ∧ Below w.heap.size w w' := by
  by_cases h1 : validB ⟨u0, u1, u2, u3, un, ud, uo⟩ = true
  · by_cases h2 : validB ⟨v0, v1, v2, v3, vn, vd, vo⟩ = true
    · by_cases h3 : clampI x = x
      · by_cases h4 : u0 = v0 ∧ u1 = v1 ∧ u2 = v2 ∧ u3 = v3
        · exact rconv_main u0 u1 u2 u3 un ud uo v0 v1 v2 v3 vn vd vo x w h1 h2 h3 h4
        · have hr : convR x ⟨u0, u1, u2, u3, un, ud, uo⟩ ⟨v0, v1, v2, v3, vn, vd, vo⟩ = (0, 11) := by unfold convR; rw [if_neg (by rw [h1, h2]; simp [h3]), if_pos h4]
          rw [hr]
          have := clampI_range x
          exact rconv_bad4 u0 u1 u2 u3 un ud uo v0 v1 v2 v3 vn vd vo x w h1 h2 (by omega) (by omega) h4
      · have hr : convR x ⟨u0, u1, u2, u3, un, ud, uo⟩ ⟨v0, v1, v2, v3, vn, vd, vo⟩ = (0, 1) := by unfold convR; rw [if_pos (.inr (.inr h3))]
        rw [hr]
        exact rconv_bad3 u0 u1 u2 u3 un ud uo v0 v1 v2 v3 vn vd vo x w h1 h2 (by
          by_cases h : x < -1000000000000
          · exact .inl h
          · by_cases h' : 1000000000000 < x
            · exact .inr h'
            · exact absurd (clampI_in x (by omega) (by omega)) h3)
    · have h2' : validB ⟨v0, v1, v2, v3, vn, vd, vo⟩ = false := by simpa using h2
      have hr : convR x ⟨u0, u1, u2, u3, un, ud, uo⟩ ⟨v0, v1, v2, v3, vn, vd, vo⟩ = (0, 1) := by unfold convR; rw [if_pos (.inr (.inl h2'))]
      rw [hr]
      exact rconv_bad2 u0 u1 u2 u3 un ud uo v0 v1 v2 v3 vn vd vo x w h1 h2'
  · have h1' : validB ⟨u0, u1, u2, u3, un, ud, uo⟩ = false := by simpa using h1
    have hr : convR x ⟨u0, u1, u2, u3, un, ud, uo⟩ ⟨v0, v1, v2, v3, vn, vd, vo⟩ = (0, 1) := by unfold convR; rw [if_pos (.inl h1')]
    rw [hr]
    exact rconv_bad1 u0 u1 u2 u3 un ud uo v0 v1 v2 v3 vn vd vo x w h1'
set_option maxHeartbeats 4000000 in
set_option maxRecDepth 100000 in
theorem converts_law (x : Int) (u0 u1 u2 u3 un ud uo v0 v1 v2 v3 vn vd vo : Int) (w : World) (hg : Gu w) : Calls Tryz.prog 3 #[.int .i64 x, .agg #[.int .i64 u0, .int .i64 u1, .int .i64 u2, .int .i64 u3, .int .i64 un, .int .i64 ud, .int .i64 uo], .agg #[.int .i64 v0, .int .i64 v1, .int .i64 v2, .int .i64 v3, .int .i64 vn, .int .i64 vd, .int .i64 vo]] w fun e w' => e = .returned (.bool true) ∧ Below w.heap.size w w' := by
  obtain ⟨⟨X, E⟩, hx⟩ : ∃ r, r = convR x ⟨u0, u1, u2, u3, un, ud, uo⟩ ⟨v0, v1, v2, v3, vn, vd, vo⟩ := ⟨_, rfl⟩
  have c1 := fun w => convert_any x ⟨u0, u1, u2, u3, un, ud, uo⟩ ⟨v0, v1, v2, v3, vn, vd, vo⟩ w
  have c2 := fun w => rconv_any u0 u1 u2 u3 un ud uo v0 v1 v2 v3 vn vd vo x w
  rw [← hx] at c1 c2
  have HC1 := Lib.hid c1
  have HC2 := Lib.hid c2
  have HA := Lib.hid awake_yes
  have HG := Lib.hid hg
  clear c1 c2 hx hg
  obtain ⟨W, g, h, hW, hg, hh, U1, R1, B1, sz⟩ := two_boxes w 24 u0 u1 u2 u3 un ud uo v0 v1 v2 v3 vn vd vo
  have HU1 := Lib.hid U1
  have HR1 := Lib.hid R1
  have HB1 := Lib.hid B1
  clear U1 R1 B1 sz
  go_enter Tryz.func3, Tryz.ntmps3
  go_upto_region 1 with fail
  rw [← hW]
  try rw [← hh]
  try rw [← hg]
  clear hW hg hh
  obtain ⟨a0, a1, a2, a3, a4, a5, a6, az⟩ := HU1.out
  obtain ⟨b0, b1, b2, b3, b4, b5, b6, bz⟩ := HR1.out
  go_wp2_with fail
  refine (HC1.out _).mono ?_
  rintro e w1 ⟨rfl, hb⟩
  have HU2 := Lib.hid (HU1.out.keep hb)
  have HR2 := Lib.hid (HR1.out.keep hb)
  have HB2 := Lib.hid (HB1.out.trans (hb.mono HB1.out.size))
  clear hb HU1 HR1 HB1
  clear a0 a1 a2 a3 a4 a5 a6 az b0 b1 b2 b3 b4 b5 b6 bz
  obtain ⟨a0, a1, a2, a3, a4, a5, a6, az⟩ := HU2.out
  obtain ⟨b0, b1, b2, b3, b4, b5, b6, bz⟩ := HR2.out
  go_wp2_with fail
  refine (HC2.out _).mono ?_
  rintro e w2 ⟨rfl, hb⟩
  have HB3 := Lib.hid (HB2.out.trans (hb.mono HB2.out.size))
  clear hb HU2 HR2 HB2
  clear a0 a1 a2 a3 a4 a5 a6 az b0 b1 b2 b3 b4 b5 b6 bz
  go_wp2_with fail
  refine (HA.out _ (HG.out.below HB3.out)).mono ?_
  rintro e w3 ⟨rfl, hb⟩
  have HB4 := Lib.hid (HB3.out.trans (hb.mono HB3.out.size))
  clear hb HB3
  go_wp2_with fail
  go_ret
  exact ⟨by simp, HB4.out⟩
end Go.Proofs.YtlahoohgbfjciaaGreatDoor
