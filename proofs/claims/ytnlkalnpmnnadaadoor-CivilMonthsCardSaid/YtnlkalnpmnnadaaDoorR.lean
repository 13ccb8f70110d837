/- A date that came in by value: opened and shut. -/
import Derived.Test.YtnlkalnpmnnadaaDoorQ
import Derived.Lib.SmallJoins
import Derived.OpenShut
namespace Go.Proofs.YtnlkalnpmnnadaaDoor
open Go.ChangeShapes Go.WideShapes Go.ChangeAt Go.RowKit Go.Joins

theorem cells_date : Tryd.prog.cellsOf 23 = 3 := by kernel_rfl
set_option maxRecDepth 100000 in
theorem open_date {H : Type} {enc : TypeId × Value → H} {w : World} {base b0 : Nat} {spare : Nat → Bool} {held : Bool} {r : Reach} {v : Value} {d : DataW H} {p : List MemPlace} (hv : Value.okWide Tryd.prog w r b0 23 v) (h : DataW.Trod enc Tryd.prog w base spare held 23 v d p) :
    ∃ y m k : Int, v = dateV y m k ∧ d = .agg [.lit (.int .i64 y), .lit (.int .i64 m), .lit (.int .i64 k)] ∧ p = [] ∧ (Lit.int .i64 y).wf = true ∧ (Lit.int .i64 m).wf = true ∧ (Lit.int .i64 k).wf = true := by
  obtain ⟨c0, c1, c2, y0, y1, y2, n, rfl, rfl, rfl, h0, h1, h2⟩ := open_agg3 Tryd.underlying23 (by kernel_rfl) cells_date hv h
  obtain ⟨y, e0, rfl, wy⟩ := DataW.trod_int Tryd.underlying3 h0
  obtain ⟨m, e1, rfl, wm⟩ := DataW.trod_int Tryd.underlying3 h1
  obtain ⟨k, e2, rfl, wk⟩ := DataW.trod_int Tryd.underlying3 h2
  obtain rfl : c0 = .int .i64 y := by simpa using e0
  obtain rfl : c1 = .int .i64 m := by simpa using e1
  obtain rfl : c2 = .int .i64 k := by simpa using e2
  exact ⟨y, m, k, rfl, rfl, rfl, wy, wm, wk⟩
set_option maxRecDepth 100000 in
theorem shut_date {H : Type} {enc : TypeId × Value → H} {w : World} {base : Nat} {spare : Nat → Bool} {held : Bool} {y m k : Int} (wy : (Lit.int .i64 y).wf = true) (wm : (Lit.int .i64 m).wf = true) (wk : (Lit.int .i64 k).wf = true) :
    DataW.Trod enc Tryd.prog w base spare held 23 (dateV y m k) (.agg [.lit (.int .i64 y), .lit (.int .i64 m), .lit (.int .i64 k)]) [] := by
  simpa using shut_agg3 (enc := enc) (w := w) (base := base) (spare := spare) (held := held) (y0 := (.lit (.int .i64 y), [])) (y1 := (.lit (.int .i64 m), [])) (y2 := (.lit (.int .i64 k), [])) Tryd.underlying23 (by kernel_rfl) cells_date ⟨1, by simp [DataW.trod, Tryd.underlying3, wy]⟩ ⟨1, by simp [DataW.trod, Tryd.underlying3, wm]⟩ ⟨1, by simp [DataW.trod, Tryd.underlying3, wk]⟩
end Go.Proofs.YtnlkalnpmnnadaaDoor
