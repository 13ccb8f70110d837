/- From the cards' condition to the table; an array of three numbers by value. -/
import Derived.Test.YtgpbcdelaipifaaDoorRows
import Derived.Test.YtgpbcdelaipifaaDoorLm
import Derived.Test.YtgpbcdelaipifaaDoorLa
import Derived.Stop.LaidErr
import Derived.MakeChecks
import Derived.ProofKit
import Derived.OpenShut
namespace Go.Proofs.YtgpbcdelaipifaaDoor
open Go.RowKit Go.ChangeShapes Go.WideShapes

theorem sat_datum : (Rows.laid_plenum_psychro_saturated : DataW Unit) = Lib.tabData .i64 satL := by rfl
theorem sat_of_laid (W : World) (h : laidMetH Tryd.prog Rows.psychroAirRow.laid W) : SatT W := by
  rw [MakeChecks.laidMetH_plain _ _ _ (by kernel_rfl)] at h
  have h2 : laidMet Tryd.prog (("plenum/psychro.saturated", Lib.tabData .i64 satL) :: _) W := h
  exact Lib.tabIs_of_head (g := 0) (by kernel_rfl) (by kernel_rfl) Tryd.underlying45 Tryd.underlying2 (by kernel_rfl) (by kernel_rfl) h2
theorem cells_i64 : Tryd.prog.cellsOf 2 = 1 := by kernel_rfl
theorem cells_a3 : Tryd.prog.cellsOf 28 = 3 := by kernel_rfl
theorem arr3 {cs : Array Value} (h : cs.size = 3) : ∃ c0 c1 c2, cs = #[c0, c1, c2] := by
  match cs, h with
  | ⟨[c0, c1, c2]⟩, _ => exact ⟨c0, c1, c2, rfl⟩
theorem list3 {α : Type} {l : List α} (h : l.length = 3) : ∃ c0 c1 c2, l = [c0, c1, c2] := by
  match l, h with
  | [c0, c1, c2], _ => exact ⟨c0, c1, c2, rfl⟩
structure TriD where
  a : Int
  b : Int
  c : Int
def triV (x : TriD) : Value := .agg #[.int .i64 x.a, .int .i64 x.b, .int .i64 x.c]
def dataT {H : Type} (x : TriD) : DataW H := .agg [.lit (.int .i64 x.a), .lit (.int .i64 x.b), .lit (.int .i64 x.c)]
def wfT (x : TriD) : Prop := (Lit.int .i64 x.a).wf = true ∧ (Lit.int .i64 x.b).wf = true ∧ (Lit.int .i64 x.c).wf = true
theorem okWide_array {P : Program} {w : World} {r : Reach} {base : Nat} {t e : TypeId} {n : Nat} {v : Value} (ht : P.underlying t = some (.array n e)) (h : Value.okWide P w r base t v) : ∃ cs, v = .agg cs ∧ cs.size = P.cellsOf t := by
  simp only [Value.okWide, ht] at h
  obtain ⟨cs, h1, h2, _⟩ := h
  exact ⟨cs, h1, h2⟩
set_option maxRecDepth 100000 in
theorem open_tri {H : Type} {enc : TypeId × Value → H} {w : World} {base b0 : Nat} {spare : Nat → Bool} {held : Bool} {r : Reach} {v : Value} {d : DataW H} {p : List MemPlace} (hv : Value.okWide Tryd.prog w r b0 28 v) (h : DataW.Trod enc Tryd.prog w base spare held 28 v d p) :
    ∃ x : TriD, v = triV x ∧ d = dataT x ∧ p = [] ∧ wfT x := by
  obtain ⟨cs, rfl, hsz⟩ := okWide_array Tryd.underlying28 hv
  obtain ⟨c0, c1, c2, rfl⟩ := arr3 (hsz.trans cells_a3)
  obtain ⟨fuel, hf⟩ := h
  obtain ⟨ys, m, rfl, hx, _, hly, hal⟩ := DataW.trod_array Tryd.underlying28 hf
  obtain ⟨z0, z1, z2, rfl⟩ := list3 hly
  have g0 : DataW.trod enc Tryd.prog w base spare held m 2 [c0] = some z0 := by simpa [cells_i64, Value.cells] using hal 0 (by decide)
  have g1 : DataW.trod enc Tryd.prog w base spare held m 2 [c1] = some z1 := by simpa [cells_i64, Value.cells] using hal 1 (by decide)
  have g2 : DataW.trod enc Tryd.prog w base spare held m 2 [c2] = some z2 := by simpa [cells_i64, Value.cells] using hal 2 (by decide)
  obtain ⟨a0, e0, rfl, w0⟩ := DataW.trod_int Tryd.underlying2 g0
  obtain ⟨a1, e1, rfl, w1⟩ := DataW.trod_int Tryd.underlying2 g1
  obtain ⟨a2, e2, rfl, w2⟩ := DataW.trod_int Tryd.underlying2 g2
  obtain rfl : c0 = .int .i64 a0 := by simpa using e0
  obtain rfl : c1 = .int .i64 a1 := by simpa using e1
  obtain rfl : c2 = .int .i64 a2 := by simpa using e2
  simp at hx
  exact ⟨⟨a0, a1, a2⟩, rfl, hx.1, hx.2, w0, w1, w2⟩
set_option maxRecDepth 100000 in
theorem shut_tri {H : Type} {enc : TypeId × Value → H} {w : World} {base : Nat} {spare : Nat → Bool} {held : Bool} {x : TriD} (hx : wfT x) :
    DataW.Trod enc Tryd.prog w base spare held 28 (triV x) (dataT x) [] := by
  obtain ⟨w0, w1, w2⟩ := hx
  have j : ∀ n : Int, (Lit.int .i64 n).wf = true → DataW.trod enc Tryd.prog w base spare held 1 2 [.int .i64 n] = some (.lit (.int .i64 n), []) := fun n h => by simp [DataW.trod, Tryd.underlying2, h]
  refine ⟨2, ?_⟩
  unfold DataW.trod
  rw [Tryd.underlying28]
  simp [cells_a3, cells_i64, Value.cells, triV, j _ w0, j _ w1, j _ w2, dataT, List.range_succ]
end Go.Proofs.YtgpbcdelaipifaaDoor
