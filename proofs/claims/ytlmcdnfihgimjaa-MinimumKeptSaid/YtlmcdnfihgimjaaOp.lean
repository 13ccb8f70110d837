/- A point, a state, a request that came in by value, and a list of requests: opened. -/
import Derived.Test.YtlmcdnfihgimjaaE
namespace Go.Proofs.Ytlmcdnfihgimjaa
open Go.ChangeShapes Go.WideShapes Go.ChangeAt Go.RowKit Go.Joins

theorem cells_string : Try.prog.cellsOf 9 = 1 := by kernel_rfl
theorem cells_int : Try.prog.cellsOf 3 = 1 := by kernel_rfl
theorem cells_int64 : Try.prog.cellsOf 2 = 1 := by kernel_rfl
theorem cells_strs : Try.prog.cellsOf 22 = 1 := by kernel_rfl
theorem cells_value : Try.prog.cellsOf 24 = 2 := by kernel_rfl
theorem cells_point : Try.prog.cellsOf 26 = 12 := by kernel_rfl
theorem cells_driven : Try.prog.cellsOf 28 = 3 := by kernel_rfl
theorem cells_request : Try.prog.cellsOf 30 = 3 := by kernel_rfl
theorem cells_ask : Try.prog.cellsOf 32 = 4 := by kernel_rfl
theorem arr3 {α : Type} {a : Array α} (h : a.size = 3) : ∃ c0 c1 c2, a = #[c0, c1, c2] := by
  obtain ⟨l⟩ := a
  match l, h with
  | [c0, c1, c2], _ => exact ⟨c0, c1, c2, rfl⟩
theorem arr4 {α : Type} {a : Array α} (h : a.size = 4) : ∃ c0 c1 c2 c3, a = #[c0, c1, c2, c3] := by
  obtain ⟨l⟩ := a
  match l, h with
  | [c0, c1, c2, c3], _ => exact ⟨c0, c1, c2, c3, rfl⟩
theorem arr12 {α : Type} {a : Array α} (h : a.size = 12) : ∃ c0 c1 c2 c3 c4 c5 c6 c7 c8 c9 c10 c11, a = #[c0, c1, c2, c3, c4, c5, c6, c7, c8, c9, c10, c11] := by
  obtain ⟨l⟩ := a
  match l, h with
  | [c0, c1, c2, c3, c4, c5, c6, c7, c8, c9, c10, c11], _ => exact ⟨c0, c1, c2, c3, c4, c5, c6, c7, c8, c9, c10, c11, rfl⟩
theorem list4 {α : Type} {l : List α} (h : l.length = 4) : ∃ c0 c1 c2 c3, l = [c0, c1, c2, c3] := by
  match l, h with
  | [c0, c1, c2, c3], _ => exact ⟨c0, c1, c2, c3, rfl⟩

section
variable {H : Type} {enc : TypeId × Value → H} {w : World} {base b0 : Nat} {spare : Nat → Bool} {held : Bool} {r : Reach} {v : Value} {d : DataW H} {p : List MemPlace}
theorem val_cells {n : Nat} {c0 c1 : Value} {y : DataW H × List MemPlace} (h : DataW.trod enc Try.prog w base spare held n 24 [c0, c1] = some y) : ∃ k m : Int, c0 = .int .i64 k ∧ c1 = .int .i64 m := by
  obtain ⟨xs, n, rfl, _, _, hl, hfl⟩ := DataW.trod_struct Try.underlying24 h
  obtain ⟨y0, f0⟩ : ∃ y, DataW.trod enc Try.prog w base spare held n 3 [c0] = some y := by
    have := hfl 0 _ rfl
    have hx : xs[0]? = some (xs[0]'(by rw [hl]; decide)) := List.getElem?_eq_getElem _
    rw [hx] at this
    exact ⟨_, by simpa [cells_int] using this⟩
  obtain ⟨y1, f1⟩ : ∃ y, DataW.trod enc Try.prog w base spare held n 2 [c1] = some y := by
    have := hfl 1 _ rfl
    have hx : xs[1]? = some (xs[1]'(by rw [hl]; decide)) := List.getElem?_eq_getElem _
    rw [hx] at this
    exact ⟨_, by simpa [cells_int, cells_int64] using this⟩
  obtain ⟨k, e0, _, _⟩ := DataW.trod_int Try.underlying3 f0
  obtain ⟨m, e1, _, _⟩ := DataW.trod_int Try.underlying2 f1
  exact ⟨k, m, by simpa using e0, by simpa using e1⟩
theorem req_cells {n : Nat} {c0 c1 c2 : Value} {y : DataW H × List MemPlace} (h : DataW.trod enc Try.prog w base spare held n 30 [c0, c1, c2] = some y) : ∃ l k m : Int, c0 = .int .i64 l ∧ c1 = .int .i64 k ∧ c2 = .int .i64 m := by
  obtain ⟨xs, n, rfl, _, _, hl, hfl⟩ := DataW.trod_struct Try.underlying30 h
  obtain ⟨y0, f0⟩ : ∃ y, DataW.trod enc Try.prog w base spare held n 3 [c0] = some y := by
    have := hfl 0 _ rfl
    have hx : xs[0]? = some (xs[0]'(by rw [hl]; decide)) := List.getElem?_eq_getElem _
    rw [hx] at this
    exact ⟨_, by simpa [cells_int] using this⟩
  obtain ⟨y1, f1⟩ : ∃ y, DataW.trod enc Try.prog w base spare held n 24 [c1, c2] = some y := by
    have := hfl 1 _ rfl
    have hx : xs[1]? = some (xs[1]'(by rw [hl]; decide)) := List.getElem?_eq_getElem _
    rw [hx] at this
    exact ⟨_, by simpa [cells_int, cells_value] using this⟩
  obtain ⟨k, e0, _, _⟩ := DataW.trod_int Try.underlying3 f0
  obtain ⟨a, b, e1, e2⟩ := val_cells f1
  exact ⟨k, a, b, by simpa using e0, e1, e2⟩
theorem ask_cells {n : Nat} {cs : List Value} {y : DataW H × List MemPlace} (hcs : cs.length = 4) (h : DataW.trod enc Try.prog w base spare held n 32 cs = some y) : ∃ a : AskD, cs = askL a ∧ True := by
  obtain ⟨c0, c1, c2, c3, rfl⟩ := list4 hcs
  obtain ⟨xs, n, rfl, _, _, hl, hfl⟩ := DataW.trod_struct Try.underlying32 h
  obtain ⟨y0, f0⟩ : ∃ y, DataW.trod enc Try.prog w base spare held n 3 [c0] = some y := by
    have := hfl 0 _ rfl
    have hx : xs[0]? = some (xs[0]'(by rw [hl]; decide)) := List.getElem?_eq_getElem _
    rw [hx] at this
    exact ⟨_, by simpa [cells_int] using this⟩
  obtain ⟨y1, f1⟩ : ∃ y, DataW.trod enc Try.prog w base spare held n 30 [c1, c2, c3] = some y := by
    have := hfl 1 _ rfl
    have hx : xs[1]? = some (xs[1]'(by rw [hl]; decide)) := List.getElem?_eq_getElem _
    rw [hx] at this
    exact ⟨_, by simpa [cells_int, cells_request] using this⟩
  obtain ⟨k, e0, _, _⟩ := DataW.trod_int Try.underlying3 f0
  obtain ⟨l, a, b, rfl, rfl, rfl⟩ := req_cells f1
  exact ⟨⟨k, l, a, b⟩, by simpa [askL] using e0, trivial⟩
theorem open_ask (hv : Value.okWide Try.prog w r b0 32 v) (h : DataW.Trod enc Try.prog w base spare held 32 v d p) : ∃ t l k n : Int, v = .agg #[.int .i64 t, .int .i64 l, .int .i64 k, .int .i64 n] := by
  obtain ⟨cs, rfl, hsz⟩ := okWide_struct Try.underlying32 hv
  obtain ⟨c0, c1, c2, c3, rfl⟩ := arr4 (hsz.trans cells_ask)
  obtain ⟨fuel, hf⟩ := h
  obtain ⟨⟨a, b, c, e⟩, he, _⟩ := ask_cells (cs := [c0, c1, c2, c3]) rfl hf
  injection he with h0 he; injection he with h1 he; injection he with h2 he; injection he with h3 he
  subst h0 h1 h2 h3
  exact ⟨a, b, c, e, rfl⟩
theorem open_driven (hv : Value.okWide Try.prog w r b0 28 v) (h : DataW.Trod enc Try.prog w base spare held 28 v d p) : ∃ k n c : Int, v = .agg #[.int .i64 k, .int .i64 n, .int .i64 c] := by
  obtain ⟨cs, rfl, hsz⟩ := okWide_struct Try.underlying28 hv
  obtain ⟨c0, c1, c2, rfl⟩ := arr3 (hsz.trans cells_driven)
  obtain ⟨fuel, hf⟩ := h
  obtain ⟨xs, n, rfl, _, _, hl, hfl⟩ := DataW.trod_struct Try.underlying28 hf
  obtain ⟨y0, f0⟩ : ∃ y, DataW.trod enc Try.prog w base spare held n 24 [c0, c1] = some y := by
    have := hfl 0 _ rfl
    have hx : xs[0]? = some (xs[0]'(by rw [hl]; decide)) := List.getElem?_eq_getElem _
    rw [hx] at this
    exact ⟨_, by simpa [cells_value, Value.cells] using this⟩
  obtain ⟨y1, f1⟩ : ∃ y, DataW.trod enc Try.prog w base spare held n 3 [c2] = some y := by
    have := hfl 1 _ rfl
    have hx : xs[1]? = some (xs[1]'(by rw [hl]; decide)) := List.getElem?_eq_getElem _
    rw [hx] at this
    exact ⟨_, by simpa [cells_value, cells_int, Value.cells] using this⟩
  obtain ⟨c, e1, _, _⟩ := DataW.trod_int Try.underlying3 f1
  obtain ⟨a, b, rfl, rfl⟩ := val_cells f0
  obtain rfl : c2 = .int .i64 c := by simpa using e1
  exact ⟨a, b, c, rfl⟩
theorem open_point (hv : Value.okWide Try.prog w r b0 26 v) (h : DataW.Trod enc Try.prog w base spare held 26 v d p) : ∃ q : Pt, v = ptV q := by
  obtain ⟨cs, rfl, hsz⟩ := okWide_struct Try.underlying26 hv
  obtain ⟨c0, c1, c2, c3, c4, c5, c6, c7, c8, c9, c10, c11, rfl⟩ := arr12 (hsz.trans cells_point)
  obtain ⟨fuel, hf⟩ := h
  obtain ⟨xs, n, rfl, _, _, hl, hfl⟩ := DataW.trod_struct Try.underlying26 hf
  have at' : ∀ i : Nat, i < 11 → ∃ y, xs[i]? = some y := fun i hi => ⟨_, List.getElem?_eq_getElem (by rw [hl]; exact hi)⟩
  obtain ⟨y1, f1⟩ : ∃ y, DataW.trod enc Try.prog w base spare held n 3 [c1] = some y := by
    have := hfl 1 _ rfl
    obtain ⟨y, hx⟩ := at' 1 (by decide)
    rw [hx] at this
    exact ⟨_, by simpa [cells_string, cells_int, Value.cells] using this⟩
  obtain ⟨y2, f2⟩ : ∃ y, DataW.trod enc Try.prog w base spare held n 3 [c2] = some y := by
    have := hfl 2 _ rfl
    obtain ⟨y, hx⟩ := at' 2 (by decide)
    rw [hx] at this
    exact ⟨_, by simpa [cells_string, cells_int, Value.cells] using this⟩
  obtain ⟨y3, f3⟩ : ∃ y, DataW.trod enc Try.prog w base spare held n 3 [c10] = some y := by
    have := hfl 9 _ rfl
    obtain ⟨y, hx⟩ := at' 9 (by decide)
    rw [hx] at this
    exact ⟨_, by simpa [cells_string, cells_int, cells_int64, cells_strs, cells_value, Value.cells] using this⟩
  obtain ⟨y4, f4⟩ : ∃ y, DataW.trod enc Try.prog w base spare held n 3 [c11] = some y := by
    have := hfl 10 _ rfl
    obtain ⟨y, hx⟩ := at' 10 (by decide)
    rw [hx] at this
    exact ⟨_, by simpa [cells_string, cells_int, cells_int64, cells_strs, cells_value, Value.cells] using this⟩
  obtain ⟨k, e1, _, _⟩ := DataW.trod_int Try.underlying3 f1
  obtain ⟨l, e2, _, _⟩ := DataW.trod_int Try.underlying3 f2
  obtain ⟨a, e3, _, _⟩ := DataW.trod_int Try.underlying3 f3
  obtain ⟨b, e4, _, _⟩ := DataW.trod_int Try.underlying3 f4
  obtain rfl : c1 = .int .i64 k := by simpa using e1
  obtain rfl : c2 = .int .i64 l := by simpa using e2
  obtain rfl : c10 = .int .i64 a := by simpa using e3
  obtain rfl : c11 = .int .i64 b := by simpa using e4
  exact ⟨⟨c0, k, l, c3, c4, c5, c6, c7, c8, c9, a, b⟩, rfl⟩
end
end Go.Proofs.Ytlmcdnfihgimjaa
