/- A write and a value that came in by value, lists of writes and of numbers: opened. -/
import Derived.Test.YtlmilalibgehpaaKl
namespace Go.Proofs.Ytlmilalibgehpaa
open Go.ChangeShapes Go.WideShapes Go.ChangeAt Go.RowKit Go.Joins

theorem cells_int : Try.prog.cellsOf 3 = 1 := by kernel_rfl
theorem cells_int64 : Try.prog.cellsOf 2 = 1 := by kernel_rfl
theorem cells_value : Try.prog.cellsOf 23 = 2 := by kernel_rfl
theorem cells_write : Try.prog.cellsOf 25 = 4 := by kernel_rfl
theorem arr2 {α : Type} {a : Array α} (h : a.size = 2) : ∃ c0 c1, a = #[c0, c1] := by
  obtain ⟨l⟩ := a
  match l, h with
  | [c0, c1], _ => exact ⟨c0, c1, rfl⟩
theorem arr4 {α : Type} {a : Array α} (h : a.size = 4) : ∃ c0 c1 c2 c3, a = #[c0, c1, c2, c3] := by
  obtain ⟨l⟩ := a
  match l, h with
  | [c0, c1, c2, c3], _ => exact ⟨c0, c1, c2, c3, rfl⟩
theorem list4 {α : Type} {l : List α} (h : l.length = 4) : ∃ c0 c1 c2 c3, l = [c0, c1, c2, c3] := by
  match l, h with
  | [c0, c1, c2, c3], _ => exact ⟨c0, c1, c2, c3, rfl⟩
theorem list1 {α : Type} {l : List α} (h : l.length = 1) : ∃ c0, l = [c0] := by
  match l, h with
  | [c0], _ => exact ⟨c0, rfl⟩

section
variable {H : Type} {enc : TypeId × Value → H} {w : World} {base b0 : Nat} {spare : Nat → Bool} {held : Bool} {r : Reach} {v : Value} {d : DataW H} {p : List MemPlace}
theorem val_cells {n : Nat} {c0 c1 : Value} {y : DataW H × List MemPlace} (h : DataW.trod enc Try.prog w base spare held n 23 [c0, c1] = some y) : ∃ k m : Int, c0 = .int .i64 k ∧ c1 = .int .i64 m := by
  obtain ⟨xs, n, rfl, _, _, hl, hfl⟩ := DataW.trod_struct Try.underlying23 h
  obtain ⟨y0, f0⟩ : ∃ y, DataW.trod enc Try.prog w base spare held n 3 [c0] = some y := by
    have := hfl 0 _ rfl
    have hx : xs[0]? = some (xs[0]'(by rw [hl]; decide)) := List.getElem?_eq_getElem _
    rw [hx] at this
    exact ⟨_, by simpa [cells_int] using this⟩
  obtain ⟨y1, f1⟩ : ∃ y, DataW.trod enc Try.prog w base spare held n 2 [c1] = some y := by
    have := hfl 1 _ rfl
    have hx : xs[1]? = some (xs[1]'(by rw [hl]; decide)) := List.getElem?_eq_getElem _
    rw [hx] at this
    exact ⟨_, by simpa [cells_int, cells_int64] using this⟩
  obtain ⟨k, e0, _, _⟩ := DataW.trod_int Try.underlying3 f0
  obtain ⟨m, e1, _, _⟩ := DataW.trod_int Try.underlying2 f1
  exact ⟨k, m, by simpa using e0, by simpa using e1⟩
theorem write_cells {n : Nat} {cs : List Value} {y : DataW H × List MemPlace} (hcs : cs.length = 4) (h : DataW.trod enc Try.prog w base spare held n 25 cs = some y) : ∃ a : WrD, cs = wrL a ∧ True := by
  obtain ⟨c0, c1, c2, c3, rfl⟩ := list4 hcs
  obtain ⟨xs, n, rfl, _, _, hl, hfl⟩ := DataW.trod_struct Try.underlying25 h
  obtain ⟨y0, f0⟩ : ∃ y, DataW.trod enc Try.prog w base spare held n 3 [c0] = some y := by
    have := hfl 0 _ rfl
    have hx : xs[0]? = some (xs[0]'(by rw [hl]; decide)) := List.getElem?_eq_getElem _
    rw [hx] at this
    exact ⟨_, by simpa [cells_int] using this⟩
  obtain ⟨y1, f1⟩ : ∃ y, DataW.trod enc Try.prog w base spare held n 3 [c1] = some y := by
    have := hfl 1 _ rfl
    have hx : xs[1]? = some (xs[1]'(by rw [hl]; decide)) := List.getElem?_eq_getElem _
    rw [hx] at this
    exact ⟨_, by simpa [cells_int] using this⟩
  obtain ⟨y2, f2⟩ : ∃ y, DataW.trod enc Try.prog w base spare held n 23 [c2, c3] = some y := by
    have := hfl 2 _ rfl
    have hx : xs[2]? = some (xs[2]'(by rw [hl]; decide)) := List.getElem?_eq_getElem _
    rw [hx] at this
    exact ⟨_, by simpa [cells_int, cells_value] using this⟩
  obtain ⟨l, e0, _, _⟩ := DataW.trod_int Try.underlying3 f0
  obtain ⟨q, e1, _, _⟩ := DataW.trod_int Try.underlying3 f1
  obtain ⟨a, b, rfl, rfl⟩ := val_cells f2
  obtain rfl : c0 = .int .i64 l := by simpa using e0
  obtain rfl : c1 = .int .i64 q := by simpa using e1
  exact ⟨⟨l, q, a, b⟩, rfl, trivial⟩
theorem int_cells {n : Nat} {cs : List Value} {y : DataW H × List MemPlace} (hcs : cs.length = 1) (h : DataW.trod enc Try.prog w base spare held n 3 cs = some y) : ∃ a : Int, cs = iL a ∧ True := by
  obtain ⟨c0, rfl⟩ := list1 hcs
  obtain ⟨l, e0, _, _⟩ := DataW.trod_int Try.underlying3 h
  exact ⟨l, by simpa [iL] using e0, trivial⟩
theorem open_write (hv : Value.okWide Try.prog w r b0 25 v) (h : DataW.Trod enc Try.prog w base spare held 25 v d p) : ∃ l q k n : Int, v = .agg #[.int .i64 l, .int .i64 q, .int .i64 k, .int .i64 n] := by
  obtain ⟨cs, rfl, hsz⟩ := okWide_struct Try.underlying25 hv
  obtain ⟨c0, c1, c2, c3, rfl⟩ := arr4 (hsz.trans cells_write)
  obtain ⟨fuel, hf⟩ := h
  obtain ⟨⟨a, b, c, e⟩, he, _⟩ := write_cells (cs := [c0, c1, c2, c3]) rfl hf
  injection he with h0 he; injection he with h1 he; injection he with h2 he; injection he with h3 he
  subst h0 h1 h2 h3
  exact ⟨a, b, c, e, rfl⟩
theorem open_val (hv : Value.okWide Try.prog w r b0 23 v) (h : DataW.Trod enc Try.prog w base spare held 23 v d p) : ∃ k n : Int, v = .agg #[.int .i64 k, .int .i64 n] := by
  obtain ⟨cs, rfl, hsz⟩ := okWide_struct Try.underlying23 hv
  obtain ⟨c0, c1, rfl⟩ := arr2 (hsz.trans cells_value)
  obtain ⟨fuel, hf⟩ := h
  obtain ⟨a, b, rfl, rfl⟩ := val_cells (c0 := c0) (c1 := c1) hf
  exact ⟨a, b, rfl⟩
end
end Go.Proofs.Ytlmilalibgehpaa
