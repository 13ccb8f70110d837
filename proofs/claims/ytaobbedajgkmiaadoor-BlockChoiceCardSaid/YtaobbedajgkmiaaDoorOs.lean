/- Slices of numbers and of values that came in: opened; the cell of MaxLen. -/
import Derived.Test.YtaobbedajgkmiaaDoorSl
import Derived.Test.YtaobbedajgkmiaaDoorBd
import Derived.Shelf.Vars
namespace Go.Proofs.YtaobbedajgkmiaaDoor
open Go.ChangeShapes Go.WideShapes Go.ChangeAt Go.RowKit Go.Joins Go.Shelf Go.Deep

theorem ocells_int64 : Tryd.prog.cellsOf 2 = 1 := by kernel_rfl
theorem ocells_int : Tryd.prog.cellsOf 3 = 1 := by kernel_rfl
theorem ocells_api_Value : Tryd.prog.cellsOf 51 = 2 := by kernel_rfl
theorem oarr1 {α : Type} {a : Array α} (h : a.size = 1) : ∃ c0, a = #[c0] := by
  obtain ⟨l⟩ := a
  match l, h with
  | [c0], _ => exact ⟨c0, rfl⟩
theorem olist1 {α : Type} {l : List α} (h : l.length = 1) : ∃ c0, l = [c0] := by
  match l, h with
  | [c0], _ => exact ⟨c0, rfl⟩
theorem oarr2 {α : Type} {a : Array α} (h : a.size = 2) : ∃ c0 c1, a = #[c0, c1] := by
  obtain ⟨l⟩ := a
  match l, h with
  | [c0, c1], _ => exact ⟨c0, c1, rfl⟩
theorem olist2 {α : Type} {l : List α} (h : l.length = 2) : ∃ c0 c1, l = [c0, c1] := by
  match l, h with
  | [c0, c1], _ => exact ⟨c0, c1, rfl⟩
section
variable {H : Type} {enc : TypeId × Value → H} {w : World} {base b0 : Nat} {spare : Nat → Bool} {held : Bool} {r : Reach} {v : Value} {d : DataW H} {p : List MemPlace}
theorem oint_cells {n : Nat} {cs : List Value} {y : DataW H × List MemPlace} (hcs : cs.length = 1) (h : DataW.trod enc Tryd.prog w base spare held n 2 cs = some y) : ∃ a : Int, cs = (fun x : Int => [Value.int .i64 x]) a ∧ (Lit.int .i64 a).wf = true := by
  obtain ⟨c0, rfl⟩ := olist1 hcs
  obtain ⟨l, e0, _, wf⟩ := DataW.trod_int Tryd.underlying2 h
  exact ⟨l, by simpa using e0, by first | exact wf | simp_all⟩
theorem open_ints {n : Nat} {a : Option Addr} {l c : Nat} {y : DataW H × List MemPlace} (h : DataW.trod enc Tryd.prog w base spare held n 39 [.slice a l c] = some y) : ∃ ls : List Int, ls.length = l ∧ InS w a ls.length 1 (flat (fun x : Int => [Value.int .i64 x]) ls) ∧ ∀ v ∈ ls, (Lit.int .i64 v).wf = true :=
  slice_of (fun v => (Lit.int .i64 v).wf = true) Tryd.underlying39 ocells_int64 (by decide) (fun _ => rfl) (fun n cs y hl ht => oint_cells hl ht) h
theorem oval_cells {n : Nat} {cs : List Value} {y : DataW H × List MemPlace} (hcs : cs.length = 2) (h : DataW.trod enc Tryd.prog w base spare held n 51 cs = some y) : ∃ a, cs = (fun x : Int × Int => [Value.int .i64 x.1, Value.int .i64 x.2]) a ∧ True := by
  obtain ⟨c0, c1, rfl⟩ := olist2 hcs
  obtain ⟨xs, n, rfl, _, _, hl, hfl⟩ := DataW.trod_struct Tryd.underlying51 h
  obtain ⟨y0, f0⟩ : ∃ y, DataW.trod enc Tryd.prog w base spare held n 3 [c0] = some y := by
    have := hfl 0 _ rfl
    have hx : xs[0]? = some (xs[0]'(by rw [hl]; decide)) := List.getElem?_eq_getElem _
    rw [hx] at this
    exact ⟨_, by simpa [ocells_int, ocells_int64] using this⟩
  obtain ⟨y1, f1⟩ : ∃ y, DataW.trod enc Tryd.prog w base spare held n 2 [c1] = some y := by
    have := hfl 1 _ rfl
    have hx : xs[1]? = some (xs[1]'(by rw [hl]; decide)) := List.getElem?_eq_getElem _
    rw [hx] at this
    exact ⟨_, by simpa [ocells_int, ocells_int64] using this⟩
  obtain ⟨k, e0, _, _⟩ := DataW.trod_int Tryd.underlying3 f0
  obtain rfl : c0 = .int .i64 k := by simpa using e0
  obtain ⟨t, e1, _, _⟩ := DataW.trod_int Tryd.underlying2 f1
  obtain rfl : c1 = .int .i64 t := by simpa using e1
  exact ⟨⟨k, t⟩, rfl, trivial⟩
theorem open_vals {n : Nat} {a : Option Addr} {l c : Nat} {y : DataW H × List MemPlace} (h : DataW.trod enc Tryd.prog w base spare held n 49 [.slice a l c] = some y) : ∃ ls : List (Int × Int), ls.length = l ∧ InS w a ls.length 2 (flat (fun x : Int × Int => [Value.int .i64 x.1, Value.int .i64 x.2]) ls) ∧ ∀ v ∈ ls, True :=
  slice_of (fun _ => True) Tryd.underlying49 ocells_api_Value (by decide) (fun _ => rfl) (fun n cs y hl ht => oval_cells hl ht) h
end
theorem maxat_of_shaped {W : World} (h : W.ShapedOpen Tryd.prog) : MaxAt W :=
  cell_of_shapedOpen_int (g := 0) (t := 3) (zero := #[.int .i64 0]) h (of_decide_eq_true (by kernel_rfl)) (by kernel_rfl) rfl (by kernel_rfl) (by kernel_rfl) Tryd.underlying3
end Go.Proofs.YtaobbedajgkmiaaDoor
