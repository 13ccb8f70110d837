/- Slices of numbers and of truth values that came in: opened; the cell of MaxLen. -/
import Derived.Test.YtaobbedajgkmiaaDoorSl
import Derived.Test.YtaobbedajgkmiaaDoorBd
import Derived.Shelf.Vars
namespace Go.Proofs.YtaobbedajgkmiaaDoor
open Go.ChangeShapes Go.WideShapes Go.ChangeAt Go.RowKit Go.Joins Go.Shelf Go.Deep

theorem ocells_int64 : Tryd.prog.cellsOf 2 = 1 := by kernel_rfl
theorem ocells_bool : Tryd.prog.cellsOf 4 = 1 := by kernel_rfl
theorem oarr1 {α : Type} {a : Array α} (h : a.size = 1) : ∃ c0, a = #[c0] := by
  obtain ⟨l⟩ := a
  match l, h with
  | [c0], _ => exact ⟨c0, rfl⟩
theorem olist1 {α : Type} {l : List α} (h : l.length = 1) : ∃ c0, l = [c0] := by
  match l, h with
  | [c0], _ => exact ⟨c0, rfl⟩
section
variable {H : Type} {enc : TypeId × Value → H} {w : World} {base b0 : Nat} {spare : Nat → Bool} {held : Bool} {r : Reach} {v : Value} {d : DataW H} {p : List MemPlace}
theorem oint_cells {n : Nat} {cs : List Value} {y : DataW H × List MemPlace} (hcs : cs.length = 1) (h : DataW.trod enc Tryd.prog w base spare held n 2 cs = some y) : ∃ a : Int, cs = (fun x : Int => [Value.int .i64 x]) a ∧ (Lit.int .i64 a).wf = true := by
  obtain ⟨c0, rfl⟩ := olist1 hcs
  obtain ⟨l, e0, _, wf⟩ := DataW.trod_int Tryd.underlying2 h
  exact ⟨l, by simpa using e0, by first | exact wf | simp_all⟩
theorem open_ints {n : Nat} {a : Option Addr} {l c : Nat} {y : DataW H × List MemPlace} (h : DataW.trod enc Tryd.prog w base spare held n 39 [.slice a l c] = some y) : ∃ ls : List Int, ls.length = l ∧ InS w a ls.length 1 (flat (fun x : Int => [Value.int .i64 x]) ls) ∧ ∀ v ∈ ls, (Lit.int .i64 v).wf = true :=
  slice_of (fun v => (Lit.int .i64 v).wf = true) Tryd.underlying39 ocells_int64 (by decide) (fun _ => rfl) (fun n cs y hl ht => oint_cells hl ht) h
theorem obool_cells {n : Nat} {cs : List Value} {y : DataW H × List MemPlace} (hcs : cs.length = 1) (h : DataW.trod enc Tryd.prog w base spare held n 4 cs = some y) : ∃ a : Bool, cs = (fun x : Bool => [Value.bool x]) a ∧ True := by
  obtain ⟨c0, rfl⟩ := olist1 hcs
  obtain ⟨l, e0, _⟩ := DataW.trod_bool Tryd.underlying4 h
  exact ⟨l, by simpa using e0, trivial⟩
theorem open_bools {n : Nat} {a : Option Addr} {l c : Nat} {y : DataW H × List MemPlace} (h : DataW.trod enc Tryd.prog w base spare held n 48 [.slice a l c] = some y) : ∃ ls : List Bool, ls.length = l ∧ InS w a ls.length 1 (flat (fun x : Bool => [Value.bool x]) ls) ∧ ∀ v ∈ ls, True :=
  slice_of (fun _ => True) Tryd.underlying48 ocells_bool (by decide) (fun _ => rfl) (fun n cs y hl ht => obool_cells hl ht) h
end
theorem maxat_of_shaped {W : World} (h : W.ShapedOpen Tryd.prog) : MaxAt W :=
  cell_of_shapedOpen_int (g := 0) (t := 3) (zero := #[.int .i64 0]) h (of_decide_eq_true (by kernel_rfl)) (by kernel_rfl) rfl (by kernel_rfl) (by kernel_rfl) Tryd.underlying3
end Go.Proofs.YtaobbedajgkmiaaDoor
