/- A slice of int that came in: opened. -/
import Derived.Test.YthaigchklogjlaaDoorOs
namespace Go.Proofs.YthaigchklogjlaaDoor
open Go.ChangeShapes Go.WideShapes Go.ChangeAt Go.RowKit Go.Joins Go.Shelf Go.Deep

section
variable {H : Type} {enc : TypeId × Value → H} {w : World} {base b0 : Nat} {spare : Nat → Bool} {held : Bool} {r : Reach} {v : Value} {d : DataW H} {p : List MemPlace}
theorem onum_cells {n : Nat} {cs : List Value} {y : DataW H × List MemPlace} (hcs : cs.length = 1) (h : DataW.trod enc Tryd.prog w base spare held n 3 cs = some y) : ∃ a : Int, cs = (fun x : Int => [Value.int .i64 x]) a ∧ (Lit.int .i64 a).wf = true := by
  obtain ⟨c0, rfl⟩ := olist1 hcs
  obtain ⟨l, e0, _, wf⟩ := DataW.trod_int Tryd.underlying3 h
  exact ⟨l, by simpa using e0, by first | exact wf | simp_all⟩
theorem open_nums {n : Nat} {a : Option Addr} {l c : Nat} {y : DataW H × List MemPlace} (h : DataW.trod enc Tryd.prog w base spare held n 48 [.slice a l c] = some y) : ∃ ls : List Int, ls.length = l ∧ InS w a ls.length 1 (flat (fun x : Int => [Value.int .i64 x]) ls) ∧ ∀ v ∈ ls, (Lit.int .i64 v).wf = true :=
  slice_of (fun v => (Lit.int .i64 v).wf = true) Tryd.underlying48 ocells_int (by decide) (fun _ => rfl) (fun n cs y hl ht => onum_cells hl ht) h
end
end Go.Proofs.YthaigchklogjlaaDoor
