/- Slices of named numbers that came in: opened. -/
import Derived.Test.YtaobbedajgkmiaaDoorOs
import Derived.Test.YtaobbedajgkmiaaDoorBh
namespace Go.Proofs.YtaobbedajgkmiaaDoor
open Go.ChangeShapes Go.WideShapes Go.ChangeAt Go.RowKit Go.Joins Go.Shelf Go.Deep

theorem qcells_string : Tryd.prog.cellsOf 9 = 1 := by kernel_rfl
theorem qcells_prm : Tryd.prog.cellsOf 63 = 2 := by kernel_rfl
section
variable {H : Type} {enc : TypeId × Value → H} {w : World} {base b0 : Nat} {spare : Nat → Bool} {held : Bool} {r : Reach} {v : Value} {d : DataW H} {p : List MemPlace}
theorem prm_cells {n : Nat} {cs : List Value} {y : DataW H × List MemPlace} (hcs : cs.length = 2) (h : DataW.trod enc Tryd.prog w base spare held n 63 cs = some y) : ∃ a, cs = prmL a ∧ (a.nm.size ≤ maxLen ∧ (Lit.int .i64 a.v).wf = true) := by
  obtain ⟨c0, c1, rfl⟩ := olist2 hcs
  obtain ⟨xs, n, rfl, _, _, hl, hfl⟩ := DataW.trod_struct Tryd.underlying63 h
  obtain ⟨y0, f0⟩ : ∃ y, DataW.trod enc Tryd.prog w base spare held n 9 [c0] = some y := by
    have := hfl 0 _ rfl
    have hx : xs[0]? = some (xs[0]'(by rw [hl]; decide)) := List.getElem?_eq_getElem _
    rw [hx] at this
    exact ⟨_, by simpa [qcells_string, ocells_int64] using this⟩
  obtain ⟨y1, f1⟩ : ∃ y, DataW.trod enc Tryd.prog w base spare held n 2 [c1] = some y := by
    have := hfl 1 _ rfl
    have hx : xs[1]? = some (xs[1]'(by rw [hl]; decide)) := List.getElem?_eq_getElem _
    rw [hx] at this
    exact ⟨_, by simpa [qcells_string, ocells_int64] using this⟩
  obtain ⟨s, e0, _, z0⟩ := DataW.trod_string Tryd.underlying9 f0
  obtain rfl : c0 = .string s := by simpa using e0
  obtain ⟨t, e1, _, wf⟩ := DataW.trod_int Tryd.underlying2 f1
  obtain rfl : c1 = .int .i64 t := by simpa using e1
  exact ⟨⟨s, t⟩, rfl, by first | exact z0 | simp_all, by first | exact wf | simp_all⟩
theorem open_prms {n : Nat} {a : Option Addr} {l c : Nat} {y : DataW H × List MemPlace} (h : DataW.trod enc Tryd.prog w base spare held n 38 [.slice a l c] = some y) : ∃ ls : List PrmD, ls.length = l ∧ InS w a ls.length 2 (flat prmL ls) ∧ ∀ v ∈ ls, v.nm.size ≤ maxLen ∧ (Lit.int .i64 v.v).wf = true :=
  slice_of (fun v => v.nm.size ≤ maxLen ∧ (Lit.int .i64 v.v).wf = true) Tryd.underlying38 qcells_prm (by decide) prmL_len (fun n cs y hl ht => prm_cells hl ht) h
end
end Go.Proofs.YtaobbedajgkmiaaDoor
