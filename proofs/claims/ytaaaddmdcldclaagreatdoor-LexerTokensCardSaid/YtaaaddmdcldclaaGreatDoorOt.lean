/- A token that came in by value, a list of tokens: opened. -/
import Derived.Test.YtaaaddmdcldclaaGreatDoorNr
import Derived.Lib.SmallJoins
import Derived.OpenShut
namespace Go.Proofs.YtaaaddmdcldclaaGreatDoor
open Go.ChangeShapes Go.WideShapes Go.ChangeAt Go.RowKit Go.Joins Go.Shelf Go.Deep
set_option linter.unusedVariables false
set_option linter.unusedSimpArgs false

theorem cells_int : Tryz.prog.cellsOf 3 = 1 := by kernel_rfl
theorem cells_int64 : Tryz.prog.cellsOf 2 = 1 := by kernel_rfl
theorem cells_string : Tryz.prog.cellsOf 9 = 1 := by kernel_rfl
theorem cells_api_Token : Tryz.prog.cellsOf 40 = 4 := by kernel_rfl
theorem arr4 {α : Type} {a : Array α} (h : a.size = 4) : ∃ c0 c1 c2 c3, a = #[c0, c1, c2, c3] := by
  obtain ⟨l⟩ := a
  match l, h with
  | [c0, c1, c2, c3], _ => exact ⟨c0, c1, c2, c3, rfl⟩
theorem list4 {α : Type} {l : List α} (h : l.length = 4) : ∃ c0 c1 c2 c3, l = [c0, c1, c2, c3] := by
  match l, h with
  | [c0, c1, c2, c3], _ => exact ⟨c0, c1, c2, c3, rfl⟩
section
variable {H : Type} {enc : TypeId × Value → H} {w : World} {base b0 : Nat} {spare : Nat → Bool} {held : Bool} {r : Reach} {v : Value} {d : DataW H} {p : List MemPlace}
theorem tok_cells {n : Nat} {cs : List Value} {y : DataW H × List MemPlace} (hcs : cs.length = 4) (h : DataW.trod enc Tryz.prog w base spare held n 40 cs = some y) : ∃ a, cs = tkC a ∧ True := by
  obtain ⟨c0, c1, c2, c3, rfl⟩ := list4 hcs
  obtain ⟨xs, n, rfl, _, _, hl, hfl⟩ := DataW.trod_struct Tryz.underlying40 h
  obtain ⟨y0, f0⟩ : ∃ y, DataW.trod enc Tryz.prog w base spare held n 3 [c0] = some y := by
    have := hfl 0 _ rfl
    have hx : xs[0]? = some (xs[0]'(by rw [hl]; decide)) := List.getElem?_eq_getElem _
    rw [hx] at this
    exact ⟨_, by simpa [cells_int, cells_int64, cells_string] using this⟩
  obtain ⟨y1, f1⟩ : ∃ y, DataW.trod enc Tryz.prog w base spare held n 9 [c1] = some y := by
    have := hfl 1 _ rfl
    have hx : xs[1]? = some (xs[1]'(by rw [hl]; decide)) := List.getElem?_eq_getElem _
    rw [hx] at this
    exact ⟨_, by simpa [cells_int, cells_int64, cells_string] using this⟩
  obtain ⟨y2, f2⟩ : ∃ y, DataW.trod enc Tryz.prog w base spare held n 2 [c2] = some y := by
    have := hfl 2 _ rfl
    have hx : xs[2]? = some (xs[2]'(by rw [hl]; decide)) := List.getElem?_eq_getElem _
    rw [hx] at this
    exact ⟨_, by simpa [cells_int, cells_int64, cells_string] using this⟩
  obtain ⟨y3, f3⟩ : ∃ y, DataW.trod enc Tryz.prog w base spare held n 3 [c3] = some y := by
    have := hfl 3 _ rfl
    have hx : xs[3]? = some (xs[3]'(by rw [hl]; decide)) := List.getElem?_eq_getElem _
    rw [hx] at this
    exact ⟨_, by simpa [cells_int, cells_int64, cells_string] using this⟩
  obtain ⟨k, e0, _, _⟩ := DataW.trod_int Tryz.underlying3 f0
  obtain rfl : c0 = .int .i64 k := by simpa using e0
  obtain ⟨t, e1, _, z1⟩ := DataW.trod_string Tryz.underlying9 f1
  obtain rfl : c1 = .string t := by simpa using e1
  obtain ⟨m, e2, _, _⟩ := DataW.trod_int Tryz.underlying2 f2
  obtain rfl : c2 = .int .i64 m := by simpa using e2
  obtain ⟨a, e3, _, _⟩ := DataW.trod_int Tryz.underlying3 f3
  obtain rfl : c3 = .int .i64 a := by simpa using e3
  exact ⟨⟨k, t, m, a⟩, rfl, trivial⟩
theorem open_toks {n : Nat} {a : Option Addr} {l c : Nat} {y : DataW H × List MemPlace} (h : DataW.trod enc Tryz.prog w base spare held n 23 [.slice a l c] = some y) : ∃ ls : List TkF, ls.length = l ∧ InS w a ls.length 4 (flat tkC ls) := by
  obtain ⟨xs, h1, h2, _⟩ := slice_of (fun _ => True) Tryz.underlying23 cells_api_Token (by decide) tkC_len (fun n cs y hl ht => tok_cells hl ht) h
  exact ⟨xs, h1, h2⟩
set_option maxRecDepth 100000 in
theorem open_tok (hv : Value.okWide Tryz.prog w r b0 40 v) (h : DataW.Trod enc Tryz.prog w base spare held 40 v d p) : ∃ (k : Int) (t : ByteArray) (n a : Int), v = .agg #[.int .i64 k, .string t, .int .i64 n, .int .i64 a] := by
  obtain ⟨cs, rfl, hsz⟩ := okWide_struct Tryz.underlying40 hv
  obtain ⟨c0, c1, c2, c3, rfl⟩ := arr4 (hsz.trans cells_api_Token)
  obtain ⟨fuel, hf0⟩ := h
  have hf : DataW.trod enc Tryz.prog w base spare held fuel 40 [c0, c1, c2, c3] = some (d, p) := hf0
  obtain ⟨⟨k, t, n, a⟩, e, _⟩ := tok_cells rfl hf
  unfold tkC at e
  injection e with e0 e
  injection e with e1 e
  injection e with e2 e
  injection e with e3 e
  subst e0 e1 e2 e3
  exact ⟨k, t, n, a, rfl⟩
end
end Go.Proofs.YtaaaddmdcldclaaGreatDoor
