/- Settings that came in by value, lists of numbers: opened. -/
import Derived.Test.YtepmeacdacnhmaaSl
import Derived.Test.YtepmeacdacnhmaaF
namespace Go.Proofs.Ytepmeacdacnhmaa
open Go.ChangeShapes Go.WideShapes Go.ChangeAt Go.RowKit Go.Joins Go.Shelf Go.Deep

theorem cells_int64 : Try.prog.cellsOf 2 = 1 := by kernel_rfl
theorem cells_bool : Try.prog.cellsOf 4 = 1 := by kernel_rfl
theorem cells_plenumref20_Settings : Try.prog.cellsOf 23 = 5 := by kernel_rfl
theorem arr1 {α : Type} {a : Array α} (h : a.size = 1) : ∃ c0, a = #[c0] := by
  obtain ⟨l⟩ := a
  match l, h with
  | [c0], _ => exact ⟨c0, rfl⟩
theorem list1 {α : Type} {l : List α} (h : l.length = 1) : ∃ c0, l = [c0] := by
  match l, h with
  | [c0], _ => exact ⟨c0, rfl⟩
theorem arr5 {α : Type} {a : Array α} (h : a.size = 5) : ∃ c0 c1 c2 c3 c4, a = #[c0, c1, c2, c3, c4] := by
  obtain ⟨l⟩ := a
  match l, h with
  | [c0, c1, c2, c3, c4], _ => exact ⟨c0, c1, c2, c3, c4, rfl⟩
theorem list5 {α : Type} {l : List α} (h : l.length = 5) : ∃ c0 c1 c2 c3 c4, l = [c0, c1, c2, c3, c4] := by
  match l, h with
  | [c0, c1, c2, c3, c4], _ => exact ⟨c0, c1, c2, c3, c4, rfl⟩
def iL (x : Int) : List Value := [.int .i64 x]
theorem iL_len (x : Int) : (iL x).length = 1 := rfl
structure SetD where
  kp : Int
  ti : Int
  lo : Int
  hi : Int
  rv : Bool
def setL (x : SetD) : List Value := [.int .i64 x.kp, .int .i64 x.ti, .int .i64 x.lo, .int .i64 x.hi, .bool x.rv]
section
variable {H : Type} {enc : TypeId × Value → H} {w : World} {base b0 : Nat} {spare : Nat → Bool} {held : Bool} {r : Reach} {v : Value} {d : DataW H} {p : List MemPlace}
theorem set_cells {n : Nat} {cs : List Value} {y : DataW H × List MemPlace} (hcs : cs.length = 5) (h : DataW.trod enc Try.prog w base spare held n 23 cs = some y) : ∃ a, cs = setL a ∧ True := by
  obtain ⟨c0, c1, c2, c3, c4, rfl⟩ := list5 hcs
  obtain ⟨xs, n, rfl, _, _, hl, hfl⟩ := DataW.trod_struct Try.underlying23 h
  obtain ⟨y0, f0⟩ : ∃ y, DataW.trod enc Try.prog w base spare held n 2 [c0] = some y := by
    have := hfl 0 _ rfl
    have hx : xs[0]? = some (xs[0]'(by rw [hl]; decide)) := List.getElem?_eq_getElem _
    rw [hx] at this
    exact ⟨_, by simpa [cells_bool, cells_int64] using this⟩
  obtain ⟨y1, f1⟩ : ∃ y, DataW.trod enc Try.prog w base spare held n 2 [c1] = some y := by
    have := hfl 1 _ rfl
    have hx : xs[1]? = some (xs[1]'(by rw [hl]; decide)) := List.getElem?_eq_getElem _
    rw [hx] at this
    exact ⟨_, by simpa [cells_bool, cells_int64] using this⟩
  obtain ⟨y2, f2⟩ : ∃ y, DataW.trod enc Try.prog w base spare held n 2 [c2] = some y := by
    have := hfl 2 _ rfl
    have hx : xs[2]? = some (xs[2]'(by rw [hl]; decide)) := List.getElem?_eq_getElem _
    rw [hx] at this
    exact ⟨_, by simpa [cells_bool, cells_int64] using this⟩
  obtain ⟨y3, f3⟩ : ∃ y, DataW.trod enc Try.prog w base spare held n 2 [c3] = some y := by
    have := hfl 3 _ rfl
    have hx : xs[3]? = some (xs[3]'(by rw [hl]; decide)) := List.getElem?_eq_getElem _
    rw [hx] at this
    exact ⟨_, by simpa [cells_bool, cells_int64] using this⟩
  obtain ⟨y4, f4⟩ : ∃ y, DataW.trod enc Try.prog w base spare held n 4 [c4] = some y := by
    have := hfl 4 _ rfl
    have hx : xs[4]? = some (xs[4]'(by rw [hl]; decide)) := List.getElem?_eq_getElem _
    rw [hx] at this
    exact ⟨_, by simpa [cells_bool, cells_int64] using this⟩
  obtain ⟨k, e0, _, _⟩ := DataW.trod_int Try.underlying2 f0
  obtain rfl : c0 = .int .i64 k := by simpa using e0
  obtain ⟨t, e1, _, _⟩ := DataW.trod_int Try.underlying2 f1
  obtain rfl : c1 = .int .i64 t := by simpa using e1
  obtain ⟨l, e2, _, _⟩ := DataW.trod_int Try.underlying2 f2
  obtain rfl : c2 = .int .i64 l := by simpa using e2
  obtain ⟨m, e3, _, _⟩ := DataW.trod_int Try.underlying2 f3
  obtain rfl : c3 = .int .i64 m := by simpa using e3
  obtain ⟨q, e4, _⟩ := DataW.trod_bool Try.underlying4 f4
  obtain rfl : c4 = .bool q := by simpa using e4
  exact ⟨⟨k, t, l, m, q⟩, rfl, trivial⟩
theorem int_cells {n : Nat} {cs : List Value} {y : DataW H × List MemPlace} (hcs : cs.length = 1) (h : DataW.trod enc Try.prog w base spare held n 2 cs = some y) : ∃ a : Int, cs = iL a ∧ True := by
  obtain ⟨c0, rfl⟩ := list1 hcs
  obtain ⟨l, e0, _, _⟩ := DataW.trod_int Try.underlying2 h
  exact ⟨l, by simpa [iL] using e0, trivial⟩
theorem open_ints {n : Nat} {a : Option Addr} {l c : Nat} {y : DataW H × List MemPlace} (h : DataW.trod enc Try.prog w base spare held n 24 [.slice a l c] = some y) : ∃ ls : List Int, ls.length = l ∧ InS w a ls.length 1 (flat iL ls) := by
  obtain ⟨xs, h1, h2, _⟩ := slice_of (fun _ => True) Try.underlying24 cells_int64 (by decide) iL_len (fun n cs y hl ht => int_cells hl ht) h
  exact ⟨xs, h1, h2⟩
theorem open_set (hv : Value.okWide Try.prog w r b0 23 v) (h : DataW.Trod enc Try.prog w base spare held 23 v d p) : ∃ (kp ti lo hi : Int) (rv : Bool), v = .agg #[.int .i64 kp, .int .i64 ti, .int .i64 lo, .int .i64 hi, .bool rv] := by
  obtain ⟨cs, rfl, hsz⟩ := okWide_struct Try.underlying23 hv
  obtain ⟨c0, c1, c2, c3, c4, rfl⟩ := arr5 (hsz.trans cells_plenumref20_Settings)
  obtain ⟨fuel, hf0⟩ := h
  have hf : DataW.trod enc Try.prog w base spare held fuel 23 [c0, c1, c2, c3, c4] = some (d, p) := hf0
  obtain ⟨⟨kp, ti, lo, hi, rv⟩, e, _⟩ := set_cells rfl hf
  unfold setL at e
  injection e with e0 e
  injection e with e1 e
  injection e with e2 e
  injection e with e3 e
  injection e with e4 e
  subst e0 e1 e2 e3 e4
  exact ⟨kp, ti, lo, hi, rv, rfl⟩
end
end Go.Proofs.Ytepmeacdacnhmaa
