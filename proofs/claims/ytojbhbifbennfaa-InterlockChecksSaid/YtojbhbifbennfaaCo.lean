/- Lists of groups and of points: opened. -/
import Derived.Test.YtojbhbifbennfaaOp
import Derived.Test.YtojbhbifbennfaaCd
namespace Go.Proofs.Ytojbhbifbennfaa
open Go.ChangeShapes Go.WideShapes Go.ChangeAt Go.RowKit Go.Joins Go.Shelf Go.Deep

theorem cells_api_Point : Try.prog.cellsOf 91 = 12 := by kernel_rfl
theorem arr12 {α : Type} {a : Array α} (h : a.size = 12) : ∃ c0 c1 c2 c3 c4 c5 c6 c7 c8 c9 c10 c11, a = #[c0, c1, c2, c3, c4, c5, c6, c7, c8, c9, c10, c11] := by
  obtain ⟨l⟩ := a
  match l, h with
  | [c0, c1, c2, c3, c4, c5, c6, c7, c8, c9, c10, c11], _ => exact ⟨c0, c1, c2, c3, c4, c5, c6, c7, c8, c9, c10, c11, rfl⟩
theorem list12 {α : Type} {l : List α} (h : l.length = 12) : ∃ c0 c1 c2 c3 c4 c5 c6 c7 c8 c9 c10 c11, l = [c0, c1, c2, c3, c4, c5, c6, c7, c8, c9, c10, c11] := by
  match l, h with
  | [c0, c1, c2, c3, c4, c5, c6, c7, c8, c9, c10, c11], _ => exact ⟨c0, c1, c2, c3, c4, c5, c6, c7, c8, c9, c10, c11, rfl⟩
section
variable {H : Type} {enc : TypeId × Value → H} {w : World} {base b0 : Nat} {spare : Nat → Bool} {held : Bool} {r : Reach} {v : Value} {d : DataW H} {p : List MemPlace}
theorem grp_cells {n : Nat} {cs : List Value} {y : DataW H × List MemPlace} (hcs : cs.length = 3) (h : DataW.trod enc Try.prog w base spare held n 33 cs = some y) : ∃ a, cs = grL a ∧ GoodG w a := by
  obtain ⟨c0, c1, c2, rfl⟩ := list3 hcs
  obtain ⟨xs, n, rfl, _, _, hl, hfl⟩ := DataW.trod_struct Try.underlying33 h
  obtain ⟨y0, f0⟩ : ∃ y, DataW.trod enc Try.prog w base spare held n 9 [c0] = some y := by
    have := hfl 0 _ rfl
    have hx : xs[0]? = some (xs[0]'(by rw [hl]; decide)) := List.getElem?_eq_getElem _
    rw [hx] at this
    exact ⟨_, by simpa [cells___string, cells_int, cells_string] using this⟩
  obtain ⟨y1, f1⟩ : ∃ y, DataW.trod enc Try.prog w base spare held n 31 [c1] = some y := by
    have := hfl 1 _ rfl
    have hx : xs[1]? = some (xs[1]'(by rw [hl]; decide)) := List.getElem?_eq_getElem _
    rw [hx] at this
    exact ⟨_, by simpa [cells___string, cells_int, cells_string] using this⟩
  obtain ⟨y2, f2⟩ : ∃ y, DataW.trod enc Try.prog w base spare held n 3 [c2] = some y := by
    have := hfl 2 _ rfl
    have hx : xs[2]? = some (xs[2]'(by rw [hl]; decide)) := List.getElem?_eq_getElem _
    rw [hx] at this
    exact ⟨_, by simpa [cells___string, cells_int, cells_string] using this⟩
  obtain ⟨nm, e0, _, z0⟩ := DataW.trod_string Try.underlying9 f0
  obtain rfl : c0 = .string nm := by simpa using e0
  obtain ⟨sa, sn, sc, e1⟩ := slice_cell Try.underlying31 f1
  subst e1
  obtain ⟨dd, e2, _, _⟩ := DataW.trod_int Try.underlying3 f2
  obtain rfl : c2 = .int .i64 dd := by simpa using e2
  obtain ⟨ss, hsl, hsi, hsz⟩ := open_strs f1
  subst hsl
  exact ⟨⟨nm, sa, sc, ss, dd⟩, rfl, hsi, hsz, z0⟩
theorem pt_cells {n : Nat} {cs : List Value} {y : DataW H × List MemPlace} (hcs : cs.length = 12) (h : DataW.trod enc Try.prog w base spare held n 91 cs = some y) : ∃ a, cs = ptL a ∧ a.nm.size ≤ maxLen := by
  obtain ⟨c0, c1, c2, c3, c4, c5, c6, c7, c8, c9, c10, c11, rfl⟩ := list12 hcs
  obtain ⟨xs, n, rfl, _, _, hl, hfl⟩ := DataW.trod_struct Try.underlying91 h
  obtain ⟨y0, f0⟩ : ∃ y, DataW.trod enc Try.prog w base spare held n 9 [c0] = some y := by
    have := hfl 0 _ rfl
    have hx : xs[0]? = some (xs[0]'(by rw [hl]; decide)) := List.getElem?_eq_getElem _
    rw [hx] at this
    exact ⟨_, by simpa [cells___string, cells_api_Value, cells_int, cells_int64, cells_string] using this⟩
  obtain ⟨y1, f1⟩ : ∃ y, DataW.trod enc Try.prog w base spare held n 3 [c1] = some y := by
    have := hfl 1 _ rfl
    have hx : xs[1]? = some (xs[1]'(by rw [hl]; decide)) := List.getElem?_eq_getElem _
    rw [hx] at this
    exact ⟨_, by simpa [cells___string, cells_api_Value, cells_int, cells_int64, cells_string] using this⟩
  obtain ⟨y2, f2⟩ : ∃ y, DataW.trod enc Try.prog w base spare held n 3 [c2] = some y := by
    have := hfl 2 _ rfl
    have hx : xs[2]? = some (xs[2]'(by rw [hl]; decide)) := List.getElem?_eq_getElem _
    rw [hx] at this
    exact ⟨_, by simpa [cells___string, cells_api_Value, cells_int, cells_int64, cells_string] using this⟩
  obtain ⟨y3, f3⟩ : ∃ y, DataW.trod enc Try.prog w base spare held n 9 [c3] = some y := by
    have := hfl 3 _ rfl
    have hx : xs[3]? = some (xs[3]'(by rw [hl]; decide)) := List.getElem?_eq_getElem _
    rw [hx] at this
    exact ⟨_, by simpa [cells___string, cells_api_Value, cells_int, cells_int64, cells_string] using this⟩
  obtain ⟨y4, f4⟩ : ∃ y, DataW.trod enc Try.prog w base spare held n 2 [c4] = some y := by
    have := hfl 4 _ rfl
    have hx : xs[4]? = some (xs[4]'(by rw [hl]; decide)) := List.getElem?_eq_getElem _
    rw [hx] at this
    exact ⟨_, by simpa [cells___string, cells_api_Value, cells_int, cells_int64, cells_string] using this⟩
  obtain ⟨y5, f5⟩ : ∃ y, DataW.trod enc Try.prog w base spare held n 2 [c5] = some y := by
    have := hfl 5 _ rfl
    have hx : xs[5]? = some (xs[5]'(by rw [hl]; decide)) := List.getElem?_eq_getElem _
    rw [hx] at this
    exact ⟨_, by simpa [cells___string, cells_api_Value, cells_int, cells_int64, cells_string] using this⟩
  obtain ⟨y6, f6⟩ : ∃ y, DataW.trod enc Try.prog w base spare held n 2 [c6] = some y := by
    have := hfl 6 _ rfl
    have hx : xs[6]? = some (xs[6]'(by rw [hl]; decide)) := List.getElem?_eq_getElem _
    rw [hx] at this
    exact ⟨_, by simpa [cells___string, cells_api_Value, cells_int, cells_int64, cells_string] using this⟩
  obtain ⟨y7, f7⟩ : ∃ y, DataW.trod enc Try.prog w base spare held n 31 [c7] = some y := by
    have := hfl 7 _ rfl
    have hx : xs[7]? = some (xs[7]'(by rw [hl]; decide)) := List.getElem?_eq_getElem _
    rw [hx] at this
    exact ⟨_, by simpa [cells___string, cells_api_Value, cells_int, cells_int64, cells_string] using this⟩
  obtain ⟨y8, f8⟩ : ∃ y, DataW.trod enc Try.prog w base spare held n 89 [c8, c9] = some y := by
    have := hfl 8 _ rfl
    have hx : xs[8]? = some (xs[8]'(by rw [hl]; decide)) := List.getElem?_eq_getElem _
    rw [hx] at this
    exact ⟨_, by simpa [cells___string, cells_api_Value, cells_int, cells_int64, cells_string] using this⟩
  obtain ⟨y9, f9⟩ : ∃ y, DataW.trod enc Try.prog w base spare held n 3 [c10] = some y := by
    have := hfl 9 _ rfl
    have hx : xs[9]? = some (xs[9]'(by rw [hl]; decide)) := List.getElem?_eq_getElem _
    rw [hx] at this
    exact ⟨_, by simpa [cells___string, cells_api_Value, cells_int, cells_int64, cells_string] using this⟩
  obtain ⟨y10, f10⟩ : ∃ y, DataW.trod enc Try.prog w base spare held n 3 [c11] = some y := by
    have := hfl 10 _ rfl
    have hx : xs[10]? = some (xs[10]'(by rw [hl]; decide)) := List.getElem?_eq_getElem _
    rw [hx] at this
    exact ⟨_, by simpa [cells___string, cells_api_Value, cells_int, cells_int64, cells_string] using this⟩
  obtain ⟨nm, e0, _, z0⟩ := DataW.trod_string Try.underlying9 f0
  obtain rfl : c0 = .string nm := by simpa using e0
  obtain ⟨k, e1, _, _⟩ := DataW.trod_int Try.underlying3 f1
  obtain rfl : c1 = .int .i64 k := by simpa using e1
  obtain ⟨r, e2, _, _⟩ := DataW.trod_int Try.underlying3 f2
  obtain rfl : c2 = .int .i64 r := by simpa using e2
  obtain ⟨u, e3, _, z3⟩ := DataW.trod_string Try.underlying9 f3
  obtain rfl : c3 = .string u := by simpa using e3
  obtain ⟨lo, e4, _, _⟩ := DataW.trod_int Try.underlying2 f4
  obtain rfl : c4 = .int .i64 lo := by simpa using e4
  obtain ⟨hi, e5, _, _⟩ := DataW.trod_int Try.underlying2 f5
  obtain rfl : c5 = .int .i64 hi := by simpa using e5
  obtain ⟨st, e6, _, _⟩ := DataW.trod_int Try.underlying2 f6
  obtain rfl : c6 = .int .i64 st := by simpa using e6
  obtain ⟨sa, sn, sc, e7⟩ := slice_cell Try.underlying31 f7
  subst e7
  obtain ⟨x, e8, g8⟩ := val_cells rfl f8
  injection e8 with q8_0 e8
  injection e8 with q8_1 e8
  subst q8_0 q8_1
  obtain ⟨on, e9, _, _⟩ := DataW.trod_int Try.underlying3 f9
  obtain rfl : c10 = .int .i64 on := by simpa using e9
  obtain ⟨off, e10, _, _⟩ := DataW.trod_int Try.underlying3 f10
  obtain rfl : c11 = .int .i64 off := by simpa using e10
  exact ⟨⟨nm, k, r, u, lo, hi, st, sa, sn, sc, x.k, x.n, on, off⟩, rfl, z0⟩
theorem open_grs {n : Nat} {a : Option Addr} {l c : Nat} {y : DataW H × List MemPlace} (h : DataW.trod enc Try.prog w base spare held n 23 [.slice a l c] = some y) : ∃ gs : List GrD, gs.length = l ∧ InS w a gs.length 3 (flat grL gs) ∧ ∀ x ∈ gs, GoodG w x :=
  slice_of (fun x => GoodG w x) Try.underlying23 cells_api_Group (by decide) grL_len (fun n cs y hl ht => grp_cells hl ht) h
theorem open_pts {n : Nat} {a : Option Addr} {l c : Nat} {y : DataW H × List MemPlace} (h : DataW.trod enc Try.prog w base spare held n 22 [.slice a l c] = some y) : ∃ ps : List PtD, ps.length = l ∧ InS w a ps.length 12 (flat ptL ps) ∧ ∀ p ∈ ps, p.nm.size ≤ maxLen :=
  slice_of (fun p => p.nm.size ≤ maxLen) Try.underlying22 cells_api_Point (by decide) ptL_len (fun n cs y hl ht => pt_cells hl ht) h
end
end Go.Proofs.Ytojbhbifbennfaa
