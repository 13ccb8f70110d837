/- A group that came in by value, lists of requests, of numbers, of lists of numbers: opened. -/
import Derived.Test.YtojbhbifbennfaaO
import Derived.Test.YtojbhbifbennfaaP
namespace Go.Proofs.Ytojbhbifbennfaa
open Go.ChangeShapes Go.WideShapes Go.ChangeAt Go.RowKit Go.Joins Go.Shelf Go.Deep

theorem cells_int : Try.prog.cellsOf 3 = 1 := by kernel_rfl
theorem cells_int64 : Try.prog.cellsOf 2 = 1 := by kernel_rfl
theorem cells_string : Try.prog.cellsOf 9 = 1 := by kernel_rfl
theorem cells___string : Try.prog.cellsOf 31 = 1 := by kernel_rfl
theorem cells___int : Try.prog.cellsOf 64 = 1 := by kernel_rfl
theorem cells_api_Value : Try.prog.cellsOf 89 = 2 := by kernel_rfl
theorem cells_api_Request : Try.prog.cellsOf 113 = 3 := by kernel_rfl
theorem cells_api_Group : Try.prog.cellsOf 33 = 3 := by kernel_rfl
theorem arr1 {α : Type} {a : Array α} (h : a.size = 1) : ∃ c0, a = #[c0] := by
  obtain ⟨l⟩ := a
  match l, h with
  | [c0], _ => exact ⟨c0, rfl⟩
theorem list1 {α : Type} {l : List α} (h : l.length = 1) : ∃ c0, l = [c0] := by
  match l, h with
  | [c0], _ => exact ⟨c0, rfl⟩
theorem arr2 {α : Type} {a : Array α} (h : a.size = 2) : ∃ c0 c1, a = #[c0, c1] := by
  obtain ⟨l⟩ := a
  match l, h with
  | [c0, c1], _ => exact ⟨c0, c1, rfl⟩
theorem list2 {α : Type} {l : List α} (h : l.length = 2) : ∃ c0 c1, l = [c0, c1] := by
  match l, h with
  | [c0, c1], _ => exact ⟨c0, c1, rfl⟩
theorem arr3 {α : Type} {a : Array α} (h : a.size = 3) : ∃ c0 c1 c2, a = #[c0, c1, c2] := by
  obtain ⟨l⟩ := a
  match l, h with
  | [c0, c1, c2], _ => exact ⟨c0, c1, c2, rfl⟩
theorem list3 {α : Type} {l : List α} (h : l.length = 3) : ∃ c0 c1 c2, l = [c0, c1, c2] := by
  match l, h with
  | [c0, c1, c2], _ => exact ⟨c0, c1, c2, rfl⟩
structure SlD where
  a : Option Addr
  n : Nat
  c : Nat
def slL (x : SlD) : List Value := [.slice x.a x.n x.c]
theorem slL_len (x : SlD) : (slL x).length = 1 := rfl
structure ValD where
  k : Int
  n : Int
def valL (x : ValD) : List Value := [.int .i64 x.k, .int .i64 x.n]
section
variable {H : Type} {enc : TypeId × Value → H} {w : World} {base b0 : Nat} {spare : Nat → Bool} {held : Bool} {r : Reach} {v : Value} {d : DataW H} {p : List MemPlace}
theorem slice_cell {n t e : Nat} {c : Value} {y : DataW H × List MemPlace} (ht : Try.prog.underlying t = some (.slice e)) (h : DataW.trod enc Try.prog w base spare held n t [c] = some y) : ∃ (a : Option Addr) (l m : Nat), c = .slice a l m := by
  rcases open_slice ht h with ⟨hcs, _⟩ | ⟨ad, l, c', m, n, D, Pl, hcs, _⟩
  · exact ⟨none, 0, 0, by simpa using hcs⟩
  · exact ⟨some ad, l, c', by simpa using hcs⟩
theorem val_cells {n : Nat} {cs : List Value} {y : DataW H × List MemPlace} (hcs : cs.length = 2) (h : DataW.trod enc Try.prog w base spare held n 89 cs = some y) : ∃ a, cs = valL a ∧ True := by
  obtain ⟨c0, c1, rfl⟩ := list2 hcs
  obtain ⟨xs, n, rfl, _, _, hl, hfl⟩ := DataW.trod_struct Try.underlying89 h
  obtain ⟨y0, f0⟩ : ∃ y, DataW.trod enc Try.prog w base spare held n 3 [c0] = some y := by
    have := hfl 0 _ rfl
    have hx : xs[0]? = some (xs[0]'(by rw [hl]; decide)) := List.getElem?_eq_getElem _
    rw [hx] at this
    exact ⟨_, by simpa [cells_int, cells_int64] using this⟩
  obtain ⟨y1, f1⟩ : ∃ y, DataW.trod enc Try.prog w base spare held n 2 [c1] = some y := by
    have := hfl 1 _ rfl
    have hx : xs[1]? = some (xs[1]'(by rw [hl]; decide)) := List.getElem?_eq_getElem _
    rw [hx] at this
    exact ⟨_, by simpa [cells_int, cells_int64] using this⟩
  obtain ⟨k, e0, _, _⟩ := DataW.trod_int Try.underlying3 f0
  obtain rfl : c0 = .int .i64 k := by simpa using e0
  obtain ⟨m, e1, _, _⟩ := DataW.trod_int Try.underlying2 f1
  obtain rfl : c1 = .int .i64 m := by simpa using e1
  exact ⟨⟨k, m⟩, rfl, trivial⟩
theorem rq_cells {n : Nat} {cs : List Value} {y : DataW H × List MemPlace} (hcs : cs.length = 3) (h : DataW.trod enc Try.prog w base spare held n 113 cs = some y) : ∃ a, cs = rqL a ∧ True := by
  obtain ⟨c0, c1, c2, rfl⟩ := list3 hcs
  obtain ⟨xs, n, rfl, _, _, hl, hfl⟩ := DataW.trod_struct Try.underlying113 h
  obtain ⟨y0, f0⟩ : ∃ y, DataW.trod enc Try.prog w base spare held n 3 [c0] = some y := by
    have := hfl 0 _ rfl
    have hx : xs[0]? = some (xs[0]'(by rw [hl]; decide)) := List.getElem?_eq_getElem _
    rw [hx] at this
    exact ⟨_, by simpa [cells_api_Value, cells_int] using this⟩
  obtain ⟨y1, f1⟩ : ∃ y, DataW.trod enc Try.prog w base spare held n 89 [c1, c2] = some y := by
    have := hfl 1 _ rfl
    have hx : xs[1]? = some (xs[1]'(by rw [hl]; decide)) := List.getElem?_eq_getElem _
    rw [hx] at this
    exact ⟨_, by simpa [cells_api_Value, cells_int] using this⟩
  obtain ⟨l, e0, _, _⟩ := DataW.trod_int Try.underlying3 f0
  obtain rfl : c0 = .int .i64 l := by simpa using e0
  obtain ⟨x, e1, g1⟩ := val_cells rfl f1
  injection e1 with q1_0 e1
  injection e1 with q1_1 e1
  subst q1_0 q1_1
  exact ⟨⟨l, x.k, x.n⟩, rfl, trivial⟩
theorem int_cells {n : Nat} {cs : List Value} {y : DataW H × List MemPlace} (hcs : cs.length = 1) (h : DataW.trod enc Try.prog w base spare held n 3 cs = some y) : ∃ a : Int, cs = iL a ∧ True := by
  obtain ⟨c0, rfl⟩ := list1 hcs
  obtain ⟨l, e0, _, _⟩ := DataW.trod_int Try.underlying3 h
  exact ⟨l, by simpa [iL] using e0, trivial⟩
theorem str_cells {n : Nat} {cs : List Value} {y : DataW H × List MemPlace} (hcs : cs.length = 1) (h : DataW.trod enc Try.prog w base spare held n 9 cs = some y) : ∃ a : ByteArray, cs = stL a ∧ a.size ≤ maxLen := by
  obtain ⟨c0, rfl⟩ := list1 hcs
  obtain ⟨s, e0, _, hz⟩ := DataW.trod_string Try.underlying9 h
  exact ⟨s, by simpa [stL] using e0, hz⟩
theorem open_ints {n : Nat} {a : Option Addr} {l c : Nat} {y : DataW H × List MemPlace} (h : DataW.trod enc Try.prog w base spare held n 64 [.slice a l c] = some y) : ∃ ls : List Int, ls.length = l ∧ InS w a ls.length 1 (flat iL ls) := by
  obtain ⟨xs, h1, h2, _⟩ := slice_of (fun _ => True) Try.underlying64 cells_int (by decide) iL_len (fun n cs y hl ht => int_cells hl ht) h
  exact ⟨xs, h1, h2⟩
theorem open_strs {n : Nat} {a : Option Addr} {l c : Nat} {y : DataW H × List MemPlace} (h : DataW.trod enc Try.prog w base spare held n 31 [.slice a l c] = some y) : ∃ ss : List ByteArray, ss.length = l ∧ InS w a ss.length 1 (flat stL ss) ∧ ∀ s ∈ ss, s.size ≤ maxLen :=
  slice_of (fun s => s.size ≤ maxLen) Try.underlying31 cells_string (by decide) stL_len (fun n cs y hl ht => str_cells hl ht) h
theorem open_rqs {n : Nat} {a : Option Addr} {l c : Nat} {y : DataW H × List MemPlace} (h : DataW.trod enc Try.prog w base spare held n 34 [.slice a l c] = some y) : ∃ qs : List RqD, qs.length = l ∧ InS w a qs.length 3 (flat rqL qs) := by
  obtain ⟨xs, h1, h2, _⟩ := slice_of (fun _ => True) Try.underlying34 cells_api_Request (by decide) rqL_len (fun n cs y hl ht => rq_cells hl ht) h
  exact ⟨xs, h1, h2⟩
/-- rows of numbers: where each lies, and what it is -/
def RowsIn (w : World) (xs : List SlD) (rs : List (List Int)) : Prop := rs.length = xs.length ∧ ∀ (i : Nat) (x : SlD) (a : List Int), xs[i]? = some x → rs[i]? = some a → a.length = x.n ∧ InS w x.a x.n 1 (flat iL a)
theorem RowsIn.keep {w w' : World} {xs : List SlD} {rs : List (List Int)} (h : RowsIn w xs rs) (hb : Below w.heap.size w w') : RowsIn w' xs rs := ⟨h.1, fun i x a hx ha => ⟨(h.2 i x a hx ha).1, (h.2 i x a hx ha).2.keep hb⟩⟩
theorem rows_of {w : World} : ∀ xs : List SlD, (∀ x ∈ xs, ∃ ls : List Int, ls.length = x.n ∧ InS w x.a x.n 1 (flat iL ls)) → ∃ rs, RowsIn w xs rs
  | [], _ => ⟨[], rfl, fun i x a hx _ => by simp at hx⟩
  | x :: r, h => by
    obtain ⟨rs, h1, h2⟩ := rows_of r (fun y hy => h y (List.mem_cons_of_mem _ hy))
    obtain ⟨ls, h3, h4⟩ := h x List.mem_cons_self
    refine ⟨ls :: rs, by simp [h1], fun i y a hy ha => ?_⟩
    cases i with
    | zero =>
      obtain rfl : x = y := by simpa using hy
      obtain rfl : ls = a := by simpa using ha
      exact ⟨h3, h4⟩
    | succ i => exact h2 i y a (by simpa using hy) (by simpa using ha)
theorem open_rows {n : Nat} {a : Option Addr} {l c : Nat} {y : DataW H × List MemPlace} (h : DataW.trod enc Try.prog w base spare held n 70 [.slice a l c] = some y) : ∃ (xs : List SlD) (rs : List (List Int)), xs.length = l ∧ InS w a xs.length 1 (flat slL xs) ∧ RowsIn w xs rs := by
  obtain ⟨xs, h1, h2, h3⟩ := slice_of (f := slL) (fun x => ∃ ls : List Int, ls.length = x.n ∧ InS w x.a x.n 1 (flat iL ls)) Try.underlying70 cells___int (by decide) slL_len (fun n cs y hl ht => by
    obtain ⟨c0, rfl⟩ := list1 hl
    obtain ⟨b, m, k, rfl⟩ := slice_cell Try.underlying64 ht
    obtain ⟨ls, hl, hi⟩ := open_ints ht
    exact ⟨⟨b, m, k⟩, rfl, ls, hl, by rw [← hl]; exact hi⟩) h
  obtain ⟨rs, hr⟩ := rows_of xs h3
  exact ⟨xs, rs, h1, h2, hr⟩
set_option maxRecDepth 100000 in
theorem open_group (hv : Value.okWide Try.prog w r b0 33 v) (h : DataW.Trod enc Try.prog w base spare held 33 v d p) : ∃ (nm : ByteArray) (pa : Option Addr) (pc : Nat) (dd : Int) (ns : List ByteArray), v = .agg #[.string nm, .slice pa ns.length pc, .int .i64 dd] ∧ nm.size ≤ maxLen ∧ InS w pa ns.length 1 (flat stL ns) ∧ ∀ s ∈ ns, s.size ≤ maxLen := by
  obtain ⟨cs, rfl, hsz⟩ := okWide_struct Try.underlying33 hv
  obtain ⟨c0, c1, c2, rfl⟩ := arr3 (hsz.trans cells_api_Group)
  obtain ⟨fuel, hf0⟩ := h
  have hf : DataW.trod enc Try.prog w base spare held fuel 33 [c0, c1, c2] = some (d, p) := hf0
  clear hf0
  obtain ⟨xs, n, rfl, _, _, hl, hfl⟩ := DataW.trod_struct Try.underlying33 hf
  obtain ⟨y0, f0⟩ : ∃ y, DataW.trod enc Try.prog w base spare held n 9 [c0] = some y := by
    have := hfl 0 _ rfl
    have hx : xs[0]? = some (xs[0]'(by rw [hl]; decide)) := List.getElem?_eq_getElem _
    rw [hx] at this
    exact ⟨_, by simpa [cells_int, cells_string, cells___string] using this⟩
  obtain ⟨y1, f1⟩ : ∃ y, DataW.trod enc Try.prog w base spare held n 31 [c1] = some y := by
    have := hfl 1 _ rfl
    have hx : xs[1]? = some (xs[1]'(by rw [hl]; decide)) := List.getElem?_eq_getElem _
    rw [hx] at this
    exact ⟨_, by simpa [cells_int, cells_string, cells___string] using this⟩
  obtain ⟨y2, f2⟩ : ∃ y, DataW.trod enc Try.prog w base spare held n 3 [c2] = some y := by
    have := hfl 2 _ rfl
    have hx : xs[2]? = some (xs[2]'(by rw [hl]; decide)) := List.getElem?_eq_getElem _
    rw [hx] at this
    exact ⟨_, by simpa [cells_int, cells_string, cells___string] using this⟩
  obtain ⟨nm, e0, _, z0⟩ := DataW.trod_string Try.underlying9 f0
  obtain rfl : c0 = .string nm := by simpa using e0
  obtain ⟨pa, pn, pc, rfl⟩ := slice_cell Try.underlying31 f1
  obtain ⟨ns, rfl, hi, hs⟩ := open_strs f1
  obtain ⟨dd, e2, _, _⟩ := DataW.trod_int Try.underlying3 f2
  obtain rfl : c2 = .int .i64 dd := by simpa using e2
  exact ⟨nm, pa, pc, dd, ns, rfl, z0, hi, hs⟩
end
end Go.Proofs.Ytojbhbifbennfaa
