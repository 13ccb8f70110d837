/- The contract of units.table. -/
import Derived.Test.YtlahoohgbfjciaaGreatDoorUd
import Derived.Laws.Tables
import Derived.Laws.Rows
namespace Go.Proofs.YtlahoohgbfjciaaGreatDoor
open Go.RowKit Go.Shelf

/-- the rows of the table -/
def rowsL : List (ByteArray × UnitD) := [(⟨#[72, 122]⟩, ⟨0, 0, -1, 0, 1, 1, 0⟩), (⟨#[74]⟩, ⟨2, 1, -2, 0, 1000, 1, 0⟩), (⟨#[75]⟩, ⟨0, 0, 0, 1, 1, 1, 0⟩), (⟨#[77, 74]⟩, ⟨2, 1, -2, 0, 1000000000, 1, 0⟩), (⟨#[77, 87]⟩, ⟨2, 1, -3, 0, 1000000000, 1, 0⟩), (⟨#[78]⟩, ⟨1, 1, -2, 0, 1000, 1, 0⟩), (⟨#[80, 97]⟩, ⟨-1, 1, -2, 0, 1000, 1, 0⟩), (⟨#[87]⟩, ⟨2, 1, -3, 0, 1000, 1, 0⟩), (⟨#[98, 97, 114]⟩, ⟨-1, 1, -2, 0, 100000000, 1, 0⟩), (⟨#[100]⟩, ⟨0, 0, 1, 0, 86400, 1, 0⟩), (⟨#[100, 101, 103, 67]⟩, ⟨0, 0, 0, 1, 1, 1, 273150⟩), (⟨#[103]⟩, ⟨0, 1, 0, 0, 1, 1, 0⟩), (⟨#[104]⟩, ⟨0, 0, 1, 0, 3600, 1, 0⟩), (⟨#[107, 74]⟩, ⟨2, 1, -2, 0, 1000000, 1, 0⟩), (⟨#[107, 80, 97]⟩, ⟨-1, 1, -2, 0, 1000000, 1, 0⟩), (⟨#[107, 87]⟩, ⟨2, 1, -3, 0, 1000000, 1, 0⟩), (⟨#[107, 87, 104]⟩, ⟨2, 1, -2, 0, 3600000000, 1, 0⟩), (⟨#[107, 103]⟩, ⟨0, 1, 0, 0, 1000, 1, 0⟩), (⟨#[107, 109]⟩, ⟨1, 0, 0, 0, 1000, 1, 0⟩), (⟨#[108]⟩, ⟨3, 0, 0, 0, 1, 1000, 0⟩), (⟨#[109]⟩, ⟨1, 0, 0, 0, 1, 1, 0⟩), (⟨#[109, 105, 110]⟩, ⟨0, 0, 1, 0, 60, 1, 0⟩), (⟨#[109, 109]⟩, ⟨1, 0, 0, 0, 1, 1000, 0⟩), (⟨#[111, 110, 101]⟩, ⟨0, 0, 0, 0, 1, 1, 0⟩), (⟨#[112, 99, 116]⟩, ⟨0, 0, 0, 0, 1, 100, 0⟩), (⟨#[112, 112, 109]⟩, ⟨0, 0, 0, 0, 1, 1000000, 0⟩), (⟨#[114, 112, 109]⟩, ⟨0, 0, -1, 0, 1, 60, 0⟩), (⟨#[115]⟩, ⟨0, 0, 1, 0, 1, 1, 0⟩)]
def tableC : List Value := [.string ⟨#[72, 122]⟩, .int .i64 0, .int .i64 0, .int .i64 (-1), .int .i64 0, .int .i64 1, .int .i64 1, .int .i64 0, .string ⟨#[74]⟩, .int .i64 2, .int .i64 1, .int .i64 (-2), .int .i64 0, .int .i64 1000, .int .i64 1, .int .i64 0, .string ⟨#[75]⟩, .int .i64 0, .int .i64 0, .int .i64 0, .int .i64 1, .int .i64 1, .int .i64 1, .int .i64 0, .string ⟨#[77, 74]⟩, .int .i64 2, .int .i64 1, .int .i64 (-2), .int .i64 0, .int .i64 1000000000, .int .i64 1, .int .i64 0, .string ⟨#[77, 87]⟩, .int .i64 2, .int .i64 1, .int .i64 (-3), .int .i64 0, .int .i64 1000000000, .int .i64 1, .int .i64 0, .string ⟨#[78]⟩, .int .i64 1, .int .i64 1, .int .i64 (-2), .int .i64 0, .int .i64 1000, .int .i64 1, .int .i64 0, .string ⟨#[80, 97]⟩, .int .i64 (-1), .int .i64 1, .int .i64 (-2), .int .i64 0, .int .i64 1000, .int .i64 1, .int .i64 0, .string ⟨#[87]⟩, .int .i64 2, .int .i64 1, .int .i64 (-3), .int .i64 0, .int .i64 1000, .int .i64 1, .int .i64 0, .string ⟨#[98, 97, 114]⟩, .int .i64 (-1), .int .i64 1, .int .i64 (-2), .int .i64 0, .int .i64 100000000, .int .i64 1, .int .i64 0, .string ⟨#[100]⟩, .int .i64 0, .int .i64 0, .int .i64 1, .int .i64 0, .int .i64 86400, .int .i64 1, .int .i64 0, .string ⟨#[100, 101, 103, 67]⟩, .int .i64 0, .int .i64 0, .int .i64 0, .int .i64 1, .int .i64 1, .int .i64 1, .int .i64 273150, .string ⟨#[103]⟩, .int .i64 0, .int .i64 1, .int .i64 0, .int .i64 0, .int .i64 1, .int .i64 1, .int .i64 0, .string ⟨#[104]⟩, .int .i64 0, .int .i64 0, .int .i64 1, .int .i64 0, .int .i64 3600, .int .i64 1, .int .i64 0, .string ⟨#[107, 74]⟩, .int .i64 2, .int .i64 1, .int .i64 (-2), .int .i64 0, .int .i64 1000000, .int .i64 1, .int .i64 0, .string ⟨#[107, 80, 97]⟩, .int .i64 (-1), .int .i64 1, .int .i64 (-2), .int .i64 0, .int .i64 1000000, .int .i64 1, .int .i64 0, .string ⟨#[107, 87]⟩, .int .i64 2, .int .i64 1, .int .i64 (-3), .int .i64 0, .int .i64 1000000, .int .i64 1, .int .i64 0, .string ⟨#[107, 87, 104]⟩, .int .i64 2, .int .i64 1, .int .i64 (-2), .int .i64 0, .int .i64 3600000000, .int .i64 1, .int .i64 0, .string ⟨#[107, 103]⟩, .int .i64 0, .int .i64 1, .int .i64 0, .int .i64 0, .int .i64 1000, .int .i64 1, .int .i64 0, .string ⟨#[107, 109]⟩, .int .i64 1, .int .i64 0, .int .i64 0, .int .i64 0, .int .i64 1000, .int .i64 1, .int .i64 0, .string ⟨#[108]⟩, .int .i64 3, .int .i64 0, .int .i64 0, .int .i64 0, .int .i64 1, .int .i64 1000, .int .i64 0, .string ⟨#[109]⟩, .int .i64 1, .int .i64 0, .int .i64 0, .int .i64 0, .int .i64 1, .int .i64 1, .int .i64 0, .string ⟨#[109, 105, 110]⟩, .int .i64 0, .int .i64 0, .int .i64 1, .int .i64 0, .int .i64 60, .int .i64 1, .int .i64 0, .string ⟨#[109, 109]⟩, .int .i64 1, .int .i64 0, .int .i64 0, .int .i64 0, .int .i64 1, .int .i64 1000, .int .i64 0, .string ⟨#[111, 110, 101]⟩, .int .i64 0, .int .i64 0, .int .i64 0, .int .i64 0, .int .i64 1, .int .i64 1, .int .i64 0, .string ⟨#[112, 99, 116]⟩, .int .i64 0, .int .i64 0, .int .i64 0, .int .i64 0, .int .i64 1, .int .i64 100, .int .i64 0, .string ⟨#[112, 112, 109]⟩, .int .i64 0, .int .i64 0, .int .i64 0, .int .i64 0, .int .i64 1, .int .i64 1000000, .int .i64 0, .string ⟨#[114, 112, 109]⟩, .int .i64 0, .int .i64 0, .int .i64 (-1), .int .i64 0, .int .i64 1, .int .i64 60, .int .i64 0, .string ⟨#[115]⟩, .int .i64 0, .int .i64 0, .int .i64 1, .int .i64 0, .int .i64 1, .int .i64 1, .int .i64 0]
def tableV : Value := .agg tableC.toArray
def rowV (r : ByteArray × UnitD) : Value := .agg #[.string r.1, .int .i64 r.2.e0, .int .i64 r.2.e1, .int .i64 r.2.e2, .int .i64 r.2.e3, .int .i64 r.2.n, .int .i64 r.2.d, .int .i64 r.2.o]
theorem store_tab (b : Nat) (L T : List Value) (W : World) (cur : Array Value) (t : TypeId) (hL : L = T) (hg : W.heap[b]? = some (.cells cur t (0, 0))) (hs : T.length = cur.size) (h1 : ∀ v ∈ T, v.oneCell' = true) :
    Sem.run Tryz.prog (storeCells ⟨b, 0, none⟩ L) W = .ok () (W.setRow b T.toArray) := by
  subst hL
  have := run_storeCells_from (P := Tryz.prog) b t L 0 cur W hg (by omega) h1
  rw [this]
  simp
theorem below_setRow {w W : World} {B b : Nat} {cs : Array Value} (h : Below B w W) (hb : B ≤ b) : Below B w (W.setRow b cs) :=
  h.trans (by refine ⟨rfl, rfl, rfl, ?_, ?_⟩ <;> first | (rw [setRow_size]; exact Nat.le_refl _) | (intro k hk; exact setRow_other _ _ _ _ (by omega)))
theorem tab_one : ∀ v ∈ tableC, v.oneCell' = true := fun v hv => List.all_eq_true.1 (show tableC.all (·.oneCell') = true by kernel_rfl) v hv
set_option maxRecDepth 100000 in
set_option maxHeartbeats 8000000 in
theorem table_any (w : World) : Calls Tryz.prog 48 #[] w fun e w' => e = .returned tableV ∧ Below w.heap.size w w' := by
  go_enter Tryz.func48, Tryz.ntmps48
  go_wp2_with fail
  rw [store_tab w.heap.size _ tableC _ Tryz.zeroCells85 85 ?tabA ?tabB ?tabC ?tabD]
  case tabA => kernel_rfl
  case tabB =>
    iterate 11 (rw [heap_alloc_old _ _ (by simp only [World.size_alloc]; omega)])
    exact heap_alloc_new _ _
  case tabC => kernel_rfl
  case tabD => exact tab_one
  have hB : Below w.heap.size w (((((((((((((w.alloc (Obj.cells Tryz.zeroCells85 85)).alloc (Obj.cells #[.int .i64 0, .int .i64 0, .int .i64 0, .int .i64 0] 22)).alloc (Obj.cells #[.int .i64 1, .int .i64 0, .int .i64 0, .int .i64 0] 22)).alloc (Obj.cells #[.int .i64 3, .int .i64 0, .int .i64 0, .int .i64 0] 22)).alloc (Obj.cells #[.int .i64 0, .int .i64 1, .int .i64 0, .int .i64 0] 22)).alloc (Obj.cells #[.int .i64 0, .int .i64 0, .int .i64 1, .int .i64 0] 22)).alloc (Obj.cells #[.int .i64 0, .int .i64 0, .int .i64 0, .int .i64 1] 22)).alloc (Obj.cells #[.int .i64 0, .int .i64 0, .int .i64 (-1), .int .i64 0] 22)).alloc (Obj.cells #[.int .i64 1, .int .i64 1, .int .i64 (-2), .int .i64 0] 22)).alloc (Obj.cells #[.int .i64 (-1), .int .i64 1, .int .i64 (-2), .int .i64 0] 22)).alloc (Obj.cells #[.int .i64 2, .int .i64 1, .int .i64 (-2), .int .i64 0] 22)).alloc (Obj.cells #[.int .i64 2, .int .i64 1, .int .i64 (-3), .int .i64 0] 22)).setRow w.heap.size tableC.toArray) := by
    refine below_setRow ?_ (Nat.le_refl _)
    iterate 11 (refine Below.alloc ?_ (by simp only [World.size_alloc]; omega) _)
    exact (Below.refl _ _).alloc (Nat.le_refl _) _
  have hG : (((((((((((((w.alloc (Obj.cells Tryz.zeroCells85 85)).alloc (Obj.cells #[.int .i64 0, .int .i64 0, .int .i64 0, .int .i64 0] 22)).alloc (Obj.cells #[.int .i64 1, .int .i64 0, .int .i64 0, .int .i64 0] 22)).alloc (Obj.cells #[.int .i64 3, .int .i64 0, .int .i64 0, .int .i64 0] 22)).alloc (Obj.cells #[.int .i64 0, .int .i64 1, .int .i64 0, .int .i64 0] 22)).alloc (Obj.cells #[.int .i64 0, .int .i64 0, .int .i64 1, .int .i64 0] 22)).alloc (Obj.cells #[.int .i64 0, .int .i64 0, .int .i64 0, .int .i64 1] 22)).alloc (Obj.cells #[.int .i64 0, .int .i64 0, .int .i64 (-1), .int .i64 0] 22)).alloc (Obj.cells #[.int .i64 1, .int .i64 1, .int .i64 (-2), .int .i64 0] 22)).alloc (Obj.cells #[.int .i64 (-1), .int .i64 1, .int .i64 (-2), .int .i64 0] 22)).alloc (Obj.cells #[.int .i64 2, .int .i64 1, .int .i64 (-2), .int .i64 0] 22)).alloc (Obj.cells #[.int .i64 2, .int .i64 1, .int .i64 (-3), .int .i64 0] 22)).setRow w.heap.size tableC.toArray).heap[w.heap.size]? = some (.cells tableC.toArray 85 (0, 0)) := by
    refine setRow_heap _ _ _ _ _ _ (show _ = some (Obj.cells Tryz.zeroCells85 85 (0, 0)) from ?_)
    iterate 11 (rw [heap_alloc_old _ _ (by simp only [World.size_alloc]; omega)])
    exact heap_alloc_new _ _
  obtain ⟨WF, hWF⟩ : ∃ x, x = ((((((((((((w.alloc (Obj.cells Tryz.zeroCells85 85)).alloc (Obj.cells #[.int .i64 0, .int .i64 0, .int .i64 0, .int .i64 0] 22)).alloc (Obj.cells #[.int .i64 1, .int .i64 0, .int .i64 0, .int .i64 0] 22)).alloc (Obj.cells #[.int .i64 3, .int .i64 0, .int .i64 0, .int .i64 0] 22)).alloc (Obj.cells #[.int .i64 0, .int .i64 1, .int .i64 0, .int .i64 0] 22)).alloc (Obj.cells #[.int .i64 0, .int .i64 0, .int .i64 1, .int .i64 0] 22)).alloc (Obj.cells #[.int .i64 0, .int .i64 0, .int .i64 0, .int .i64 1] 22)).alloc (Obj.cells #[.int .i64 0, .int .i64 0, .int .i64 (-1), .int .i64 0] 22)).alloc (Obj.cells #[.int .i64 1, .int .i64 1, .int .i64 (-2), .int .i64 0] 22)).alloc (Obj.cells #[.int .i64 (-1), .int .i64 1, .int .i64 (-2), .int .i64 0] 22)).alloc (Obj.cells #[.int .i64 2, .int .i64 1, .int .i64 (-2), .int .i64 0] 22)).alloc (Obj.cells #[.int .i64 2, .int .i64 1, .int .i64 (-3), .int .i64 0] 22)).setRow w.heap.size tableC.toArray := ⟨_, rfl⟩
  rw [← hWF] at hB hG ⊢
  have HB := Lib.hid hB
  have HG := Lib.hid hG
  clear hB hG hWF
  simp only [Result.andThen_ok, Oper.upon]
  go_wp2_with fail
  refine bodyPost_ret (v := tableV) ?_ rfl ⟨rfl, HB.out⟩
  exact results_cell_row Tryz.results48 _ _ w.heap.size 85 tableC.toArray (0, 0) _ rfl HG.out Tryz.underlying85 rfl (by kernel_rfl)
end Go.Proofs.YtlahoohgbfjciaaGreatDoor
