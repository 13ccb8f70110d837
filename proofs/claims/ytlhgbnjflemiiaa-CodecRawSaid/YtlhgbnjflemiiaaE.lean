/- Contracts of the Writer's methods. -/
import Derived.Test.YtlhgbnjflemiiaaD
import Derived.Test.YtlhgbnjflemiiaaW
import Derived.Deep.QuietTactic
namespace Go.Proofs.Ytlhgbnjflemiiaa
open Go.RowKit

/-- a Writer of the call's own at block A has written bs -/
structure Wr (B : Nat) (w : World) (A : Nat) (bs : List UInt8) : Prop where
  lo : B ≤ A
  hi : A < w.heap.size
  fz : w.frozen? ⟨A, 0, none⟩ = false
  val : ∃ ao c, w.cell? ⟨A, 0, none⟩ = some (.slice ao bs.length c) ∧ Own B A w (.slice ao bs.length c) bs

theorem Wr.stored {B A : Nat} {w w1 : World} {ao : Option Addr} {c n : Nat} {bs nb : List UInt8} (h : Wr B w A bs) (hn : n = (bs ++ nb).length) (hown : Own B A w1 (.slice ao n c) (bs ++ nb))
    (hc : w1.cell? ⟨A, 0, none⟩ = w.cell? ⟨A, 0, none⟩) (hf : w1.frozen? ⟨A, 0, none⟩ = w.frozen? ⟨A, 0, none⟩) (hs : w.heap.size ≤ w1.heap.size) : Wr B (w1.setCell ⟨A, 0, none⟩ (.slice ao n c)) A (bs ++ nb) := by
  subst hn
  obtain ⟨ao0, c0, hv, _⟩ := h.val
  refine ⟨h.lo, ?_, ?_, ao, c, World.cell?_setCell_same w1 _ _ (hc.trans hv), hown.kept ?_ fun g _ hg _ => ?_⟩
  · have := h.hi; simp [World.setCell]; omega
  · rw [World.frozen?_setCell, hf]; exact h.fz
  · simp [World.setCell]
  · exact Below.heap_setCell _ _ _ _ hg

/-- block k holds what the Writer at A has written -/
def owns (A : Nat) (w : World) (k : Nat) : Prop := ∃ x, w.cell? ⟨A, 0, none⟩ = some x ∧ x.ownBlock = some k
/-- a step of the Writer at A: every other block stays -/
structure Keep (A : Nat) (w w' : World) : Prop where
  size : w.heap.size ≤ w'.heap.size
  blk : ∀ k, k < w.heap.size → k ≠ A → ¬ owns A w k → w'.heap[k]? = w.heap[k]?
  own : ∀ k, k < w.heap.size → ¬ owns A w k → ¬ owns A w' k
theorem Keep.refl (A : Nat) (w : World) : Keep A w w := ⟨Nat.le_refl _, fun _ _ _ _ => rfl, fun _ _ h => h⟩
theorem Keep.trans {A : Nat} {a b c : World} (h : Keep A a b) (k : Keep A b c) : Keep A a c :=
  ⟨Nat.le_trans h.size k.size, fun i hi hA ho => (k.blk i (Nat.lt_of_lt_of_le hi h.size) hA (h.own i hi ho)).trans (h.blk i hi hA ho), fun i hi ho => k.own i (Nat.lt_of_lt_of_le hi h.size) (h.own i hi ho)⟩
theorem Keep.stored {B A : Nat} {w w0 w1 : World} {v v' y : Value} {bs : List UInt8} (h0 : Below w.heap.size w w0) (_hhi : A < w.heap.size) (hv : w.cell? ⟨A, 0, none⟩ = some v) (happ : App B A w0 w1 v v' bs) (hy : w1.cell? ⟨A, 0, none⟩ = some y) :
    Keep A w (w1.setCell ⟨A, 0, none⟩ v') := by
  have hno : ∀ k, ¬ owns A w k → v.ownBlock ≠ some k := fun k h e => h ⟨v, hv, e⟩
  refine ⟨?_, fun k hk hA ho => ?_, fun k hk ho hx => ?_⟩
  · have := h0.size; have := happ.size; simp [World.setCell]; omega
  · rw [Below.heap_setCell _ _ _ _ hA, happ.block k (Nat.lt_of_lt_of_le hk h0.size) (hno k ho), h0.block k hk]
  · obtain ⟨x, hx1, hx2⟩ := hx
    rw [World.cell?_setCell_same w1 _ _ hy] at hx1
    injection hx1 with hx1
    subst hx1
    exact happ.fresh k (Nat.lt_of_lt_of_le hk h0.size) (hno k ho) hx2
/-- a cell that is neither the Writer's nor its row's stays -/
theorem Keep.cell {A : Nat} {w w' : World} (h : Keep A w w') {k o : Nat} (hk : k < w.heap.size) (hA : k ≠ A) (ho : ¬ owns A w k) : w'.cell? ⟨k, o, none⟩ = w.cell? ⟨k, o, none⟩ := World.cell?_of_block (a := ⟨k, o, none⟩) (h.blk k hk hA ho)
/-- it stays as it is while older blocks and its own stay -/
theorem Wr.below {B A : Nat} {w w' : World} {bs : List UInt8} (h : Wr B w A bs) (hb : Below w.heap.size w w') : Wr B w' A bs := by
  obtain ⟨ao, c, hv, ho⟩ := h.val
  exact ⟨h.lo, Nat.lt_of_lt_of_le h.hi hb.size, (hb.frozen (p := ⟨A, 0, none⟩) h.hi).trans h.fz, ao, c, (hb.cell (p := ⟨A, 0, none⟩) h.hi).trans hv, ho.kept hb.size fun g _ _ hg => hb.block g hg⟩

theorem Try.info5 : (Try.prog.info? 5).map (fun i => (i.zero, i.size, i.bytes)) = some (some (.int .u8 0), 1, 1) := by kernel_rfl

theorem cells_one {w : World} {o : Array Value} {t : TypeId} {x : Value} (h : o = #[x]) : ∀ j u, [x][j]? = some u → (w.alloc (.cells o t)).cell? ((⟨w.heap.size, 0, none⟩ : Addr).add j) = some u := by
  intro j u hj
  subst h
  match j, hj with
  | 0, hj => simp at hj; subst hj; simp [Addr.add]

theorem one_u8s {bs : List UInt8} : ∀ u, u ∈ u8s bs → u.oneCell' = true := by
  intro u hu
  obtain ⟨b, _, rfl⟩ := List.mem_map.1 hu
  rfl

/-- behind an append, one block having been laid for what is appended: the Writer's own cell -/
theorem App.head {B A : Nat} {w w1 : World} {ob : Obj} {v v' x : Value} {bs bs' : List UInt8} (h : App B A (w.alloc ob) w1 v v' bs') (hown : Own B A w v bs) (hhi : A < w.heap.size) (hv : w.cell? ⟨A, 0, none⟩ = some x) (hfz : w.frozen? ⟨A, 0, none⟩ = false) :
    w1.cell? ⟨A, 0, none⟩ = some x ∧ w1.frozen? ⟨A, 0, none⟩ = false ∧ w.heap.size ≤ w1.heap.size ∧ w1.cell? ⟨A, 0, none⟩ = w.cell? ⟨A, 0, none⟩ ∧ w1.frozen? ⟨A, 0, none⟩ = w.frozen? ⟨A, 0, none⟩ := by
  have hne : v.ownBlock ≠ some A := fun e => (hown.lt e).2.1 rfl
  have c1 := h.cell (k := A) (o := 0) (by simp; omega) hne
  have f1 := h.frozen (k := A) (o := 0) (by simp; omega) hne
  rw [World.cell?_alloc_past _ _ _ hhi] at c1
  rw [World.frozen?_alloc_past _ _ _ hhi] at f1
  exact ⟨c1.trans hv, f1.trans hfz, by have := h.size; simp at this; omega, c1, f1⟩

set_option maxHeartbeats 400000 in
theorem null_any (B A : Nat) (bs : List UInt8) (w : World) (h : Wr B w A bs) (hfit : bs.length + 1 ≤ 140737488355328) :
    Calls Try.prog 34 #[.pointer (some ⟨A, 0, none⟩)] w fun e w' => e = .returned (.tuple #[]) ∧ Wr B w' A (bs ++ [0]) ∧ Below B w w' ∧ Keep A w w' := by
  obtain ⟨i0, hi, hz0, hz1, hz2⟩ := info_parts Try.info5
  obtain ⟨ao0, c0, hv, hown⟩ := h.val
  have hlo := h.lo; have hhi := h.hi; have hfz := h.fz
  go_enter Try.func34, Try.ntmps34
  go_wp2_with (at_builtin; refine wpList_app B A _ rfl (.tmp 6) (.tmp 7) 26 26 rfl 5 i0 Try.underlying26 hi hz0 hz1 hz2 _ bs rfl (hown.kept (by simp) ?k1) _ [0] rfl (Src.ofSlice _ Try.underlying26 ⟨w.heap.size, 0, none⟩ 1 1 _ rfl (cells_one rfl) ?k2) (by simpa using hfit) (by simp; omega) (by simp; omega) ?k3)
  case k1 => exact fun g _ _ hg => Below.heap_alloc _ _ _ hg
  case k2 => exact one_u8s
  case k3 =>
    intro ao c w1 happ
    obtain ⟨k0, f0, s0, e0, e1⟩ := happ.head hown hhi hv hfz
    go_wp2
    go_end0
    exact ⟨rfl, h.stored (by simp) happ.own e0 e1 s0, (((Below.refl B w).alloc (by omega) _).trans happ.below).setCell hlo _, Keep.stored ((Below.refl _ w).alloc (Nat.le_refl _) _) hhi hv happ k0⟩

set_option maxHeartbeats 400000 in
theorem bool_true (B A : Nat) (bs : List UInt8) (w : World) (h : Wr B w A bs) (hfit : bs.length + 1 ≤ 140737488355328) :
    Calls Try.prog 36 #[.pointer (some ⟨A, 0, none⟩), .bool true] w fun e w' => e = .returned (.tuple #[]) ∧ Wr B w' A (bs ++ [2]) ∧ Below B w w' ∧ Keep A w w' := by
  obtain ⟨i0, hi, hz0, hz1, hz2⟩ := info_parts Try.info5
  obtain ⟨ao0, c0, hv, hown⟩ := h.val
  have hlo := h.lo; have hhi := h.hi; have hfz := h.fz
  go_enter Try.func36, Try.ntmps36
  go_wp2_with (at_builtin; refine wpList_app B A _ rfl (.tmp 9) (.tmp 10) 26 26 rfl 5 i0 Try.underlying26 hi hz0 hz1 hz2 _ bs rfl (hown.kept (by simp) ?k1) _ [2] rfl (Src.ofSlice _ Try.underlying26 ⟨w.heap.size, 0, none⟩ 1 1 _ rfl (cells_one rfl) ?k2) (by simpa using hfit) (by simp; omega) (by simp; omega) ?k3)
  case k1 => exact fun g _ _ hg => Below.heap_alloc _ _ _ hg
  case k2 => exact one_u8s
  case k3 =>
    intro ao c w1 happ
    obtain ⟨k0, f0, s0, e0, e1⟩ := happ.head hown hhi hv hfz
    go_wp2
    go_end0
    exact ⟨rfl, h.stored (by simp) happ.own e0 e1 s0, (((Below.refl B w).alloc (by omega) _).trans happ.below).setCell hlo _, Keep.stored ((Below.refl _ w).alloc (Nat.le_refl _) _) hhi hv happ k0⟩

set_option maxHeartbeats 400000 in
theorem bool_false (B A : Nat) (bs : List UInt8) (w : World) (h : Wr B w A bs) (hfit : bs.length + 1 ≤ 140737488355328) :
    Calls Try.prog 36 #[.pointer (some ⟨A, 0, none⟩), .bool false] w fun e w' => e = .returned (.tuple #[]) ∧ Wr B w' A (bs ++ [1]) ∧ Below B w w' ∧ Keep A w w' := by
  obtain ⟨i0, hi, hz0, hz1, hz2⟩ := info_parts Try.info5
  obtain ⟨ao0, c0, hv, hown⟩ := h.val
  have hlo := h.lo; have hhi := h.hi; have hfz := h.fz
  go_enter Try.func36, Try.ntmps36
  go_wp2_with (at_builtin; refine wpList_app B A _ rfl (.tmp 18) (.tmp 19) 26 26 rfl 5 i0 Try.underlying26 hi hz0 hz1 hz2 _ bs rfl (hown.kept (by simp) ?k1) _ [1] rfl (Src.ofSlice _ Try.underlying26 ⟨w.heap.size, 0, none⟩ 1 1 _ rfl (cells_one rfl) ?k2) (by simpa using hfit) (by simp; omega) (by simp; omega) ?k3)
  case k1 => exact fun g _ _ hg => Below.heap_alloc _ _ _ hg
  case k2 => exact one_u8s
  case k3 =>
    intro ao c w1 happ
    obtain ⟨k0, f0, s0, e0, e1⟩ := happ.head hown hhi hv hfz
    go_wp2
    go_end0
    exact ⟨rfl, h.stored (by simp) happ.own e0 e1 s0, (((Below.refl B w).alloc (by omega) _).trans happ.below).setCell hlo _, Keep.stored ((Below.refl _ w).alloc (Nat.le_refl _) _) hhi hv happ k0⟩

end Go.Proofs.Ytlhgbnjflemiiaa
