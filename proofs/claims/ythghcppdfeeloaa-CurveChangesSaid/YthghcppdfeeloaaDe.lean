/- The contract of slices.Delete of one knot. -/
import Derived.Test.YthghcppdfeeloaaFn
import Derived.Deep.RegionLaw
import Derived.Lib.EndianMore
import Derived.Lib.ReflectliteSwap
namespace Go.Proofs.Ythghcppdfeeloaa
open Go.RowKit

/-- a list of knots at the head of a row of cells of the call's own -/
structure RowK (w : World) (g cap : Nat) (ks : List (Int × Int)) : Prop where
  kn : Knots w g 0 ks
  le : ks.length ≤ cap
  some : ∀ j, j < cap * 2 → (w.cell? ⟨g, j, none⟩).isSome = true
  fz : ∀ j, w.frozen? ⟨g, j, none⟩ = false
  lt : g < w.heap.size
theorem RowK.keep {w w' : World} {g cap : Nat} {ks : List (Int × Int)} (h : RowK w g cap ks) (hb : Below w.heap.size w w') : RowK w' g cap ks :=
  ⟨h.kn.at h.lt hb, h.le, fun j hj => by rw [hb.cell (p := ⟨g, j, none⟩) h.lt]; exact h.some j hj, fun j => (hb.frozen (p := ⟨g, j, none⟩) h.lt).trans (h.fz j), Nat.lt_of_lt_of_le h.lt hb.size⟩
theorem kx_erase (ks : List (Int × Int)) (k i : Nat) : kx (ks.eraseIdx k) i = if i < k then kx ks i else kx ks (i + 1) := by
  unfold kx; simp only [List.getD, List.getElem?_eraseIdx]; split <;> rfl
theorem ky_erase (ks : List (Int × Int)) (k i : Nat) : ky (ks.eraseIdx k) i = if i < k then ky ks i else ky ks (i + 1) := by
  unfold ky; simp only [List.getD, List.getElem?_eraseIdx]; split <;> rfl
theorem kx_drop (ks : List (Int × Int)) (k i : Nat) : kx (ks.drop k) i = kx ks (k + i) := by unfold kx; simp [List.getD, List.getElem?_drop]
theorem ky_drop (ks : List (Int × Int)) (k i : Nat) : ky (ks.drop k) i = ky ks (k + i) := by unfold ky; simp [List.getD, List.getElem?_drop]

/-- what lies in the row behind a delete -/
theorem row_deleted {w : World} {g cap k : Nat} {ks : List (Int × Int)} (h : RowK w g cap ks) (hk : k < ks.length) :
    RowK ((w.setCells g (k * 2) (cellsK (ks.drop (k + 1)))).setCells g ((ks.length - 1) * 2) [.int .i64 0, .int .i64 0]) g cap (ks.eraseIdx k) := by
  have hle := h.le
  have hl : (ks.eraseIdx k).length = ks.length - 1 := by rw [List.length_eraseIdx, if_pos hk]
  have hcl : (cellsK (ks.drop (k + 1))).length = (ks.length - (k + 1)) * 2 := by rw [cellsK_len, List.length_drop]
  have hs1 : ∀ j, j < cap * 2 → ((w.setCells g (k * 2) (cellsK (ks.drop (k + 1)))).cell? ⟨g, j, none⟩).isSome = true := fun j hj => Lib.isSome_setCells g _ _ _ _ (h.some j hj)
  have hB : Below g w ((w.setCells g (k * 2) (cellsK (ks.drop (k + 1)))).setCells g ((ks.length - 1) * 2) [.int .i64 0, .int .i64 0]) := (Lib.below_setCells_w (Nat.le_refl g) _ _ _).trans (Lib.below_setCells_w (Nat.le_refl g) _ _ _)
  refine ⟨fun i hi => ?_, by omega, fun j hj => Lib.isSome_setCells g _ _ _ _ (hs1 j hj), fun j => by rw [World.frozen?_setCells, World.frozen?_setCells]; exact h.fz j, Nat.lt_of_lt_of_le h.lt hB.size⟩
  rw [hl] at hi
  have o0 : ((w.setCells g (k * 2) (cellsK (ks.drop (k + 1)))).setCells g ((ks.length - 1) * 2) [.int .i64 0, .int .i64 0]).cell? ⟨g, 0 + i * 2, none⟩ = (w.setCells g (k * 2) (cellsK (ks.drop (k + 1)))).cell? ⟨g, 0 + i * 2, none⟩ := World.cell?_setCells_out g _ _ _ _ (fun _ _ => .inl (by simp; omega))
  have o1 : ((w.setCells g (k * 2) (cellsK (ks.drop (k + 1)))).setCells g ((ks.length - 1) * 2) [.int .i64 0, .int .i64 0]).cell? ⟨g, 0 + i * 2 + 1, none⟩ = (w.setCells g (k * 2) (cellsK (ks.drop (k + 1)))).cell? ⟨g, 0 + i * 2 + 1, none⟩ := World.cell?_setCells_out g _ _ _ _ (fun _ _ => .inl (by simp; omega))
  refine And.imp o0.trans o1.trans ?_
  by_cases hik : i < k
  · rw [World.cell?_setCells_out g _ _ _ _ (fun _ _ => .inl (by simp; omega)), World.cell?_setCells_out g _ _ _ _ (fun _ _ => .inl (by simp; omega)), kx_erase, ky_erase, if_pos hik, if_pos hik]
    exact h.kn i (by omega)
  · obtain ⟨q, rfl⟩ : ∃ q, i = k + q := ⟨i - k, by omega⟩
    have hq : q < (ks.drop (k + 1)).length := by rw [List.length_drop]; omega
    have hin := World.cell?_setCells_in g (cellsK (ks.drop (k + 1))) (k * 2) w (fun j hj => h.some _ (by rw [hcl] at hj; omega))
    have e0 := (cellsK_at (ks.drop (k + 1)) q hq).1
    have e1 := (cellsK_at (ks.drop (k + 1)) q hq).2
    have l0 : q * 2 < (cellsK (ks.drop (k + 1))).length := by rw [hcl]; omega
    have l1 : q * 2 + 1 < (cellsK (ks.drop (k + 1))).length := by rw [hcl]; omega
    have h0 := hin (q * 2) l0
    have h1 := hin (q * 2 + 1) l1
    rw [List.getElem?_eq_getElem l0] at e0
    rw [List.getElem?_eq_getElem l1] at e1
    rw [Option.some.inj e0, kx_drop] at h0
    rw [Option.some.inj e1, ky_drop] at h1
    rw [kx_erase, ky_erase, if_neg hik, if_neg hik, show 0 + (k + q) * 2 = k * 2 + q * 2 by omega, show k * 2 + q * 2 + 1 = k * 2 + (q * 2 + 1) by omega, show k + q + 1 = k + 1 + q by omega]
    exact ⟨h0, h1⟩

theorem zero_knot (w : World) : (zeroValue 50).run Try.prog w = .ok (.agg #[.int .i64 0, .int .i64 0]) w := by kernel_rfl
theorem run_clear_knot (w : World) (ty : TypeId) (g o c : Nat) (hc : ∀ j, j < 2 → (w.cell? ⟨g, o + j, none⟩).isSome = true) (hf : ∀ j, j < 2 → w.frozen? ⟨g, o + j, none⟩ = false) :
    (Builtin.clear_ #[22] ty #[.slice (some ⟨g, o, none⟩) 1 c]).run Try.prog w = .ok (.tuple #[]) (w.setCells g o [.int .i64 0, .int .i64 0]) := by
  have hst := run_storeCells_cells (P := Try.prog) g o [.int .i64 0, .int .i64 0] 0 w (by simpa using hc) (by simpa using hf) (by intro v hv; simp at hv; rw [hv]; rfl)
  simp only [Nat.add_zero] at hst
  have hz : (Builtin.zeroCells (#[.int .i64 0, .int .i64 0] : Array Value) 1).toList = [.int .i64 0, .int .i64 0] := by simp [Builtin.zeroCells, List.range_succ]
  have hz2 : (Value.agg #[.int .i64 0, .int .i64 0]).cells = #[.int .i64 0, .int .i64 0] := by rfl
  simp [Builtin.clear_, run_underlying Try.underlying22, hz2, hz, hst]

end Go.Proofs.Ythghcppdfeeloaa
