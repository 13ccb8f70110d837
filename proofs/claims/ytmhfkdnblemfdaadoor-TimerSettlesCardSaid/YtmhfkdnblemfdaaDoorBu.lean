/- evaluate of a relay at latch and count. -/
import Derived.Test.YtmhfkdnblemfdaaDoorBs
namespace Go.Proofs.YtmhfkdnblemfdaaDoor
open Go.RowKit Go.Shelf

theorem rel_keep {w W : World} {b : Nat} {L : List Value} (h : RowAt w b L) (hb : Below w.heap.size w W) : RowAt W b L := h.keep hb
theorem grown_below {w W w' : World} {o : Option Nat} (hb : Below w.heap.size w W) (hg : W.grownBy w' o) : w.grownBy w' o :=
  ⟨hg.os.trans hb.os, hg.tape.trans hb.tape, hg.output.trans hb.output, Nat.le_trans hb.size hg.size, fun q hq hne => (hg.block q (Nat.lt_of_lt_of_le hq hb.size) hne).trans (hb.block q hq)⟩
set_option maxHeartbeats 4000000 in
theorem eval_latch (rb sb n ib io ic : Nat) (v1 v2 v3 v4 v5 v6 : Value) (a b x dt : Int) (r : List Value) (hn : 0 < n) (w : World) (hr : RelAt w rb sb n (.string ⟨#[108, 97, 116, 99, 104]⟩) v1 v2 v3 v4 v5 v6) (hs : RowAt w sb (.int .i64 x :: r)) (hib : ib ≠ sb) (i0 : w.cell? ⟨ib, io, none⟩ = some (.int .i64 a)) (i1 : w.cell? ⟨ib, io + 1, none⟩ = some (.int .i64 b)) :
    Calls Tryd.prog 33 #[.pointer (some ⟨rb, 0, none⟩), .slice (some ⟨ib, io, none⟩) 2 ic, .int .i64 dt] w fun e w' => e = .returned (.int .i64 (latchN a b x)) ∧ RowAt w' sb (.int .i64 (latchN a b x) :: r) ∧ w.grownBy w' (some sb) := by
  have KE := Lib.hid (fun (W : World) (hb : Below w.heap.size w W) => latch_any rb sb n _ v1 v2 v3 v4 v5 v6 a b x r hn W (rel_keep hr hb) (rel_keep hs hb))
  have HI := Lib.hid (show ∀ W : World, w.grownBy W (some sb) → W.cell? ⟨ib, io, none⟩ = some (.int .i64 a) ∧ W.cell? ⟨ib, io + 1, none⟩ = some (.int .i64 b) from fun W hg => ⟨(hg.cell_far ⟨ib, io, none⟩ (World.block_lt_of_cell? _ _ i0) (fun e => hib (by injection e))).trans i0, (hg.cell_far ⟨ib, io + 1, none⟩ (World.block_lt_of_cell? _ _ i1) (fun e => hib (by injection e))).trans i1⟩)
  have HB0 := Lib.hid (show ∀ W : World, Below w.heap.size w W → W.cell? ⟨ib, io, none⟩ = some (.int .i64 a) ∧ W.cell? ⟨ib, io + 1, none⟩ = some (.int .i64 b) from fun W hb => ⟨(hb.cell (p := ⟨ib, io, none⟩) (World.block_lt_of_cell? _ _ i0)).trans i0, (hb.cell (p := ⟨ib, io + 1, none⟩) (World.block_lt_of_cell? _ _ i1)).trans i1⟩)
  have r0 := hr.c 0 _ rfl
  clear hr hs
  go_enter Tryd.func33, Tryd.ntmps33
  go_upto_region 9 with fail
  go_region_held3 (fun w' => w'.cell? ⟨ib, io, none⟩ = some (.int .i64 a) ∧ w'.cell? ⟨ib, io + 1, none⟩ = some (.int .i64 b))
    (first | assumption | (exact HB0.out _ (by repeat (first | exact Below.refl _ _ | apply below_al | apply below_dr))) | go_keep)
    (first | (go_at_call 47; refine (KE.out _ (by repeat (first | exact Below.refl _ _ | apply below_al | apply below_dr))).mono ?_; rintro e w1 ⟨rfl, h1, h2⟩; have hg := grown_below (w := w) (by repeat (first | exact Below.refl _ _ | apply below_al | apply below_dr)) h2; have H1 := Lib.hid h1; have H2 := Lib.hid hg; have hk := HI.out _ hg; clear h1 h2 hg))
  rename_i hHeld
  clear hHeld hk
  (try simp only [Exit.then])
  go_wp2_with fail
  go_ret
  exact ⟨rfl, H1.out, H2.out⟩
set_option maxHeartbeats 4000000 in
theorem eval_count (rb sb ib io ic : Nat) (v1 v2 v3 v4 v5 v6 : Value) (a b x y dt : Int) (hne : rb ≠ sb) (hy : 0 ≤ y ∧ y ≤ 1000000000) (w : World) (hr : RelAt w rb sb 2 (.string ⟨#[99, 111, 117, 110, 116]⟩) v1 v2 v3 v4 v5 v6) (hs : RowAt w sb [.int .i64 x, .int .i64 y]) (hib : ib ≠ sb) (i0 : w.cell? ⟨ib, io, none⟩ = some (.int .i64 a)) (i1 : w.cell? ⟨ib, io + 1, none⟩ = some (.int .i64 b)) :
    Calls Tryd.prog 33 #[.pointer (some ⟨rb, 0, none⟩), .slice (some ⟨ib, io, none⟩) 2 ic, .int .i64 dt] w fun e w' => e = .returned (.int .i64 (1000 * cntS a b x y)) ∧ RowAt w' sb [.int .i64 a, .int .i64 (cntS a b x y)] ∧ w.grownBy w' (some sb) := by
  have KE := Lib.hid (fun (W : World) (hb : Below w.heap.size w W) => count_any rb sb _ v1 v2 v3 v4 v5 v6 a b x y hne hy W (rel_keep hr hb) (rel_keep hs hb))
  have HI := Lib.hid (show ∀ W : World, w.grownBy W (some sb) → W.cell? ⟨ib, io, none⟩ = some (.int .i64 a) ∧ W.cell? ⟨ib, io + 1, none⟩ = some (.int .i64 b) from fun W hg => ⟨(hg.cell_far ⟨ib, io, none⟩ (World.block_lt_of_cell? _ _ i0) (fun e => hib (by injection e))).trans i0, (hg.cell_far ⟨ib, io + 1, none⟩ (World.block_lt_of_cell? _ _ i1) (fun e => hib (by injection e))).trans i1⟩)
  have HB0 := Lib.hid (show ∀ W : World, Below w.heap.size w W → W.cell? ⟨ib, io, none⟩ = some (.int .i64 a) ∧ W.cell? ⟨ib, io + 1, none⟩ = some (.int .i64 b) from fun W hb => ⟨(hb.cell (p := ⟨ib, io, none⟩) (World.block_lt_of_cell? _ _ i0)).trans i0, (hb.cell (p := ⟨ib, io + 1, none⟩) (World.block_lt_of_cell? _ _ i1)).trans i1⟩)
  have r0 := hr.c 0 _ rfl
  clear hr hs
  go_enter Tryd.func33, Tryd.ntmps33
  go_upto_region 3 with fail
  go_region_held3 (fun w' => w'.cell? ⟨ib, io, none⟩ = some (.int .i64 a) ∧ w'.cell? ⟨ib, io + 1, none⟩ = some (.int .i64 b))
    (first | assumption | (exact HB0.out _ (by repeat (first | exact Below.refl _ _ | apply below_al | apply below_dr))) | go_keep)
    (first | (go_at_call 44; refine (KE.out _ (by repeat (first | exact Below.refl _ _ | apply below_al | apply below_dr))).mono ?_; rintro e w1 ⟨rfl, h1, h2⟩; have hg := grown_below (w := w) (by repeat (first | exact Below.refl _ _ | apply below_al | apply below_dr)) h2; have H1 := Lib.hid h1; have H2 := Lib.hid hg; have hk := HI.out _ hg; clear h1 h2 hg))
  rename_i hHeld
  clear hHeld hk
  (try simp only [Exit.then])
  go_wp2_with fail
  go_ret
  exact ⟨rfl, H1.out, H2.out⟩
end Go.Proofs.YtmhfkdnblemfdaaDoor
