/- resume and Settle of the block ondelay at the chapter's example. -/
import Derived.Test.YtmhfkdnblemfdaaDoorCd
namespace Go.Proofs.YtmhfkdnblemfdaaDoor
open Go.RowKit Go.Shelf

set_option linter.unusedVariables false
set_option maxHeartbeats 1000000 in
theorem poss1_any (g q o c : Nat) (x lo hi : Int) (w : World) (hg : w.cell? ⟨g, 0, none⟩ = some (.slice (some ⟨q, o, none⟩) 1 c)) (hx : w.cell? ⟨q, o, none⟩ = some (.int .i64 x)) (h1 : lo ≤ x) (h2 : x ≤ hi) :
    Calls Tryd.prog 42 #[.int .i64 0, .int .i64 lo, .int .i64 hi, .pointer (some ⟨g, 0, none⟩)] w fun e w' => e = .returned (.bool true) ∧ w = w' := by
  go_enter Tryd.func42, Tryd.ntmps42
  go_wp2_with fail
  go_ret
  exact ⟨rfl, rfl⟩
set_option maxHeartbeats 4000000 in
set_option maxRecDepth 100000 in
theorem possOn_any (rb pb po pc q o c : Nat) (t x : Int) (v1 v2 v3 v5 v7 : Value) (w : World) (hr : RowAt w rb [.string ⟨#[111, 110, 100, 101, 108, 97, 121]⟩, v1, v2, v3, .int .i64 ((1 : Nat) : Int), v5, .slice (some ⟨pb, po, none⟩) 1 pc, v7]) (hp : w.cell? ⟨pb, po, none⟩ = some (.int .i64 t)) (hx : w.cell? ⟨q, o, none⟩ = some (.int .i64 x)) (h0 : 0 ≤ x) (h1 : x ≤ t + 1) (ht : 0 ≤ t ∧ t ≤ 86400) :
    Calls Tryd.prog 30 #[.pointer (some ⟨rb, 0, none⟩), .slice (some ⟨q, o, none⟩) 1 c] w fun e w' => e = .returned (.bool true) ∧ Below w.heap.size w w' := by
  obtain ⟨W, g, hW, hg, RG, B, sz⟩ := box1 w #[.slice (some ⟨q, o, none⟩) 1 c] 22
  have HB := Lib.hid B
  have g0 := RG.c 0 _ rfl
  have hR := hr.keep B
  have hp2 : W.cell? ⟨pb, po, none⟩ = some (.int .i64 t) := (B.cell (p := ⟨pb, po, none⟩) (World.block_lt_of_cell? _ _ hp)).trans hp
  have hx2 : W.cell? ⟨q, o, none⟩ = some (.int .i64 x) := (B.cell (p := ⟨q, o, none⟩) (World.block_lt_of_cell? _ _ hx)).trans hx
  have HR := Lib.hid hR
  have HG := Lib.hid g0
  have HX := Lib.hid hx2
  have HP := Lib.hid hp2
  have lg := World.block_lt_of_cell? _ _ g0
  have lq := World.block_lt_of_cell? _ _ hx2
  have lp := World.block_lt_of_cell? _ _ hp2
  have lr := hR.lt
  have K1 := Lib.hid (fun (w1 : World) (hb : Below W.heap.size W w1) => poss1_any g q o c x 0 (t + 1) w1 ((hb.cell (p := ⟨g, 0, none⟩) lg).trans HG.out) ((hb.cell (p := ⟨q, o, none⟩) lq).trans HX.out) h0 h1)
  clear hr hp hx RG B sz h0 h1 hR
  obtain ⟨ht1, ht2⟩ := ht
  have hmf : ∀ (fn : Fn) (first cap : Array Value) (w : World), (Instr.makeFunc fn first cap).run Tryd.prog w = .ok (.func fn first cap) w := fun _ _ _ _ => rfl
  go_enter Tryd.func30, Tryd.ntmps30
  go_upto_region 1 with fail
  rw [← hW]
  try rw [← hg]
  clear hW hg
  have r_0 := HR.out.c 0 _ rfl
  have r_4 := HR.out.c 4 _ rfl
  have r_6 := HR.out.c 6 _ rfl
  go_wp2_with fail
  go_quiet (fail)
  go_wp2_with fail
  refine (K1.out _ (bdrewN (Below.refl _ _) _)).mono ?_
  rintro e w' ⟨rfl, rfl⟩
  go_wp2_with fail
  go_ret
  exact ⟨rfl, bdrewN HB.out _⟩
end Go.Proofs.YtmhfkdnblemfdaaDoor
