/- Numbers of 128 bits in memory; the contracts of package wide in the walk's own spelling. -/
import Derived.Test.YtlahoohgbfjciaaGreatDoorWk
namespace Go.Proofs.YtlahoohgbfjciaaGreatDoor
open Go.RowKit Go.Shelf

/-- a wide number in memory of the call's own -/
structure WideAt (w : World) (b : Nat) (V : Int) : Prop where
  c0 : w.cell? ⟨b, 0, none⟩ = some (.int .u64 (hiW V))
  c1 : w.cell? ⟨b, 1, none⟩ = some (.int .u64 (loW V))
  fz : ∀ o, w.frozen? ⟨b, o, none⟩ = false
theorem WideAt.keep {w w' : World} {b : Nat} {V : Int} (h : WideAt w b V) (hb : Below w.heap.size w w') : WideAt w' b V := by
  have hlt : b < w.heap.size := World.block_lt_of_cell? _ _ h.c0
  exact ⟨(hb.cell (p := ⟨b, 0, none⟩) hlt).trans h.c0, (hb.cell (p := ⟨b, 1, none⟩) hlt).trans h.c1, fun o => (hb.frozen (p := ⟨b, o, none⟩) hlt).trans (h.fz o)⟩
theorem WideAt.set {w : World} {b : Nat} {V : Int} (h : WideAt w b V) (U : Int) : WideAt ((w.setCell ⟨b, 0, none⟩ (.int .u64 (hiW U))).setCell ⟨b, 1, none⟩ (.int .u64 (loW U))) b U := by
  refine ⟨?_, ?_, fun o => by rw [World.frozen?_setCell, World.frozen?_setCell]; exact h.fz o⟩
  · rw [World.cell?_setCell_other _ _ _ _ (by simp)]; exact World.cell?_setCell_same _ _ _ h.c0
  · exact World.cell?_setCell_same _ _ _ (by rw [World.cell?_setCell_other _ _ _ _ (by simp)]; exact h.c1)
theorem wide_fresh (w : World) (V : Int) : WideAt (w.alloc (Obj.cells #[.int .u64 (hiW V), .int .u64 (loW V)] 36)) w.heap.size V := ⟨by simp, by simp, by simp⟩
abbrev wideW (V : Int) : Value := .agg #[.int .u64 (hiW V), .int .u64 (loW V)]
theorem aof (n : Int) (w : World) (h1 : -9223372036854775808 ≤ n) (h2 : n < 9223372036854775808) :
    Calls Tryz.prog 9 #[.int .i64 n] w fun e w' => e = .returned (wideW n) ∧ Below w.heap.size w w' := wof_any n w h1 h2
theorem aplus (V U : Int) (w : World) :
    Calls Tryz.prog 11 #[wideW V, wideW U] w fun e w' => e = .returned (wideW (V + U)) ∧ Below w.heap.size w w' := wplus_any V U w
theorem atimes (V b : Int) (w : World) (hb : -9223372036854775808 ≤ b) (hb2 : b < 9223372036854775808) :
    Calls Tryz.prog 10 #[wideW V, .int .i64 b] w fun e w' => e = .returned (wideW (V * b)) ∧ Below w.heap.size w w' := wtimes_any V b w hb hb2
theorem adiv (V : Int) (d : Nat) (w : World) (h1 : -170141183460469231731687303715884105728 ≤ V) (h2 : V < 170141183460469231731687303715884105728) (h0 : 0 < d) (hd : d < 9223372036854775808) :
    Calls Tryz.prog 29 #[wideW V, .int .i64 d] w fun e w' => e = .returned (.tuple #[wideW (V / d), .int .i64 (V % d)]) ∧ Below w.heap.size w w' := wdiv_any V d w h1 h2 h0 hd
theorem aint (V : Int) (w : World) (h1 : -9223372036854775808 ≤ V) (h2 : V < 9223372036854775808) :
    Calls Tryz.prog 13 #[wideW V] w fun e w' => e = .returned (.tuple #[.int .i64 V, .bool true]) ∧ Below w.heap.size w w' := wint_any V w h1 h2

end Go.Proofs.YtlahoohgbfjciaaGreatDoor
