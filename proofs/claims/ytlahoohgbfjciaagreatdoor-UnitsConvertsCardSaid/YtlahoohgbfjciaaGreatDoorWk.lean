/- The contract of wide.Int64 where the number fits. -/
import Derived.Test.YtlahoohgbfjciaaGreatDoorWj
import Derived.Deep.RegionHeld3
namespace Go.Proofs.YtlahoohgbfjciaaGreatDoor
open Go.RowKit Go.Shelf

set_option maxHeartbeats 1000000 in
theorem wint_any (V : Int) (w : World) (h1 : -9223372036854775808 ≤ V) (h2 : V < 9223372036854775808) :
    Calls Tryz.prog 13 #[pairV V] w fun e w' => e = .returned (.tuple #[.int .i64 V, .bool true]) ∧ Below w.heap.size w w' := by
  have ho := fun w => wof_any V w h1 h2
  have r2 := loW_range V
  have e1 : IntKind.i64.wrap (loW V) = V := by rw [IntKind.wrap_i64]; unfold loW; omega
  have e2 : wrap64 (loW V) = V := by unfold wrap64 loW; omega
  have HO := Lib.hid ho
  clear ho
  simp only [pairV, wordsV] at HO ⊢
  generalize hiW V = v1, loW V = v0 at *
  go_enter Tryz.func13, Tryz.ntmps13
  go_wp2_with fail
  have B0 : Below w.heap.size w (w.alloc (.cells #[.int .u64 v1, .int .u64 v0] 36)) := (Below.refl _ w).alloc (Nat.le_refl _) _
  have l0 : w.heap.size < (w.alloc (.cells #[.int .u64 v1, .int .u64 v0] 36)).heap.size := by rw [World.size_alloc]; omega
  have c0 := cell_two0 w (.int .u64 v1) (.int .u64 v0) 36
  have c1 := cell_two1 w (.int .u64 v1) (.int .u64 v0) 36
  generalize w.alloc (.cells #[.int .u64 v1, .int .u64 v0] 36) = w1 at B0 l0 c0 c1 ⊢
  have HB0 := Lib.hid B0
  clear B0 e1 e2
  go_region_held3 (fun w' => w'.cell? ⟨w.heap.size, 0, none⟩ = some (.int .u64 v1) ∧ w'.cell? ⟨w.heap.size, 1, none⟩ = some (.int .u64 v0))
    (first | go_keep | exact ⟨(hb2.cell (p := ⟨w.heap.size, 0, none⟩) l0).trans c0, (hb2.cell (p := ⟨w.heap.size, 1, none⟩) l0).trans c1⟩)
    (first | (go_at_call 9; refine (HO.out _).mono ?_; rintro e w2 ⟨rfl, hb2⟩))
  all_goals
    rename_i hHeld
    clear hHeld
    have B2 := Lib.hid (HB0.out.trans ((Below.refl w.heap.size w1).drew.trans (hb2.mono HB0.out.size)))
    clear hb2 HB0 c0 c1 l0
    go_wp2_with fail
    go_ret2
    exact ⟨rfl, B2.out⟩
end Go.Proofs.YtlahoohgbfjciaaGreatDoor
