/- evaluate of a relay at ondelay, offdelay, pulse. -/
import Derived.Test.YtmhfkdnblemfdaaDoorBq
namespace Go.Proofs.YtmhfkdnblemfdaaDoor
open Go.RowKit Go.Shelf

set_option maxHeartbeats 4000000 in
theorem eval_ondelay (rb sb n pb po pc ib io ic : Nat) (v1 v2 v3 v4 v5 : Value) (a x t dt : Int) (r : List Value) (hn : 0 < n) (ht : 0 ≤ t ∧ t ≤ 100000) (hx : -1 ≤ x ∧ x ≤ 200000) (hd : 0 ≤ dt ∧ dt ≤ 100000) (w : World) (hr : RelAt w rb sb n (.string ⟨#[111, 110, 100, 101, 108, 97, 121]⟩) v1 v2 v3 v4 v5 (.slice (some ⟨pb, po, none⟩) 1 pc)) (p0 : w.cell? ⟨pb, po, none⟩ = some (.int .i64 t)) (hs : RowAt w sb (.int .i64 x :: r)) (i0 : w.cell? ⟨ib, io, none⟩ = some (.int .i64 a)) :
    Calls Tryd.prog 33 #[.pointer (some ⟨rb, 0, none⟩), .slice (some ⟨ib, io, none⟩) 1 ic, .int .i64 dt] w fun e w' => e = .returned (.int .i64 (onV a x t dt)) ∧ RowAt w' sb (.int .i64 (onS a x t dt) :: r) ∧ w.grownBy w' (some sb) := by
  have KE := Lib.hid (ondelay_any rb sb n pb po pc _ v1 v2 v3 v4 v5 a x t dt r hn ht hx hd w hr p0 hs)
  have r0 := hr.c 0 _ rfl
  clear hr hs p0
  go_enter Tryd.func33, Tryd.ntmps33
  go_wp2_with fail
  refine KE.out.mono ?_
  rintro e w1 ⟨rfl, h1, h2⟩
  have H1 := Lib.hid h1
  have H2 := Lib.hid h2
  clear h1 h2
  go_wp2_with fail
  go_ret
  exact ⟨rfl, H1.out, H2.out⟩
set_option maxHeartbeats 4000000 in
theorem eval_offdelay (rb sb n pb po pc ib io ic : Nat) (v1 v2 v3 v4 v5 : Value) (a x t dt : Int) (r : List Value) (hn : 0 < n) (hx : -1 ≤ x ∧ x ≤ 200000) (hd : 0 ≤ dt ∧ dt ≤ 100000) (w : World) (hr : RelAt w rb sb n (.string ⟨#[111, 102, 102, 100, 101, 108, 97, 121]⟩) v1 v2 v3 v4 v5 (.slice (some ⟨pb, po, none⟩) 1 pc)) (p0 : w.cell? ⟨pb, po, none⟩ = some (.int .i64 t)) (hs : RowAt w sb (.int .i64 x :: r)) (i0 : w.cell? ⟨ib, io, none⟩ = some (.int .i64 a)) :
    Calls Tryd.prog 33 #[.pointer (some ⟨rb, 0, none⟩), .slice (some ⟨ib, io, none⟩) 1 ic, .int .i64 dt] w fun e w' => e = .returned (.int .i64 (offV a x t dt)) ∧ RowAt w' sb (.int .i64 (offS a x t dt) :: r) ∧ w.grownBy w' (some sb) := by
  have KE := Lib.hid (offdelay_any rb sb n pb po pc _ v1 v2 v3 v4 v5 a x t dt r hn hx hd w hr p0 hs)
  have r0 := hr.c 0 _ rfl
  clear hr hs p0
  go_enter Tryd.func33, Tryd.ntmps33
  go_wp2_with fail
  refine KE.out.mono ?_
  rintro e w1 ⟨rfl, h1, h2⟩
  have H1 := Lib.hid h1
  have H2 := Lib.hid h2
  clear h1 h2
  go_wp2_with fail
  go_ret
  exact ⟨rfl, H1.out, H2.out⟩
set_option maxHeartbeats 4000000 in
theorem eval_pulse (rb sb pb po pc ib io ic : Nat) (v1 v2 v3 v4 v5 : Value) (a x y t dt : Int) (hne : rb ≠ sb) (hy : 0 ≤ y ∧ y ≤ 200000) (hd : 0 ≤ dt ∧ dt ≤ 100000) (w : World) (hr : RelAt w rb sb 2 (.string ⟨#[112, 117, 108, 115, 101]⟩) v1 v2 v3 v4 v5 (.slice (some ⟨pb, po, none⟩) 1 pc)) (p0 : w.cell? ⟨pb, po, none⟩ = some (.int .i64 t)) (hs : RowAt w sb [.int .i64 x, .int .i64 y]) (i0 : w.cell? ⟨ib, io, none⟩ = some (.int .i64 a)) :
    Calls Tryd.prog 33 #[.pointer (some ⟨rb, 0, none⟩), .slice (some ⟨ib, io, none⟩) 1 ic, .int .i64 dt] w fun e w' => e = .returned (.int .i64 (pulV a x y t dt)) ∧ RowAt w' sb [.int .i64 a, .int .i64 (pulS a x y t dt)] ∧ w.grownBy w' (some sb) := by
  have KE := Lib.hid (pulse_any rb sb pb po pc _ v1 v2 v3 v4 v5 a x y t dt hne hy hd w hr p0 hs)
  have r0 := hr.c 0 _ rfl
  clear hr hs p0
  go_enter Tryd.func33, Tryd.ntmps33
  go_wp2_with fail
  refine KE.out.mono ?_
  rintro e w1 ⟨rfl, h1, h2⟩
  have H1 := Lib.hid h1
  have H2 := Lib.hid h2
  clear h1 h2
  go_wp2_with fail
  go_ret
  exact ⟨rfl, H1.out, H2.out⟩
end Go.Proofs.YtmhfkdnblemfdaaDoor
