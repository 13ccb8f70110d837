/- The law FixedLines returns true for every input. Asked: strconv's table reads as laid. -/
import Derived.Test.YtckbfkkohkmcaaaDoorW
import Derived.Test.YtckbfkkohkmcaaaDoorZ
namespace Go.Proofs.YtckbfkkohkmcaaaDoor
open Go.RowKit

set_option maxHeartbeats 400000 in
theorem lines_law (x x1 y1 x2 y2 : Int) (w : World) (ht : Tab w) :
    Calls Tryd.prog 3 #[.int .i64 x, .int .i64 x1, .int .i64 y1, .int .i64 x2, .int .i64 y2] w fun e w' => e = .returned (.bool true) ∧ Below w.heap.size w w' := by
  have HW := Lib.hid (awake_any w ht)
  have H1 := Lib.hid fun w => line_any x x1 y1 x2 y2 w
  have H2 := Lib.hid fun w => rline_any x x1 y1 x2 y2 w
  clear ht
  obtain ⟨L, hL⟩ : ∃ L, L = lineI x x1 y1 x2 y2 := ⟨_, rfl⟩
  rw [← hL] at H1 H2
  clear hL
  go_enter Tryd.func3, Tryd.ntmps3
  go_wp2_with fail
  refine HW.out.mono ?_
  rintro e w1 ⟨rfl, hb1⟩
  have B1 := Lib.hid hb1
  clear hb1
  go_wp2_with fail
  refine (H1.out _).mono ?_
  rintro e w2 ⟨rfl, hb2⟩
  have B2 := Lib.hid (B1.out.trans (hb2.mono B1.out.size))
  clear hb2
  go_wp2_with fail
  refine (H2.out _).mono ?_
  rintro e w3 ⟨rfl, hb3⟩
  have B3 := Lib.hid (B2.out.trans (hb3.mono B2.out.size))
  clear hb3
  go_wp2_with fail
  go_ret
  exact ⟨rfl, B3.out⟩
end Go.Proofs.YtckbfkkohkmcaaaDoor
