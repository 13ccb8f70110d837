/- From the card's condition of the law Evals to the table. -/
import Derived.Test.YtgpbcdelaipifaaDoorQu
import Derived.Test.YtgpbcdelaipifaaDoorEw
namespace Go.Proofs.YtgpbcdelaipifaaDoor
open Go.RowKit Go.ChangeShapes Go.WideShapes

theorem sat_of_evals (W : World) (h : laidMetH Tryd.prog Rows.psychroEvalsRow.laid W) : SatT W := by
  rw [MakeChecks.laidMetH_plain _ _ _ (by kernel_rfl)] at h
  have h2 : laidMet Tryd.prog (("plenum/psychro.saturated", Lib.tabData .i64 satL) :: _) W := h.tail
  exact Lib.tabIs_of_head (g := 0) (by kernel_rfl) (by kernel_rfl) Tryd.underlying45 Tryd.underlying2 (by kernel_rfl) (by kernel_rfl) h2
end Go.Proofs.YtgpbcdelaipifaaDoor
