/- From the cards' condition to the facts on the tables. -/
import Derived.Test.YtnlkalnpmnnadaaDoorRows
import Derived.Test.YtnlkalnpmnnadaaDoorM
import Derived.Stop.LaidErr
import Derived.MakeChecks
import Derived.ProofKit
namespace Go.Proofs.YtnlkalnpmnnadaaDoor
open Go.RowKit

theorem pow10_datum : (Rows.laid_internal_strconv_uint64pow10 : DataW Unit) = Lib.tabData .u64 Lib.pow10Tab := by rfl
theorem before_datum : (Rows.laid_plenum_civil_before : DataW Unit) = Lib.tabData .i64 befTab := by rfl

theorem tab_of_laid (W : World) (h : laidMetH Tryd.prog Rows.civilDatesRow.laid W) : Gl W := by
  rw [MakeChecks.laidMetH_plain _ _ _ (by kernel_rfl)] at h
  have h2 : laidMet Tryd.prog (("internal/strconv.uint64pow10", Lib.tabData .u64 Lib.pow10Tab) :: _) W := (h.tail).tail
  have h3 : laidMet Tryd.prog (("plenum/civil.before", Lib.tabData .i64 befTab) :: _) W := h2.tail.tail.tail.tail
  exact ⟨Lib.tabIs_of_head (g := 0) (by kernel_rfl) (by kernel_rfl) Tryd.underlying64 Tryd.underlying3 (by kernel_rfl) (by kernel_rfl) h3,
    Lib.tabIs_of_head (g := 1) (by kernel_rfl) (by kernel_rfl) Tryd.underlying102 Tryd.underlying84 (by kernel_rfl) (by kernel_rfl) h2⟩
end Go.Proofs.YtnlkalnpmnnadaaDoor
