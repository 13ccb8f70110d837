/- From the cards' condition to the fact on strconv's table. -/
import Derived.Test.YtaaaddmdcldclaaGreatDoorRows
import Derived.Test.YtaaaddmdcldclaaGreatDoorFt
import Derived.Stop.LaidErr
import Derived.MakeChecks
import Derived.ProofKit
namespace Go.Proofs.YtaaaddmdcldclaaGreatDoor
open Go.RowKit

theorem pow10_datum : (Rows.laid_internal_strconv_uint64pow10 : DataW Unit) = Lib.tabData .u64 Lib.pow10Tab := by rfl

theorem tab_of_laid (W : World) (h : laidMetH Tryz.prog Rows.lexerNamesRow.laid W) : Tab W := by
  rw [MakeChecks.laidMetH_plain _ _ _ (by kernel_rfl)] at h
  have h2 : laidMet Tryz.prog (("internal/strconv.uint64pow10", Lib.tabData .u64 Lib.pow10Tab) :: _) W := (h.tail).tail
  exact Lib.tabIs_of_head (g := 3) (by kernel_rfl) (by kernel_rfl) Tryz.underlying123 Tryz.underlying105 (by kernel_rfl) (by kernel_rfl) h2
end Go.Proofs.YtaaaddmdcldclaaGreatDoor
