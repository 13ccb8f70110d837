/-
  NARROWER THAN 'FOR EVERY INPUT', by the rows' own cells (each row's printed sentence says how): TimerSteps: laid · TimerSettles: laid · TimerDelays: laid · TimerPulses: laid · TimerRest: laid · TimerCounts: laid · TimerHolds: laid.
  DERIVED. THE GIVEN ROWS OF THIS SEAT. 7 by the template 'for every input the law returns true; each argument reads behind the call as it read before'; 0 by the template 'total and deterministic' (their statements: YtmhfkdnblemfdaaDoorTotals.lean).
  GIVEN WITH THE SEED: the statements are not yours to turn. If you find one false, say at which input.
  Laid BY PROGRAM, IN A SANDBOX (cutbox-rows.mjs): the forced cells as the released guide's own fill.sh prints them over the translation 4760378623b35540… (all of the seat's roots in one cut). By AI agents, Wed Nov 11 2026. No macro, syntax, notation, axiom, sorry.
-/
import Derived.Test.YtmhfkdnblemfdaaDoorChecked
import GoSem.PinnedTables
import GoSem.Claim
import GoSem.ClaimJoined
import GoSem.ClaimMapViews
import Derived.JoinedTies
import Derived.KernelRfl
namespace Go.Proofs.YtmhfkdnblemfdaaDoor
/- THE CELL 'sum', in the pinned program and in every row, IS THE sha256 OF THE DUMP (.gsa) THAT YtmhfkdnblemfdaaDoorProg.lean LOADS. Nothing in Lean hashes anything: it is a label: what it is worth is what the hold of that sum in a sandbox is worth. -/
noncomputable def Tryd.pinned : Pinned := { name := "ytmhfkdnblemfdaadoor", sum := "4760378623b35540356098e942c02495acd9eebbf84c09dcfefd7f11a88162de", checked := Tryd.checked }
namespace Rows
def none {H : Type} : Left H := { results := [], args := [] }

/- WHAT THE LISTED PACKAGE-LEVEL VARIABLES READ AS WHEN THE CALL BEGINS. Each datum BY PROGRAM (the guide's laid-datum.mjs) off the statement by which the dump's own 'gosem.cut.vars' lays the variable. In a bare row this is a premise. The card (YtmhfkdnblemfdaaDoorCards.lean) ties it to the program's text. -/
def laid_unicode_utf8_acceptRanges {H : Type} : DataW H := .agg [.agg [.lit (.int .u8 128), .lit (.int .u8 191)], .agg [.lit (.int .u8 160), .lit (.int .u8 191)], .agg [.lit (.int .u8 128), .lit (.int .u8 159)], .agg [.lit (.int .u8 144), .lit (.int .u8 191)], .agg [.lit (.int .u8 128), .lit (.int .u8 143)], .agg [.lit (.int .u8 0), .lit (.int .u8 0)], .agg [.lit (.int .u8 0), .lit (.int .u8 0)], .agg [.lit (.int .u8 0), .lit (.int .u8 0)], .agg [.lit (.int .u8 0), .lit (.int .u8 0)], .agg [.lit (.int .u8 0), .lit (.int .u8 0)], .agg [.lit (.int .u8 0), .lit (.int .u8 0)], .agg [.lit (.int .u8 0), .lit (.int .u8 0)], .agg [.lit (.int .u8 0), .lit (.int .u8 0)], .agg [.lit (.int .u8 0), .lit (.int .u8 0)], .agg [.lit (.int .u8 0), .lit (.int .u8 0)], .agg [.lit (.int .u8 0), .lit (.int .u8 0)]]
/-- One of Go's own tables, pinned by name: the form's constant. -/
def laid_unicode_utf8_first : DataW Unit := Go.Pinned.utf8First

/-- 'plenumlaw19.TimerSteps': WHATEVER THE INPUT: true; the input reads as it did. -/
def timerStepsSpec : ChangeSpec := { name := "timerSteps", fn := fun _ => fun
  | [d1, d2, d3, d4, d5] => { results := [.lit (.bool true)], args := [d1, d2, d3, d4, d5] }
  | _ => none }
def timerStepsRow : OpenClaim := { program := "ytmhfkdnblemfdaadoor", sum := "4760378623b35540356098e942c02495acd9eebbf84c09dcfefd7f11a88162de", func := "plenum/plenumlaw19.TimerSteps", spec := "timerSteps", inPlace := ["internal/bytealg.CountString", "internal/bytealg.IndexByteString", "internal/bytealg.IndexString"], unfollowed := true, recurses := true, named := ["unicode/utf8.first", "unicode/utf8.acceptRanges", "internal/bytealg.MaxLen"], apart := false, laid := [("unicode/utf8.acceptRanges", laid_unicode_utf8_acceptRanges), ("unicode/utf8.first", laid_unicode_utf8_first)] }
def TimerStepsSaid : Prop := timerStepsRow.holds Tryd.pinned (OpenSpec.ofChange timerStepsSpec)

/-- ITS FALSE NEIGHBOUR: 'it returns false'. Refute it at one input. -/
def timerStepsWrong : ChangeSpec := { name := "timerSteps", fn := fun _ => fun
  | [d1, d2, d3, d4, d5] => { results := [.lit (.bool false)], args := [d1, d2, d3, d4, d5] }
  | _ => none }
def TimerStepsWrongFalsely : Prop := timerStepsRow.holds Tryd.pinned (OpenSpec.ofChange timerStepsWrong)

/-- 'plenumlaw19.TimerSettles': WHATEVER THE INPUT: true; the input reads as it did. -/
def timerSettlesSpec : ChangeSpec := { name := "timerSettles", fn := fun _ => fun
  | [d1, d2, d3, d4] => { results := [.lit (.bool true)], args := [d1, d2, d3, d4] }
  | _ => none }
def timerSettlesRow : OpenClaim := { program := "ytmhfkdnblemfdaadoor", sum := "4760378623b35540356098e942c02495acd9eebbf84c09dcfefd7f11a88162de", func := "plenum/plenumlaw19.TimerSettles", spec := "timerSettles", inPlace := ["internal/bytealg.CountString", "internal/bytealg.IndexByteString", "internal/bytealg.IndexString"], unfollowed := true, recurses := true, named := ["unicode/utf8.first", "unicode/utf8.acceptRanges", "internal/bytealg.MaxLen"], apart := false, laid := [("unicode/utf8.acceptRanges", laid_unicode_utf8_acceptRanges), ("unicode/utf8.first", laid_unicode_utf8_first)] }
def TimerSettlesSaid : Prop := timerSettlesRow.holds Tryd.pinned (OpenSpec.ofChange timerSettlesSpec)

/-- ITS FALSE NEIGHBOUR: 'it returns false'. Refute it at one input. -/
def timerSettlesWrong : ChangeSpec := { name := "timerSettles", fn := fun _ => fun
  | [d1, d2, d3, d4] => { results := [.lit (.bool false)], args := [d1, d2, d3, d4] }
  | _ => none }
def TimerSettlesWrongFalsely : Prop := timerSettlesRow.holds Tryd.pinned (OpenSpec.ofChange timerSettlesWrong)

/-- 'plenumlaw19.TimerDelays': WHATEVER THE INPUT: true; the input reads as it did. -/
def timerDelaysSpec : ChangeSpec := { name := "timerDelays", fn := fun _ => fun
  | [d1, d2] => { results := [.lit (.bool true)], args := [d1, d2] }
  | _ => none }
def timerDelaysRow : OpenClaim := { program := "ytmhfkdnblemfdaadoor", sum := "4760378623b35540356098e942c02495acd9eebbf84c09dcfefd7f11a88162de", func := "plenum/plenumlaw19.TimerDelays", spec := "timerDelays", inPlace := ["internal/bytealg.CountString", "internal/bytealg.IndexByteString", "internal/bytealg.IndexString"], unfollowed := true, recurses := true, named := ["unicode/utf8.first", "unicode/utf8.acceptRanges", "internal/bytealg.MaxLen"], apart := false, laid := [("unicode/utf8.acceptRanges", laid_unicode_utf8_acceptRanges), ("unicode/utf8.first", laid_unicode_utf8_first)] }
def TimerDelaysSaid : Prop := timerDelaysRow.holds Tryd.pinned (OpenSpec.ofChange timerDelaysSpec)

/-- ITS FALSE NEIGHBOUR: 'it returns false'. Refute it at one input. -/
def timerDelaysWrong : ChangeSpec := { name := "timerDelays", fn := fun _ => fun
  | [d1, d2] => { results := [.lit (.bool false)], args := [d1, d2] }
  | _ => none }
def TimerDelaysWrongFalsely : Prop := timerDelaysRow.holds Tryd.pinned (OpenSpec.ofChange timerDelaysWrong)

/-- 'plenumlaw19.TimerPulses': WHATEVER THE INPUT: true; the input reads as it did. -/
def timerPulsesSpec : ChangeSpec := { name := "timerPulses", fn := fun _ => fun
  | [d1, d2] => { results := [.lit (.bool true)], args := [d1, d2] }
  | _ => none }
def timerPulsesRow : OpenClaim := { program := "ytmhfkdnblemfdaadoor", sum := "4760378623b35540356098e942c02495acd9eebbf84c09dcfefd7f11a88162de", func := "plenum/plenumlaw19.TimerPulses", spec := "timerPulses", inPlace := ["internal/bytealg.CountString", "internal/bytealg.IndexByteString", "internal/bytealg.IndexString"], unfollowed := true, recurses := true, named := ["unicode/utf8.first", "unicode/utf8.acceptRanges", "internal/bytealg.MaxLen"], apart := false, laid := [("unicode/utf8.acceptRanges", laid_unicode_utf8_acceptRanges), ("unicode/utf8.first", laid_unicode_utf8_first)] }
def TimerPulsesSaid : Prop := timerPulsesRow.holds Tryd.pinned (OpenSpec.ofChange timerPulsesSpec)

/-- ITS FALSE NEIGHBOUR: 'it returns false'. Refute it at one input. -/
def timerPulsesWrong : ChangeSpec := { name := "timerPulses", fn := fun _ => fun
  | [d1, d2] => { results := [.lit (.bool false)], args := [d1, d2] }
  | _ => none }
def TimerPulsesWrongFalsely : Prop := timerPulsesRow.holds Tryd.pinned (OpenSpec.ofChange timerPulsesWrong)

/-- 'plenumlaw19.TimerRest': WHATEVER THE INPUT: true; the input reads as it did. -/
def timerRestSpec : ChangeSpec := { name := "timerRest", fn := fun _ => fun
  | [d1, d2, d3] => { results := [.lit (.bool true)], args := [d1, d2, d3] }
  | _ => none }
def timerRestRow : OpenClaim := { program := "ytmhfkdnblemfdaadoor", sum := "4760378623b35540356098e942c02495acd9eebbf84c09dcfefd7f11a88162de", func := "plenum/plenumlaw19.TimerRest", spec := "timerRest", inPlace := ["internal/bytealg.CountString", "internal/bytealg.IndexByteString", "internal/bytealg.IndexString"], unfollowed := true, recurses := true, named := ["unicode/utf8.first", "unicode/utf8.acceptRanges", "internal/bytealg.MaxLen"], apart := false, laid := [("unicode/utf8.acceptRanges", laid_unicode_utf8_acceptRanges), ("unicode/utf8.first", laid_unicode_utf8_first)] }
def TimerRestSaid : Prop := timerRestRow.holds Tryd.pinned (OpenSpec.ofChange timerRestSpec)

/-- ITS FALSE NEIGHBOUR: 'it returns false'. Refute it at one input. -/
def timerRestWrong : ChangeSpec := { name := "timerRest", fn := fun _ => fun
  | [d1, d2, d3] => { results := [.lit (.bool false)], args := [d1, d2, d3] }
  | _ => none }
def TimerRestWrongFalsely : Prop := timerRestRow.holds Tryd.pinned (OpenSpec.ofChange timerRestWrong)

/-- 'plenumlaw19.TimerCounts': WHATEVER THE INPUT: true; the input reads as it did. -/
def timerCountsSpec : ChangeSpec := { name := "timerCounts", fn := fun _ => fun
  | [d1, d2, d3] => { results := [.lit (.bool true)], args := [d1, d2, d3] }
  | _ => none }
def timerCountsRow : OpenClaim := { program := "ytmhfkdnblemfdaadoor", sum := "4760378623b35540356098e942c02495acd9eebbf84c09dcfefd7f11a88162de", func := "plenum/plenumlaw19.TimerCounts", spec := "timerCounts", inPlace := ["internal/bytealg.CountString", "internal/bytealg.IndexByteString", "internal/bytealg.IndexString"], unfollowed := true, recurses := true, named := ["unicode/utf8.first", "unicode/utf8.acceptRanges", "internal/bytealg.MaxLen"], apart := false, laid := [("unicode/utf8.acceptRanges", laid_unicode_utf8_acceptRanges), ("unicode/utf8.first", laid_unicode_utf8_first)] }
def TimerCountsSaid : Prop := timerCountsRow.holds Tryd.pinned (OpenSpec.ofChange timerCountsSpec)

/-- ITS FALSE NEIGHBOUR: 'it returns false'. Refute it at one input. -/
def timerCountsWrong : ChangeSpec := { name := "timerCounts", fn := fun _ => fun
  | [d1, d2, d3] => { results := [.lit (.bool false)], args := [d1, d2, d3] }
  | _ => none }
def TimerCountsWrongFalsely : Prop := timerCountsRow.holds Tryd.pinned (OpenSpec.ofChange timerCountsWrong)

/-- 'plenumlaw19.TimerHolds': WHATEVER THE INPUT: true; the input reads as it did. -/
def timerHoldsSpec : ChangeSpec := { name := "timerHolds", fn := fun _ => fun
  | [d1, d2, d3, d4] => { results := [.lit (.bool true)], args := [d1, d2, d3, d4] }
  | _ => none }
def timerHoldsRow : OpenClaim := { program := "ytmhfkdnblemfdaadoor", sum := "4760378623b35540356098e942c02495acd9eebbf84c09dcfefd7f11a88162de", func := "plenum/plenumlaw19.TimerHolds", spec := "timerHolds", inPlace := ["internal/bytealg.CountString", "internal/bytealg.IndexByteString", "internal/bytealg.IndexString"], unfollowed := true, recurses := true, named := ["unicode/utf8.first", "unicode/utf8.acceptRanges", "internal/bytealg.MaxLen"], apart := false, laid := [("unicode/utf8.acceptRanges", laid_unicode_utf8_acceptRanges), ("unicode/utf8.first", laid_unicode_utf8_first)] }
def TimerHoldsSaid : Prop := timerHoldsRow.holds Tryd.pinned (OpenSpec.ofChange timerHoldsSpec)

/-- ITS FALSE NEIGHBOUR: 'it returns false'. Refute it at one input. -/
def timerHoldsWrong : ChangeSpec := { name := "timerHolds", fn := fun _ => fun
  | [d1, d2, d3, d4] => { results := [.lit (.bool false)], args := [d1, d2, d3, d4] }
  | _ => none }
def TimerHoldsWrongFalsely : Prop := timerHoldsRow.holds Tryd.pinned (OpenSpec.ofChange timerHoldsWrong)

/- THE SECOND FORM. 'bulk': how many values and letters a reading holds, each counted each time it is reached (what is shared counts as often as it is met; a slice's spare places count too). A statement '..UptoSaid' is the law's where the arguments, and the package variables that the reading takes, are together of bulk at most 1048576: NARROWER than '..Said'. Prove '..Said' where nothing that the law and all that it calls make is longer than what came in: it says more and counts as full. Else prove '..UptoSaid'. A law counts once. -/
mutual
def uptoBulk {H : Type} : DataW H → Nat
  | .lit (.string bytes) => bytes.length + 1
  | .lit _ => 1
  | .nil => 1
  | .ptr d => uptoBulk d + 1
  | .slice elems spare => uptoBulkAll elems + uptoBulkAll spare + 1
  | .agg parts => uptoBulkAll parts + 1
  | .iface _ d => uptoBulk d + 1
  | .map entries => uptoBulkEntries entries + 1
  | .held _ => 1
def uptoBulkAll {H : Type} : List (DataW H) → Nat
  | [] => 0
  | d :: r => uptoBulk d + uptoBulkAll r
def uptoBulkEntries {H : Type} : List (Lit × DataW H) → Nat
  | [] => 0
  | x :: r => uptoBulkEntry x + uptoBulkEntries r
def uptoBulkEntry {H : Type} : Lit × DataW H → Nat
  | (.string bytes, d) => bytes.length + uptoBulk d + 1
  | (_, d) => uptoBulk d + 1
 end
def uptoSmall : (H : Type) → List (DataW H) → Bool := fun _ ds => decide (uptoBulkAll ds ≤ 1048576)
def OpenSpec.upto (s : _root_.Go.ChangeSpec) : _root_.Go.OpenSpec := { _root_.Go.OpenSpec.ofChange s with cond := some uptoSmall }

/-- 'plenumlaw19.TimerSteps', WHERE WHAT IT READS IS OF BULK AT MOST 1048576: true; the input reads as it did. -/
def timerStepsUptoRow : OpenClaim := { program := "ytmhfkdnblemfdaadoor", sum := "4760378623b35540356098e942c02495acd9eebbf84c09dcfefd7f11a88162de", func := "plenum/plenumlaw19.TimerSteps", spec := "timerSteps", inPlace := ["internal/bytealg.CountString", "internal/bytealg.IndexByteString", "internal/bytealg.IndexString"], unfollowed := true, recurses := true, named := ["unicode/utf8.first", "unicode/utf8.acceptRanges", "internal/bytealg.MaxLen"], apart := false, laid := [("unicode/utf8.acceptRanges", laid_unicode_utf8_acceptRanges), ("unicode/utf8.first", laid_unicode_utf8_first)], narrowed := true }
def TimerStepsUptoSaid : Prop := timerStepsUptoRow.holds Tryd.pinned (OpenSpec.upto timerStepsSpec)

/-- 'plenumlaw19.TimerSettles', WHERE WHAT IT READS IS OF BULK AT MOST 1048576: true; the input reads as it did. -/
def timerSettlesUptoRow : OpenClaim := { program := "ytmhfkdnblemfdaadoor", sum := "4760378623b35540356098e942c02495acd9eebbf84c09dcfefd7f11a88162de", func := "plenum/plenumlaw19.TimerSettles", spec := "timerSettles", inPlace := ["internal/bytealg.CountString", "internal/bytealg.IndexByteString", "internal/bytealg.IndexString"], unfollowed := true, recurses := true, named := ["unicode/utf8.first", "unicode/utf8.acceptRanges", "internal/bytealg.MaxLen"], apart := false, laid := [("unicode/utf8.acceptRanges", laid_unicode_utf8_acceptRanges), ("unicode/utf8.first", laid_unicode_utf8_first)], narrowed := true }
def TimerSettlesUptoSaid : Prop := timerSettlesUptoRow.holds Tryd.pinned (OpenSpec.upto timerSettlesSpec)

/-- 'plenumlaw19.TimerDelays', WHERE WHAT IT READS IS OF BULK AT MOST 1048576: true; the input reads as it did. -/
def timerDelaysUptoRow : OpenClaim := { program := "ytmhfkdnblemfdaadoor", sum := "4760378623b35540356098e942c02495acd9eebbf84c09dcfefd7f11a88162de", func := "plenum/plenumlaw19.TimerDelays", spec := "timerDelays", inPlace := ["internal/bytealg.CountString", "internal/bytealg.IndexByteString", "internal/bytealg.IndexString"], unfollowed := true, recurses := true, named := ["unicode/utf8.first", "unicode/utf8.acceptRanges", "internal/bytealg.MaxLen"], apart := false, laid := [("unicode/utf8.acceptRanges", laid_unicode_utf8_acceptRanges), ("unicode/utf8.first", laid_unicode_utf8_first)], narrowed := true }
def TimerDelaysUptoSaid : Prop := timerDelaysUptoRow.holds Tryd.pinned (OpenSpec.upto timerDelaysSpec)

/-- 'plenumlaw19.TimerPulses', WHERE WHAT IT READS IS OF BULK AT MOST 1048576: true; the input reads as it did. -/
def timerPulsesUptoRow : OpenClaim := { program := "ytmhfkdnblemfdaadoor", sum := "4760378623b35540356098e942c02495acd9eebbf84c09dcfefd7f11a88162de", func := "plenum/plenumlaw19.TimerPulses", spec := "timerPulses", inPlace := ["internal/bytealg.CountString", "internal/bytealg.IndexByteString", "internal/bytealg.IndexString"], unfollowed := true, recurses := true, named := ["unicode/utf8.first", "unicode/utf8.acceptRanges", "internal/bytealg.MaxLen"], apart := false, laid := [("unicode/utf8.acceptRanges", laid_unicode_utf8_acceptRanges), ("unicode/utf8.first", laid_unicode_utf8_first)], narrowed := true }
def TimerPulsesUptoSaid : Prop := timerPulsesUptoRow.holds Tryd.pinned (OpenSpec.upto timerPulsesSpec)

/-- 'plenumlaw19.TimerRest', WHERE WHAT IT READS IS OF BULK AT MOST 1048576: true; the input reads as it did. -/
def timerRestUptoRow : OpenClaim := { program := "ytmhfkdnblemfdaadoor", sum := "4760378623b35540356098e942c02495acd9eebbf84c09dcfefd7f11a88162de", func := "plenum/plenumlaw19.TimerRest", spec := "timerRest", inPlace := ["internal/bytealg.CountString", "internal/bytealg.IndexByteString", "internal/bytealg.IndexString"], unfollowed := true, recurses := true, named := ["unicode/utf8.first", "unicode/utf8.acceptRanges", "internal/bytealg.MaxLen"], apart := false, laid := [("unicode/utf8.acceptRanges", laid_unicode_utf8_acceptRanges), ("unicode/utf8.first", laid_unicode_utf8_first)], narrowed := true }
def TimerRestUptoSaid : Prop := timerRestUptoRow.holds Tryd.pinned (OpenSpec.upto timerRestSpec)

/-- 'plenumlaw19.TimerCounts', WHERE WHAT IT READS IS OF BULK AT MOST 1048576: true; the input reads as it did. -/
def timerCountsUptoRow : OpenClaim := { program := "ytmhfkdnblemfdaadoor", sum := "4760378623b35540356098e942c02495acd9eebbf84c09dcfefd7f11a88162de", func := "plenum/plenumlaw19.TimerCounts", spec := "timerCounts", inPlace := ["internal/bytealg.CountString", "internal/bytealg.IndexByteString", "internal/bytealg.IndexString"], unfollowed := true, recurses := true, named := ["unicode/utf8.first", "unicode/utf8.acceptRanges", "internal/bytealg.MaxLen"], apart := false, laid := [("unicode/utf8.acceptRanges", laid_unicode_utf8_acceptRanges), ("unicode/utf8.first", laid_unicode_utf8_first)], narrowed := true }
def TimerCountsUptoSaid : Prop := timerCountsUptoRow.holds Tryd.pinned (OpenSpec.upto timerCountsSpec)

/-- 'plenumlaw19.TimerHolds', WHERE WHAT IT READS IS OF BULK AT MOST 1048576: true; the input reads as it did. -/
def timerHoldsUptoRow : OpenClaim := { program := "ytmhfkdnblemfdaadoor", sum := "4760378623b35540356098e942c02495acd9eebbf84c09dcfefd7f11a88162de", func := "plenum/plenumlaw19.TimerHolds", spec := "timerHolds", inPlace := ["internal/bytealg.CountString", "internal/bytealg.IndexByteString", "internal/bytealg.IndexString"], unfollowed := true, recurses := true, named := ["unicode/utf8.first", "unicode/utf8.acceptRanges", "internal/bytealg.MaxLen"], apart := false, laid := [("unicode/utf8.acceptRanges", laid_unicode_utf8_acceptRanges), ("unicode/utf8.first", laid_unicode_utf8_first)], narrowed := true }
def TimerHoldsUptoSaid : Prop := timerHoldsUptoRow.holds Tryd.pinned (OpenSpec.upto timerHoldsSpec)

end Rows
end Go.Proofs.YtmhfkdnblemfdaaDoor
