/-
  NARROWER THAN 'FOR EVERY INPUT', by the rows' own cells (each row's printed sentence says how): SequencerSteps: laid · SequencerSettles: laid · SequencerLasts: laid · SequencerDelays: laid · SequencerEnds: laid · SequencerWaits: laid.
  DERIVED. THE GIVEN ROWS OF THIS SEAT. 6 by the template 'for every input the law returns true; each argument reads behind the call as it read before'; 0 by the template 'total and deterministic' (their statements: YthaigchklogjlaaDoorTotals.lean).
  GIVEN WITH THE SEED: the statements are not yours to turn. If you find one false, say at which input.
  Laid BY PROGRAM, IN A SANDBOX (cutbox-rows.mjs): the forced cells as the released guide's own fill.sh prints them over the translation 1d3940aa91de21ac… (all of the seat's roots in one cut). By AI agents, Wed Nov 11 2026. No macro, syntax, notation, axiom, sorry.
-/
import Derived.Test.YthaigchklogjlaaDoorChecked
import GoSem.PinnedTables
import GoSem.Claim
import GoSem.ClaimJoined
import GoSem.ClaimMapViews
import Derived.JoinedTies
import Derived.KernelRfl
namespace Go.Proofs.YthaigchklogjlaaDoor
/- THE CELL 'sum', in the pinned program and in every row, IS THE sha256 OF THE DUMP (.gsa) THAT YthaigchklogjlaaDoorProg.lean LOADS. Nothing in Lean hashes anything: it is a label: what it is worth is what the hold of that sum in a sandbox is worth. -/
noncomputable def Tryd.pinned : Pinned := { name := "ythaigchklogjlaadoor", sum := "1d3940aa91de21acd58a809421c439386c596ab54023edc9169c1091c1eec611", checked := Tryd.checked }
namespace Rows
def none {H : Type} : Left H := { results := [], args := [] }

/- WHAT THE LISTED PACKAGE-LEVEL VARIABLES READ AS WHEN THE CALL BEGINS. Each datum BY PROGRAM (the guide's laid-datum.mjs) off the statement by which the dump's own 'gosem.cut.vars' lays the variable. In a bare row this is a premise. The card (YthaigchklogjlaaDoorCards.lean) ties it to the program's text. -/
def laid_unicode_utf8_acceptRanges {H : Type} : DataW H := .agg [.agg [.lit (.int .u8 128), .lit (.int .u8 191)], .agg [.lit (.int .u8 160), .lit (.int .u8 191)], .agg [.lit (.int .u8 128), .lit (.int .u8 159)], .agg [.lit (.int .u8 144), .lit (.int .u8 191)], .agg [.lit (.int .u8 128), .lit (.int .u8 143)], .agg [.lit (.int .u8 0), .lit (.int .u8 0)], .agg [.lit (.int .u8 0), .lit (.int .u8 0)], .agg [.lit (.int .u8 0), .lit (.int .u8 0)], .agg [.lit (.int .u8 0), .lit (.int .u8 0)], .agg [.lit (.int .u8 0), .lit (.int .u8 0)], .agg [.lit (.int .u8 0), .lit (.int .u8 0)], .agg [.lit (.int .u8 0), .lit (.int .u8 0)], .agg [.lit (.int .u8 0), .lit (.int .u8 0)], .agg [.lit (.int .u8 0), .lit (.int .u8 0)], .agg [.lit (.int .u8 0), .lit (.int .u8 0)], .agg [.lit (.int .u8 0), .lit (.int .u8 0)]]
/-- One of Go's own tables, pinned by name: the form's constant. -/
def laid_unicode_utf8_first : DataW Unit := Go.Pinned.utf8First

/-- 'plenumlaw21.SequencerSteps': WHATEVER THE INPUT: true; the input reads as it did. -/
def sequencerStepsSpec : ChangeSpec := { name := "sequencerSteps", fn := fun _ => fun
  | [d1, d2, d3, d4, d5] => { results := [.lit (.bool true)], args := [d1, d2, d3, d4, d5] }
  | _ => none }
def sequencerStepsRow : OpenClaim := { program := "ythaigchklogjlaadoor", sum := "1d3940aa91de21acd58a809421c439386c596ab54023edc9169c1091c1eec611", func := "plenum/plenumlaw21.SequencerSteps", spec := "sequencerSteps", inPlace := ["internal/bytealg.CountString", "internal/bytealg.IndexByteString", "internal/bytealg.IndexString"], unfollowed := true, recurses := true, named := ["unicode/utf8.first", "unicode/utf8.acceptRanges", "internal/bytealg.MaxLen"], apart := false, laid := [("unicode/utf8.acceptRanges", laid_unicode_utf8_acceptRanges), ("unicode/utf8.first", laid_unicode_utf8_first)] }
def SequencerStepsSaid : Prop := sequencerStepsRow.holds Tryd.pinned (OpenSpec.ofChange sequencerStepsSpec)

/-- ITS FALSE NEIGHBOUR: 'it returns false'. Refute it at one input. -/
def sequencerStepsWrong : ChangeSpec := { name := "sequencerSteps", fn := fun _ => fun
  | [d1, d2, d3, d4, d5] => { results := [.lit (.bool false)], args := [d1, d2, d3, d4, d5] }
  | _ => none }
def SequencerStepsWrongFalsely : Prop := sequencerStepsRow.holds Tryd.pinned (OpenSpec.ofChange sequencerStepsWrong)

/-- 'plenumlaw21.SequencerSettles': WHATEVER THE INPUT: true; the input reads as it did. -/
def sequencerSettlesSpec : ChangeSpec := { name := "sequencerSettles", fn := fun _ => fun
  | [d1, d2, d3, d4] => { results := [.lit (.bool true)], args := [d1, d2, d3, d4] }
  | _ => none }
def sequencerSettlesRow : OpenClaim := { program := "ythaigchklogjlaadoor", sum := "1d3940aa91de21acd58a809421c439386c596ab54023edc9169c1091c1eec611", func := "plenum/plenumlaw21.SequencerSettles", spec := "sequencerSettles", inPlace := ["internal/bytealg.CountString", "internal/bytealg.IndexByteString", "internal/bytealg.IndexString"], unfollowed := true, recurses := true, named := ["unicode/utf8.first", "unicode/utf8.acceptRanges", "internal/bytealg.MaxLen"], apart := false, laid := [("unicode/utf8.acceptRanges", laid_unicode_utf8_acceptRanges), ("unicode/utf8.first", laid_unicode_utf8_first)] }
def SequencerSettlesSaid : Prop := sequencerSettlesRow.holds Tryd.pinned (OpenSpec.ofChange sequencerSettlesSpec)

/-- ITS FALSE NEIGHBOUR: 'it returns false'. Refute it at one input. -/
def sequencerSettlesWrong : ChangeSpec := { name := "sequencerSettles", fn := fun _ => fun
  | [d1, d2, d3, d4] => { results := [.lit (.bool false)], args := [d1, d2, d3, d4] }
  | _ => none }
def SequencerSettlesWrongFalsely : Prop := sequencerSettlesRow.holds Tryd.pinned (OpenSpec.ofChange sequencerSettlesWrong)

/-- 'plenumlaw21.SequencerLasts': WHATEVER THE INPUT: true; the input reads as it did. -/
def sequencerLastsSpec : ChangeSpec := { name := "sequencerLasts", fn := fun _ => fun
  | [d1, d2] => { results := [.lit (.bool true)], args := [d1, d2] }
  | _ => none }
def sequencerLastsRow : OpenClaim := { program := "ythaigchklogjlaadoor", sum := "1d3940aa91de21acd58a809421c439386c596ab54023edc9169c1091c1eec611", func := "plenum/plenumlaw21.SequencerLasts", spec := "sequencerLasts", inPlace := ["internal/bytealg.CountString", "internal/bytealg.IndexByteString", "internal/bytealg.IndexString"], unfollowed := true, recurses := true, named := ["unicode/utf8.first", "unicode/utf8.acceptRanges", "internal/bytealg.MaxLen"], apart := false, laid := [("unicode/utf8.acceptRanges", laid_unicode_utf8_acceptRanges), ("unicode/utf8.first", laid_unicode_utf8_first)] }
def SequencerLastsSaid : Prop := sequencerLastsRow.holds Tryd.pinned (OpenSpec.ofChange sequencerLastsSpec)

/-- ITS FALSE NEIGHBOUR: 'it returns false'. Refute it at one input. -/
def sequencerLastsWrong : ChangeSpec := { name := "sequencerLasts", fn := fun _ => fun
  | [d1, d2] => { results := [.lit (.bool false)], args := [d1, d2] }
  | _ => none }
def SequencerLastsWrongFalsely : Prop := sequencerLastsRow.holds Tryd.pinned (OpenSpec.ofChange sequencerLastsWrong)

/-- 'plenumlaw21.SequencerDelays': WHATEVER THE INPUT: true; the input reads as it did. -/
def sequencerDelaysSpec : ChangeSpec := { name := "sequencerDelays", fn := fun _ => fun
  | [d1, d2, d3] => { results := [.lit (.bool true)], args := [d1, d2, d3] }
  | _ => none }
def sequencerDelaysRow : OpenClaim := { program := "ythaigchklogjlaadoor", sum := "1d3940aa91de21acd58a809421c439386c596ab54023edc9169c1091c1eec611", func := "plenum/plenumlaw21.SequencerDelays", spec := "sequencerDelays", inPlace := ["internal/bytealg.CountString", "internal/bytealg.IndexByteString", "internal/bytealg.IndexString"], unfollowed := true, recurses := true, named := ["unicode/utf8.first", "unicode/utf8.acceptRanges", "internal/bytealg.MaxLen"], apart := false, laid := [("unicode/utf8.acceptRanges", laid_unicode_utf8_acceptRanges), ("unicode/utf8.first", laid_unicode_utf8_first)] }
def SequencerDelaysSaid : Prop := sequencerDelaysRow.holds Tryd.pinned (OpenSpec.ofChange sequencerDelaysSpec)

/-- ITS FALSE NEIGHBOUR: 'it returns false'. Refute it at one input. -/
def sequencerDelaysWrong : ChangeSpec := { name := "sequencerDelays", fn := fun _ => fun
  | [d1, d2, d3] => { results := [.lit (.bool false)], args := [d1, d2, d3] }
  | _ => none }
def SequencerDelaysWrongFalsely : Prop := sequencerDelaysRow.holds Tryd.pinned (OpenSpec.ofChange sequencerDelaysWrong)

/-- 'plenumlaw21.SequencerEnds': WHATEVER THE INPUT: true; the input reads as it did. -/
def sequencerEndsSpec : ChangeSpec := { name := "sequencerEnds", fn := fun _ => fun
  | [d1, d2, d3, d4] => { results := [.lit (.bool true)], args := [d1, d2, d3, d4] }
  | _ => none }
def sequencerEndsRow : OpenClaim := { program := "ythaigchklogjlaadoor", sum := "1d3940aa91de21acd58a809421c439386c596ab54023edc9169c1091c1eec611", func := "plenum/plenumlaw21.SequencerEnds", spec := "sequencerEnds", inPlace := ["internal/bytealg.CountString", "internal/bytealg.IndexByteString", "internal/bytealg.IndexString"], unfollowed := true, recurses := true, named := ["unicode/utf8.first", "unicode/utf8.acceptRanges", "internal/bytealg.MaxLen"], apart := false, laid := [("unicode/utf8.acceptRanges", laid_unicode_utf8_acceptRanges), ("unicode/utf8.first", laid_unicode_utf8_first)] }
def SequencerEndsSaid : Prop := sequencerEndsRow.holds Tryd.pinned (OpenSpec.ofChange sequencerEndsSpec)

/-- ITS FALSE NEIGHBOUR: 'it returns false'. Refute it at one input. -/
def sequencerEndsWrong : ChangeSpec := { name := "sequencerEnds", fn := fun _ => fun
  | [d1, d2, d3, d4] => { results := [.lit (.bool false)], args := [d1, d2, d3, d4] }
  | _ => none }
def SequencerEndsWrongFalsely : Prop := sequencerEndsRow.holds Tryd.pinned (OpenSpec.ofChange sequencerEndsWrong)

/-- 'plenumlaw21.SequencerWaits': WHATEVER THE INPUT: true; the input reads as it did. -/
def sequencerWaitsSpec : ChangeSpec := { name := "sequencerWaits", fn := fun _ => fun
  | [d1, d2, d3] => { results := [.lit (.bool true)], args := [d1, d2, d3] }
  | _ => none }
def sequencerWaitsRow : OpenClaim := { program := "ythaigchklogjlaadoor", sum := "1d3940aa91de21acd58a809421c439386c596ab54023edc9169c1091c1eec611", func := "plenum/plenumlaw21.SequencerWaits", spec := "sequencerWaits", inPlace := ["internal/bytealg.CountString", "internal/bytealg.IndexByteString", "internal/bytealg.IndexString"], unfollowed := true, recurses := true, named := ["unicode/utf8.first", "unicode/utf8.acceptRanges", "internal/bytealg.MaxLen"], apart := false, laid := [("unicode/utf8.acceptRanges", laid_unicode_utf8_acceptRanges), ("unicode/utf8.first", laid_unicode_utf8_first)] }
def SequencerWaitsSaid : Prop := sequencerWaitsRow.holds Tryd.pinned (OpenSpec.ofChange sequencerWaitsSpec)

/-- ITS FALSE NEIGHBOUR: 'it returns false'. Refute it at one input. -/
def sequencerWaitsWrong : ChangeSpec := { name := "sequencerWaits", fn := fun _ => fun
  | [d1, d2, d3] => { results := [.lit (.bool false)], args := [d1, d2, d3] }
  | _ => none }
def SequencerWaitsWrongFalsely : Prop := sequencerWaitsRow.holds Tryd.pinned (OpenSpec.ofChange sequencerWaitsWrong)

/- THE SECOND FORM. 'bulk': how many values and letters a reading holds, each counted each time it is reached (what is shared counts as often as it is met; a slice's spare places count too). A statement '..UptoSaid' is the law's where the arguments, and the package variables that the reading takes, are together of bulk at most 1048576: NARROWER than '..Said'. Prove '..Said' where nothing that the law and all that it calls make is longer than what came in: it says more and counts as full. Else prove '..UptoSaid'. A law counts once. -/
mutual
def uptoBulk {H : Type} : DataW H → Nat
  | .lit (.string bytes) => bytes.length + 1
  | .lit _ => 1
  | .nil => 1
  | .ptr d => uptoBulk d + 1
  | .slice elems spare => uptoBulkAll elems + uptoBulkAll spare + 1
  | .agg parts => uptoBulkAll parts + 1
  | .iface _ d => uptoBulk d + 1
  | .map entries => uptoBulkEntries entries + 1
  | .held _ => 1
def uptoBulkAll {H : Type} : List (DataW H) → Nat
  | [] => 0
  | d :: r => uptoBulk d + uptoBulkAll r
def uptoBulkEntries {H : Type} : List (Lit × DataW H) → Nat
  | [] => 0
  | x :: r => uptoBulkEntry x + uptoBulkEntries r
def uptoBulkEntry {H : Type} : Lit × DataW H → Nat
  | (.string bytes, d) => bytes.length + uptoBulk d + 1
  | (_, d) => uptoBulk d + 1
 end
def uptoSmall : (H : Type) → List (DataW H) → Bool := fun _ ds => decide (uptoBulkAll ds ≤ 1048576)
def OpenSpec.upto (s : _root_.Go.ChangeSpec) : _root_.Go.OpenSpec := { _root_.Go.OpenSpec.ofChange s with cond := some uptoSmall }

/-- 'plenumlaw21.SequencerSteps', WHERE WHAT IT READS IS OF BULK AT MOST 1048576: true; the input reads as it did. -/
def sequencerStepsUptoRow : OpenClaim := { program := "ythaigchklogjlaadoor", sum := "1d3940aa91de21acd58a809421c439386c596ab54023edc9169c1091c1eec611", func := "plenum/plenumlaw21.SequencerSteps", spec := "sequencerSteps", inPlace := ["internal/bytealg.CountString", "internal/bytealg.IndexByteString", "internal/bytealg.IndexString"], unfollowed := true, recurses := true, named := ["unicode/utf8.first", "unicode/utf8.acceptRanges", "internal/bytealg.MaxLen"], apart := false, laid := [("unicode/utf8.acceptRanges", laid_unicode_utf8_acceptRanges), ("unicode/utf8.first", laid_unicode_utf8_first)], narrowed := true }
def SequencerStepsUptoSaid : Prop := sequencerStepsUptoRow.holds Tryd.pinned (OpenSpec.upto sequencerStepsSpec)

/-- 'plenumlaw21.SequencerSettles', WHERE WHAT IT READS IS OF BULK AT MOST 1048576: true; the input reads as it did. -/
def sequencerSettlesUptoRow : OpenClaim := { program := "ythaigchklogjlaadoor", sum := "1d3940aa91de21acd58a809421c439386c596ab54023edc9169c1091c1eec611", func := "plenum/plenumlaw21.SequencerSettles", spec := "sequencerSettles", inPlace := ["internal/bytealg.CountString", "internal/bytealg.IndexByteString", "internal/bytealg.IndexString"], unfollowed := true, recurses := true, named := ["unicode/utf8.first", "unicode/utf8.acceptRanges", "internal/bytealg.MaxLen"], apart := false, laid := [("unicode/utf8.acceptRanges", laid_unicode_utf8_acceptRanges), ("unicode/utf8.first", laid_unicode_utf8_first)], narrowed := true }
def SequencerSettlesUptoSaid : Prop := sequencerSettlesUptoRow.holds Tryd.pinned (OpenSpec.upto sequencerSettlesSpec)

/-- 'plenumlaw21.SequencerLasts', WHERE WHAT IT READS IS OF BULK AT MOST 1048576: true; the input reads as it did. -/
def sequencerLastsUptoRow : OpenClaim := { program := "ythaigchklogjlaadoor", sum := "1d3940aa91de21acd58a809421c439386c596ab54023edc9169c1091c1eec611", func := "plenum/plenumlaw21.SequencerLasts", spec := "sequencerLasts", inPlace := ["internal/bytealg.CountString", "internal/bytealg.IndexByteString", "internal/bytealg.IndexString"], unfollowed := true, recurses := true, named := ["unicode/utf8.first", "unicode/utf8.acceptRanges", "internal/bytealg.MaxLen"], apart := false, laid := [("unicode/utf8.acceptRanges", laid_unicode_utf8_acceptRanges), ("unicode/utf8.first", laid_unicode_utf8_first)], narrowed := true }
def SequencerLastsUptoSaid : Prop := sequencerLastsUptoRow.holds Tryd.pinned (OpenSpec.upto sequencerLastsSpec)

/-- 'plenumlaw21.SequencerDelays', WHERE WHAT IT READS IS OF BULK AT MOST 1048576: true; the input reads as it did. -/
def sequencerDelaysUptoRow : OpenClaim := { program := "ythaigchklogjlaadoor", sum := "1d3940aa91de21acd58a809421c439386c596ab54023edc9169c1091c1eec611", func := "plenum/plenumlaw21.SequencerDelays", spec := "sequencerDelays", inPlace := ["internal/bytealg.CountString", "internal/bytealg.IndexByteString", "internal/bytealg.IndexString"], unfollowed := true, recurses := true, named := ["unicode/utf8.first", "unicode/utf8.acceptRanges", "internal/bytealg.MaxLen"], apart := false, laid := [("unicode/utf8.acceptRanges", laid_unicode_utf8_acceptRanges), ("unicode/utf8.first", laid_unicode_utf8_first)], narrowed := true }
def SequencerDelaysUptoSaid : Prop := sequencerDelaysUptoRow.holds Tryd.pinned (OpenSpec.upto sequencerDelaysSpec)

/-- 'plenumlaw21.SequencerEnds', WHERE WHAT IT READS IS OF BULK AT MOST 1048576: true; the input reads as it did. -/
def sequencerEndsUptoRow : OpenClaim := { program := "ythaigchklogjlaadoor", sum := "1d3940aa91de21acd58a809421c439386c596ab54023edc9169c1091c1eec611", func := "plenum/plenumlaw21.SequencerEnds", spec := "sequencerEnds", inPlace := ["internal/bytealg.CountString", "internal/bytealg.IndexByteString", "internal/bytealg.IndexString"], unfollowed := true, recurses := true, named := ["unicode/utf8.first", "unicode/utf8.acceptRanges", "internal/bytealg.MaxLen"], apart := false, laid := [("unicode/utf8.acceptRanges", laid_unicode_utf8_acceptRanges), ("unicode/utf8.first", laid_unicode_utf8_first)], narrowed := true }
def SequencerEndsUptoSaid : Prop := sequencerEndsUptoRow.holds Tryd.pinned (OpenSpec.upto sequencerEndsSpec)

/-- 'plenumlaw21.SequencerWaits', WHERE WHAT IT READS IS OF BULK AT MOST 1048576: true; the input reads as it did. -/
def sequencerWaitsUptoRow : OpenClaim := { program := "ythaigchklogjlaadoor", sum := "1d3940aa91de21acd58a809421c439386c596ab54023edc9169c1091c1eec611", func := "plenum/plenumlaw21.SequencerWaits", spec := "sequencerWaits", inPlace := ["internal/bytealg.CountString", "internal/bytealg.IndexByteString", "internal/bytealg.IndexString"], unfollowed := true, recurses := true, named := ["unicode/utf8.first", "unicode/utf8.acceptRanges", "internal/bytealg.MaxLen"], apart := false, laid := [("unicode/utf8.acceptRanges", laid_unicode_utf8_acceptRanges), ("unicode/utf8.first", laid_unicode_utf8_first)], narrowed := true }
def SequencerWaitsUptoSaid : Prop := sequencerWaitsUptoRow.holds Tryd.pinned (OpenSpec.upto sequencerWaitsSpec)

end Rows
end Go.Proofs.YthaigchklogjlaaDoor
