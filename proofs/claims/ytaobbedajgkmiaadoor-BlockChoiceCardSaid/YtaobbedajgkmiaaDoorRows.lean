/-
  NARROWER THAN 'FOR EVERY INPUT', by the rows' own cells (each row's printed sentence says how): BlockLibrary: laid · BlockParams: laid · BlockInputs: laid · BlockLogic: laid · BlockBounds: laid · BlockMonotone: laid · BlockChoice: laid.
  DERIVED. THE GIVEN ROWS OF THIS SEAT. 7 by the template 'for every input the law returns true; each argument reads behind the call as it read before'; 0 by the template 'total and deterministic' (their statements: YtaobbedajgkmiaaDoorTotals.lean).
  GIVEN WITH THE SEED: the statements are not yours to turn. If you find one false, say at which input.
  Laid BY PROGRAM, IN A SANDBOX (cutbox-rows.mjs): the forced cells as the released guide's own fill.sh prints them over the translation 6e1808c6dbea87ed… (all of the seat's roots in one cut). By AI agents, Wed Nov 11 2026. No macro, syntax, notation, axiom, sorry.
-/
import Derived.Test.YtaobbedajgkmiaaDoorChecked
import GoSem.PinnedTables
import GoSem.Claim
import GoSem.ClaimJoined
import GoSem.ClaimMapViews
import Derived.JoinedTies
import Derived.KernelRfl
namespace Go.Proofs.YtaobbedajgkmiaaDoor
/- THE CELL 'sum', in the pinned program and in every row, IS THE sha256 OF THE DUMP (.gsa) THAT YtaobbedajgkmiaaDoorProg.lean LOADS. Nothing in Lean hashes anything: it is a label: what it is worth is what the hold of that sum in a sandbox is worth. -/
noncomputable def Tryd.pinned : Pinned := { name := "ytaobbedajgkmiaadoor", sum := "6e1808c6dbea87ed3c85d0678ae8a2491d7e8b460308516cba643b35ca71d7db", checked := Tryd.checked }
namespace Rows
def none {H : Type} : Left H := { results := [], args := [] }

/- WHAT THE LISTED PACKAGE-LEVEL VARIABLES READ AS WHEN THE CALL BEGINS. Each datum BY PROGRAM (the guide's laid-datum.mjs) off the statement by which the dump's own 'gosem.cut.vars' lays the variable. In a bare row this is a premise. The card (YtaobbedajgkmiaaDoorCards.lean) ties it to the program's text. -/
def laid_unicode_utf8_acceptRanges {H : Type} : DataW H := .agg [.agg [.lit (.int .u8 128), .lit (.int .u8 191)], .agg [.lit (.int .u8 160), .lit (.int .u8 191)], .agg [.lit (.int .u8 128), .lit (.int .u8 159)], .agg [.lit (.int .u8 144), .lit (.int .u8 191)], .agg [.lit (.int .u8 128), .lit (.int .u8 143)], .agg [.lit (.int .u8 0), .lit (.int .u8 0)], .agg [.lit (.int .u8 0), .lit (.int .u8 0)], .agg [.lit (.int .u8 0), .lit (.int .u8 0)], .agg [.lit (.int .u8 0), .lit (.int .u8 0)], .agg [.lit (.int .u8 0), .lit (.int .u8 0)], .agg [.lit (.int .u8 0), .lit (.int .u8 0)], .agg [.lit (.int .u8 0), .lit (.int .u8 0)], .agg [.lit (.int .u8 0), .lit (.int .u8 0)], .agg [.lit (.int .u8 0), .lit (.int .u8 0)], .agg [.lit (.int .u8 0), .lit (.int .u8 0)], .agg [.lit (.int .u8 0), .lit (.int .u8 0)]]
/-- One of Go's own tables, pinned by name: the form's constant. -/
def laid_unicode_utf8_first : DataW Unit := Go.Pinned.utf8First

/-- 'plenumlaw18.BlockLibrary': WHATEVER THE INPUT: true; the input reads as it did. -/
def blockLibrarySpec : ChangeSpec := { name := "blockLibrary", fn := fun _ => fun
  | [d] => { results := [.lit (.bool true)], args := [d] }
  | _ => none }
def blockLibraryRow : OpenClaim := { program := "ytaobbedajgkmiaadoor", sum := "6e1808c6dbea87ed3c85d0678ae8a2491d7e8b460308516cba643b35ca71d7db", func := "plenum/plenumlaw18.BlockLibrary", spec := "blockLibrary", inPlace := ["math/bits.Add64", "internal/bytealg.CountString", "internal/bytealg.IndexByteString", "internal/bytealg.IndexString"], unfollowed := true, recurses := true, named := ["math/bits.divideError", "math/bits.overflowError", "unicode/utf8.first", "unicode/utf8.acceptRanges", "internal/bytealg.MaxLen"], apart := false, laid := [("unicode/utf8.acceptRanges", laid_unicode_utf8_acceptRanges), ("unicode/utf8.first", laid_unicode_utf8_first)] }
def BlockLibrarySaid : Prop := blockLibraryRow.holds Tryd.pinned (OpenSpec.ofChange blockLibrarySpec)

/-- ITS FALSE NEIGHBOUR: 'it returns false'. Refute it at one input. -/
def blockLibraryWrong : ChangeSpec := { name := "blockLibrary", fn := fun _ => fun
  | [d] => { results := [.lit (.bool false)], args := [d] }
  | _ => none }
def BlockLibraryWrongFalsely : Prop := blockLibraryRow.holds Tryd.pinned (OpenSpec.ofChange blockLibraryWrong)

/-- 'plenumlaw18.BlockParams': WHATEVER THE INPUT: true; the input reads as it did. -/
def blockParamsSpec : ChangeSpec := { name := "blockParams", fn := fun _ => fun
  | [d1, d2] => { results := [.lit (.bool true)], args := [d1, d2] }
  | _ => none }
def blockParamsRow : OpenClaim := { program := "ytaobbedajgkmiaadoor", sum := "6e1808c6dbea87ed3c85d0678ae8a2491d7e8b460308516cba643b35ca71d7db", func := "plenum/plenumlaw18.BlockParams", spec := "blockParams", inPlace := ["math/bits.Add64", "internal/bytealg.CountString", "internal/bytealg.IndexByteString", "internal/bytealg.IndexString"], unfollowed := true, recurses := true, named := ["math/bits.divideError", "math/bits.overflowError", "unicode/utf8.first", "unicode/utf8.acceptRanges", "internal/bytealg.MaxLen"], apart := false, laid := [("unicode/utf8.acceptRanges", laid_unicode_utf8_acceptRanges), ("unicode/utf8.first", laid_unicode_utf8_first)] }
def BlockParamsSaid : Prop := blockParamsRow.holds Tryd.pinned (OpenSpec.ofChange blockParamsSpec)

/-- ITS FALSE NEIGHBOUR: 'it returns false'. Refute it at one input. -/
def blockParamsWrong : ChangeSpec := { name := "blockParams", fn := fun _ => fun
  | [d1, d2] => { results := [.lit (.bool false)], args := [d1, d2] }
  | _ => none }
def BlockParamsWrongFalsely : Prop := blockParamsRow.holds Tryd.pinned (OpenSpec.ofChange blockParamsWrong)

/-- 'plenumlaw18.BlockInputs': WHATEVER THE INPUT: true; the input reads as it did. -/
def blockInputsSpec : ChangeSpec := { name := "blockInputs", fn := fun _ => fun
  | [d1, d2] => { results := [.lit (.bool true)], args := [d1, d2] }
  | _ => none }
def blockInputsRow : OpenClaim := { program := "ytaobbedajgkmiaadoor", sum := "6e1808c6dbea87ed3c85d0678ae8a2491d7e8b460308516cba643b35ca71d7db", func := "plenum/plenumlaw18.BlockInputs", spec := "blockInputs", inPlace := ["math/bits.Add64", "internal/bytealg.CountString", "internal/bytealg.IndexByteString", "internal/bytealg.IndexString"], unfollowed := true, recurses := true, named := ["math/bits.divideError", "math/bits.overflowError", "unicode/utf8.first", "unicode/utf8.acceptRanges", "internal/bytealg.MaxLen"], apart := false, laid := [("unicode/utf8.acceptRanges", laid_unicode_utf8_acceptRanges), ("unicode/utf8.first", laid_unicode_utf8_first)] }
def BlockInputsSaid : Prop := blockInputsRow.holds Tryd.pinned (OpenSpec.ofChange blockInputsSpec)

/-- ITS FALSE NEIGHBOUR: 'it returns false'. Refute it at one input. -/
def blockInputsWrong : ChangeSpec := { name := "blockInputs", fn := fun _ => fun
  | [d1, d2] => { results := [.lit (.bool false)], args := [d1, d2] }
  | _ => none }
def BlockInputsWrongFalsely : Prop := blockInputsRow.holds Tryd.pinned (OpenSpec.ofChange blockInputsWrong)

/-- 'plenumlaw18.BlockLogic': WHATEVER THE INPUT: true; the input reads as it did. -/
def blockLogicSpec : ChangeSpec := { name := "blockLogic", fn := fun _ => fun
  | [d] => { results := [.lit (.bool true)], args := [d] }
  | _ => none }
def blockLogicRow : OpenClaim := { program := "ytaobbedajgkmiaadoor", sum := "6e1808c6dbea87ed3c85d0678ae8a2491d7e8b460308516cba643b35ca71d7db", func := "plenum/plenumlaw18.BlockLogic", spec := "blockLogic", inPlace := ["math/bits.Add64", "internal/bytealg.CountString", "internal/bytealg.IndexByteString", "internal/bytealg.IndexString"], unfollowed := true, recurses := true, named := ["math/bits.divideError", "math/bits.overflowError", "unicode/utf8.first", "unicode/utf8.acceptRanges", "internal/bytealg.MaxLen"], apart := false, laid := [("unicode/utf8.acceptRanges", laid_unicode_utf8_acceptRanges), ("unicode/utf8.first", laid_unicode_utf8_first)] }
def BlockLogicSaid : Prop := blockLogicRow.holds Tryd.pinned (OpenSpec.ofChange blockLogicSpec)

/-- ITS FALSE NEIGHBOUR: 'it returns false'. Refute it at one input. -/
def blockLogicWrong : ChangeSpec := { name := "blockLogic", fn := fun _ => fun
  | [d] => { results := [.lit (.bool false)], args := [d] }
  | _ => none }
def BlockLogicWrongFalsely : Prop := blockLogicRow.holds Tryd.pinned (OpenSpec.ofChange blockLogicWrong)

/-- 'plenumlaw18.BlockBounds': WHATEVER THE INPUT: true; the input reads as it did. -/
def blockBoundsSpec : ChangeSpec := { name := "blockBounds", fn := fun _ => fun
  | [d1, d2, d3, d4] => { results := [.lit (.bool true)], args := [d1, d2, d3, d4] }
  | _ => none }
def blockBoundsRow : OpenClaim := { program := "ytaobbedajgkmiaadoor", sum := "6e1808c6dbea87ed3c85d0678ae8a2491d7e8b460308516cba643b35ca71d7db", func := "plenum/plenumlaw18.BlockBounds", spec := "blockBounds", inPlace := ["math/bits.Add64", "internal/bytealg.CountString", "internal/bytealg.IndexByteString", "internal/bytealg.IndexString"], unfollowed := true, recurses := true, named := ["math/bits.divideError", "math/bits.overflowError", "unicode/utf8.first", "unicode/utf8.acceptRanges", "internal/bytealg.MaxLen"], apart := false, laid := [("unicode/utf8.acceptRanges", laid_unicode_utf8_acceptRanges), ("unicode/utf8.first", laid_unicode_utf8_first)] }
def BlockBoundsSaid : Prop := blockBoundsRow.holds Tryd.pinned (OpenSpec.ofChange blockBoundsSpec)

/-- ITS FALSE NEIGHBOUR: 'it returns false'. Refute it at one input. -/
def blockBoundsWrong : ChangeSpec := { name := "blockBounds", fn := fun _ => fun
  | [d1, d2, d3, d4] => { results := [.lit (.bool false)], args := [d1, d2, d3, d4] }
  | _ => none }
def BlockBoundsWrongFalsely : Prop := blockBoundsRow.holds Tryd.pinned (OpenSpec.ofChange blockBoundsWrong)

/-- 'plenumlaw18.BlockMonotone': WHATEVER THE INPUT: true; the input reads as it did. -/
def blockMonotoneSpec : ChangeSpec := { name := "blockMonotone", fn := fun _ => fun
  | [d1, d2, d3] => { results := [.lit (.bool true)], args := [d1, d2, d3] }
  | _ => none }
def blockMonotoneRow : OpenClaim := { program := "ytaobbedajgkmiaadoor", sum := "6e1808c6dbea87ed3c85d0678ae8a2491d7e8b460308516cba643b35ca71d7db", func := "plenum/plenumlaw18.BlockMonotone", spec := "blockMonotone", inPlace := ["math/bits.Add64", "internal/bytealg.CountString", "internal/bytealg.IndexByteString", "internal/bytealg.IndexString"], unfollowed := true, recurses := true, named := ["math/bits.divideError", "math/bits.overflowError", "unicode/utf8.first", "unicode/utf8.acceptRanges", "internal/bytealg.MaxLen"], apart := false, laid := [("unicode/utf8.acceptRanges", laid_unicode_utf8_acceptRanges), ("unicode/utf8.first", laid_unicode_utf8_first)] }
def BlockMonotoneSaid : Prop := blockMonotoneRow.holds Tryd.pinned (OpenSpec.ofChange blockMonotoneSpec)

/-- ITS FALSE NEIGHBOUR: 'it returns false'. Refute it at one input. -/
def blockMonotoneWrong : ChangeSpec := { name := "blockMonotone", fn := fun _ => fun
  | [d1, d2, d3] => { results := [.lit (.bool false)], args := [d1, d2, d3] }
  | _ => none }
def BlockMonotoneWrongFalsely : Prop := blockMonotoneRow.holds Tryd.pinned (OpenSpec.ofChange blockMonotoneWrong)

/-- 'plenumlaw18.BlockChoice': WHATEVER THE INPUT: true; the input reads as it did. -/
def blockChoiceSpec : ChangeSpec := { name := "blockChoice", fn := fun _ => fun
  | [d1, d2, d3] => { results := [.lit (.bool true)], args := [d1, d2, d3] }
  | _ => none }
def blockChoiceRow : OpenClaim := { program := "ytaobbedajgkmiaadoor", sum := "6e1808c6dbea87ed3c85d0678ae8a2491d7e8b460308516cba643b35ca71d7db", func := "plenum/plenumlaw18.BlockChoice", spec := "blockChoice", inPlace := ["math/bits.Add64", "internal/bytealg.CountString", "internal/bytealg.IndexByteString", "internal/bytealg.IndexString"], unfollowed := true, recurses := true, named := ["math/bits.divideError", "math/bits.overflowError", "unicode/utf8.first", "unicode/utf8.acceptRanges", "internal/bytealg.MaxLen"], apart := false, laid := [("unicode/utf8.acceptRanges", laid_unicode_utf8_acceptRanges), ("unicode/utf8.first", laid_unicode_utf8_first)] }
def BlockChoiceSaid : Prop := blockChoiceRow.holds Tryd.pinned (OpenSpec.ofChange blockChoiceSpec)

/-- ITS FALSE NEIGHBOUR: 'it returns false'. Refute it at one input. -/
def blockChoiceWrong : ChangeSpec := { name := "blockChoice", fn := fun _ => fun
  | [d1, d2, d3] => { results := [.lit (.bool false)], args := [d1, d2, d3] }
  | _ => none }
def BlockChoiceWrongFalsely : Prop := blockChoiceRow.holds Tryd.pinned (OpenSpec.ofChange blockChoiceWrong)

/- THE SECOND FORM. 'bulk': how many values and letters a reading holds, each counted each time it is reached (what is shared counts as often as it is met; a slice's spare places count too). A statement '..UptoSaid' is the law's where the arguments, and the package variables that the reading takes, are together of bulk at most 1048576: NARROWER than '..Said'. Prove '..Said' where nothing that the law and all that it calls make is longer than what came in: it says more and counts as full. Else prove '..UptoSaid'. A law counts once. -/
mutual
def uptoBulk {H : Type} : DataW H → Nat
  | .lit (.string bytes) => bytes.length + 1
  | .lit _ => 1
  | .nil => 1
  | .ptr d => uptoBulk d + 1
  | .slice elems spare => uptoBulkAll elems + uptoBulkAll spare + 1
  | .agg parts => uptoBulkAll parts + 1
  | .iface _ d => uptoBulk d + 1
  | .map entries => uptoBulkEntries entries + 1
  | .held _ => 1
def uptoBulkAll {H : Type} : List (DataW H) → Nat
  | [] => 0
  | d :: r => uptoBulk d + uptoBulkAll r
def uptoBulkEntries {H : Type} : List (Lit × DataW H) → Nat
  | [] => 0
  | x :: r => uptoBulkEntry x + uptoBulkEntries r
def uptoBulkEntry {H : Type} : Lit × DataW H → Nat
  | (.string bytes, d) => bytes.length + uptoBulk d + 1
  | (_, d) => uptoBulk d + 1
 end
def uptoSmall : (H : Type) → List (DataW H) → Bool := fun _ ds => decide (uptoBulkAll ds ≤ 1048576)
def OpenSpec.upto (s : _root_.Go.ChangeSpec) : _root_.Go.OpenSpec := { _root_.Go.OpenSpec.ofChange s with cond := some uptoSmall }

/-- 'plenumlaw18.BlockLibrary', WHERE WHAT IT READS IS OF BULK AT MOST 1048576: true; the input reads as it did. -/
def blockLibraryUptoRow : OpenClaim := { program := "ytaobbedajgkmiaadoor", sum := "6e1808c6dbea87ed3c85d0678ae8a2491d7e8b460308516cba643b35ca71d7db", func := "plenum/plenumlaw18.BlockLibrary", spec := "blockLibrary", inPlace := ["math/bits.Add64", "internal/bytealg.CountString", "internal/bytealg.IndexByteString", "internal/bytealg.IndexString"], unfollowed := true, recurses := true, named := ["math/bits.divideError", "math/bits.overflowError", "unicode/utf8.first", "unicode/utf8.acceptRanges", "internal/bytealg.MaxLen"], apart := false, laid := [("unicode/utf8.acceptRanges", laid_unicode_utf8_acceptRanges), ("unicode/utf8.first", laid_unicode_utf8_first)], narrowed := true }
def BlockLibraryUptoSaid : Prop := blockLibraryUptoRow.holds Tryd.pinned (OpenSpec.upto blockLibrarySpec)

/-- 'plenumlaw18.BlockParams', WHERE WHAT IT READS IS OF BULK AT MOST 1048576: true; the input reads as it did. -/
def blockParamsUptoRow : OpenClaim := { program := "ytaobbedajgkmiaadoor", sum := "6e1808c6dbea87ed3c85d0678ae8a2491d7e8b460308516cba643b35ca71d7db", func := "plenum/plenumlaw18.BlockParams", spec := "blockParams", inPlace := ["math/bits.Add64", "internal/bytealg.CountString", "internal/bytealg.IndexByteString", "internal/bytealg.IndexString"], unfollowed := true, recurses := true, named := ["math/bits.divideError", "math/bits.overflowError", "unicode/utf8.first", "unicode/utf8.acceptRanges", "internal/bytealg.MaxLen"], apart := false, laid := [("unicode/utf8.acceptRanges", laid_unicode_utf8_acceptRanges), ("unicode/utf8.first", laid_unicode_utf8_first)], narrowed := true }
def BlockParamsUptoSaid : Prop := blockParamsUptoRow.holds Tryd.pinned (OpenSpec.upto blockParamsSpec)

/-- 'plenumlaw18.BlockInputs', WHERE WHAT IT READS IS OF BULK AT MOST 1048576: true; the input reads as it did. -/
def blockInputsUptoRow : OpenClaim := { program := "ytaobbedajgkmiaadoor", sum := "6e1808c6dbea87ed3c85d0678ae8a2491d7e8b460308516cba643b35ca71d7db", func := "plenum/plenumlaw18.BlockInputs", spec := "blockInputs", inPlace := ["math/bits.Add64", "internal/bytealg.CountString", "internal/bytealg.IndexByteString", "internal/bytealg.IndexString"], unfollowed := true, recurses := true, named := ["math/bits.divideError", "math/bits.overflowError", "unicode/utf8.first", "unicode/utf8.acceptRanges", "internal/bytealg.MaxLen"], apart := false, laid := [("unicode/utf8.acceptRanges", laid_unicode_utf8_acceptRanges), ("unicode/utf8.first", laid_unicode_utf8_first)], narrowed := true }
def BlockInputsUptoSaid : Prop := blockInputsUptoRow.holds Tryd.pinned (OpenSpec.upto blockInputsSpec)

/-- 'plenumlaw18.BlockLogic', WHERE WHAT IT READS IS OF BULK AT MOST 1048576: true; the input reads as it did. -/
def blockLogicUptoRow : OpenClaim := { program := "ytaobbedajgkmiaadoor", sum := "6e1808c6dbea87ed3c85d0678ae8a2491d7e8b460308516cba643b35ca71d7db", func := "plenum/plenumlaw18.BlockLogic", spec := "blockLogic", inPlace := ["math/bits.Add64", "internal/bytealg.CountString", "internal/bytealg.IndexByteString", "internal/bytealg.IndexString"], unfollowed := true, recurses := true, named := ["math/bits.divideError", "math/bits.overflowError", "unicode/utf8.first", "unicode/utf8.acceptRanges", "internal/bytealg.MaxLen"], apart := false, laid := [("unicode/utf8.acceptRanges", laid_unicode_utf8_acceptRanges), ("unicode/utf8.first", laid_unicode_utf8_first)], narrowed := true }
def BlockLogicUptoSaid : Prop := blockLogicUptoRow.holds Tryd.pinned (OpenSpec.upto blockLogicSpec)

/-- 'plenumlaw18.BlockBounds', WHERE WHAT IT READS IS OF BULK AT MOST 1048576: true; the input reads as it did. -/
def blockBoundsUptoRow : OpenClaim := { program := "ytaobbedajgkmiaadoor", sum := "6e1808c6dbea87ed3c85d0678ae8a2491d7e8b460308516cba643b35ca71d7db", func := "plenum/plenumlaw18.BlockBounds", spec := "blockBounds", inPlace := ["math/bits.Add64", "internal/bytealg.CountString", "internal/bytealg.IndexByteString", "internal/bytealg.IndexString"], unfollowed := true, recurses := true, named := ["math/bits.divideError", "math/bits.overflowError", "unicode/utf8.first", "unicode/utf8.acceptRanges", "internal/bytealg.MaxLen"], apart := false, laid := [("unicode/utf8.acceptRanges", laid_unicode_utf8_acceptRanges), ("unicode/utf8.first", laid_unicode_utf8_first)], narrowed := true }
def BlockBoundsUptoSaid : Prop := blockBoundsUptoRow.holds Tryd.pinned (OpenSpec.upto blockBoundsSpec)

/-- 'plenumlaw18.BlockMonotone', WHERE WHAT IT READS IS OF BULK AT MOST 1048576: true; the input reads as it did. -/
def blockMonotoneUptoRow : OpenClaim := { program := "ytaobbedajgkmiaadoor", sum := "6e1808c6dbea87ed3c85d0678ae8a2491d7e8b460308516cba643b35ca71d7db", func := "plenum/plenumlaw18.BlockMonotone", spec := "blockMonotone", inPlace := ["math/bits.Add64", "internal/bytealg.CountString", "internal/bytealg.IndexByteString", "internal/bytealg.IndexString"], unfollowed := true, recurses := true, named := ["math/bits.divideError", "math/bits.overflowError", "unicode/utf8.first", "unicode/utf8.acceptRanges", "internal/bytealg.MaxLen"], apart := false, laid := [("unicode/utf8.acceptRanges", laid_unicode_utf8_acceptRanges), ("unicode/utf8.first", laid_unicode_utf8_first)], narrowed := true }
def BlockMonotoneUptoSaid : Prop := blockMonotoneUptoRow.holds Tryd.pinned (OpenSpec.upto blockMonotoneSpec)

/-- 'plenumlaw18.BlockChoice', WHERE WHAT IT READS IS OF BULK AT MOST 1048576: true; the input reads as it did. -/
def blockChoiceUptoRow : OpenClaim := { program := "ytaobbedajgkmiaadoor", sum := "6e1808c6dbea87ed3c85d0678ae8a2491d7e8b460308516cba643b35ca71d7db", func := "plenum/plenumlaw18.BlockChoice", spec := "blockChoice", inPlace := ["math/bits.Add64", "internal/bytealg.CountString", "internal/bytealg.IndexByteString", "internal/bytealg.IndexString"], unfollowed := true, recurses := true, named := ["math/bits.divideError", "math/bits.overflowError", "unicode/utf8.first", "unicode/utf8.acceptRanges", "internal/bytealg.MaxLen"], apart := false, laid := [("unicode/utf8.acceptRanges", laid_unicode_utf8_acceptRanges), ("unicode/utf8.first", laid_unicode_utf8_first)], narrowed := true }
def BlockChoiceUptoSaid : Prop := blockChoiceUptoRow.holds Tryd.pinned (OpenSpec.upto blockChoiceSpec)

end Rows
end Go.Proofs.YtaobbedajgkmiaaDoor
