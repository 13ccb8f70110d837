/-
  DERIVED. GIVEN WITH THE SEED: THE CARDS: each row of YtjkdcbkfcmaadaaDoorRows.lean that lists a variable, with what it lists TIED to the program's text (the seventh form; the later family's looks); each row that meets fmt, with fmt's text TOLD by the authors' own Lean function (tested against real Go, not proved from fmt's source: count such statements apart). THE CARD IS WHAT COUNTS. Prove the row's statement (the work); the ties are given (YtjkdcbkfcmaadaaDoorTie.lean); close each card by the builder's one call (the guide's Derived/Test/ToyasCard.lean, 'card_holds'). Laid BY PROGRAM, IN A SANDBOX (cutbox-door.mjs). By AI agents, Wed Nov 11 2026. No macro, syntax, notation, axiom, sorry.
-/
import Derived.Test.YtjkdcbkfcmaadaaDoorRows
import GoSem.ClaimSeven
namespace Go.Proofs.YtjkdcbkfcmaadaaDoor
namespace Rows

/-- THE TIED CARD OF 'plenumlaw04.UnitsAlgebra'. -/
def unitsAlgebraCard : Claim7 := { stood := { row := unitsAlgebraRow, standIns := [], harness := (true, "4f6f00053ed15e33bfc3a32245c1601ab0846396a365faec03738f96f1079ea3"), looks := true }, kinds := [], alts := [], laidByText := true, laidKinds := [.data, .data, .data, .data, .sentinel, .sentinel, .pinned], laidTests := true, laidLooks := .later }
def UnitsAlgebraCardSaid : Prop := Claim7.holds Tryd.pinned (.plain (OpenSpec.ofChange unitsAlgebraSpec)) unitsAlgebraCard

/-- THE TIED CARD OF 'plenumlaw04.UnitsMonotone'. -/
def unitsMonotoneCard : Claim7 := { stood := { row := unitsMonotoneRow, standIns := [], harness := (true, "4f6f00053ed15e33bfc3a32245c1601ab0846396a365faec03738f96f1079ea3"), looks := true }, kinds := [], alts := [], laidByText := true, laidKinds := [.data, .data, .data, .data, .sentinel, .sentinel, .pinned], laidTests := true, laidLooks := .later }
def UnitsMonotoneCardSaid : Prop := Claim7.holds Tryd.pinned (.plain (OpenSpec.ofChange unitsMonotoneSpec)) unitsMonotoneCard

/-- THE TIED CARD OF 'plenumlaw04.UnitsBack'. -/
def unitsBackCard : Claim7 := { stood := { row := unitsBackRow, standIns := [], harness := (true, "4f6f00053ed15e33bfc3a32245c1601ab0846396a365faec03738f96f1079ea3"), looks := true }, kinds := [], alts := [], laidByText := true, laidKinds := [.data, .data, .data, .data, .sentinel, .sentinel, .pinned], laidTests := true, laidLooks := .later }
def UnitsBackCardSaid : Prop := Claim7.holds Tryd.pinned (.plain (OpenSpec.ofChange unitsBackSpec)) unitsBackCard

/-- THE TIED CARD OF 'plenumlaw04.UnitsDifferences'. -/
def unitsDifferencesCard : Claim7 := { stood := { row := unitsDifferencesRow, standIns := [], harness := (true, "4f6f00053ed15e33bfc3a32245c1601ab0846396a365faec03738f96f1079ea3"), looks := true }, kinds := [], alts := [], laidByText := true, laidKinds := [.data, .data, .data, .data, .sentinel, .sentinel, .pinned], laidTests := true, laidLooks := .later }
def UnitsDifferencesCardSaid : Prop := Claim7.holds Tryd.pinned (.plain (OpenSpec.ofChange unitsDifferencesSpec)) unitsDifferencesCard

/-- THE SECOND FORM's CARD OF 'plenumlaw04.UnitsAlgebra'. -/
def unitsAlgebraUptoCard : Claim7 := { stood := { row := unitsAlgebraUptoRow, standIns := [], harness := (true, "4f6f00053ed15e33bfc3a32245c1601ab0846396a365faec03738f96f1079ea3"), looks := true }, kinds := [], alts := [], laidByText := true, laidKinds := [.data, .data, .data, .data, .sentinel, .sentinel, .pinned], laidTests := true, laidLooks := .later }
def UnitsAlgebraUptoCardSaid : Prop := Claim7.holds Tryd.pinned (.plain (OpenSpec.upto unitsAlgebraSpec)) unitsAlgebraUptoCard

/-- THE SECOND FORM's CARD OF 'plenumlaw04.UnitsMonotone'. -/
def unitsMonotoneUptoCard : Claim7 := { stood := { row := unitsMonotoneUptoRow, standIns := [], harness := (true, "4f6f00053ed15e33bfc3a32245c1601ab0846396a365faec03738f96f1079ea3"), looks := true }, kinds := [], alts := [], laidByText := true, laidKinds := [.data, .data, .data, .data, .sentinel, .sentinel, .pinned], laidTests := true, laidLooks := .later }
def UnitsMonotoneUptoCardSaid : Prop := Claim7.holds Tryd.pinned (.plain (OpenSpec.upto unitsMonotoneSpec)) unitsMonotoneUptoCard

/-- THE SECOND FORM's CARD OF 'plenumlaw04.UnitsBack'. -/
def unitsBackUptoCard : Claim7 := { stood := { row := unitsBackUptoRow, standIns := [], harness := (true, "4f6f00053ed15e33bfc3a32245c1601ab0846396a365faec03738f96f1079ea3"), looks := true }, kinds := [], alts := [], laidByText := true, laidKinds := [.data, .data, .data, .data, .sentinel, .sentinel, .pinned], laidTests := true, laidLooks := .later }
def UnitsBackUptoCardSaid : Prop := Claim7.holds Tryd.pinned (.plain (OpenSpec.upto unitsBackSpec)) unitsBackUptoCard

/-- THE SECOND FORM's CARD OF 'plenumlaw04.UnitsDifferences'. -/
def unitsDifferencesUptoCard : Claim7 := { stood := { row := unitsDifferencesUptoRow, standIns := [], harness := (true, "4f6f00053ed15e33bfc3a32245c1601ab0846396a365faec03738f96f1079ea3"), looks := true }, kinds := [], alts := [], laidByText := true, laidKinds := [.data, .data, .data, .data, .sentinel, .sentinel, .pinned], laidTests := true, laidLooks := .later }
def UnitsDifferencesUptoCardSaid : Prop := Claim7.holds Tryd.pinned (.plain (OpenSpec.upto unitsDifferencesSpec)) unitsDifferencesUptoCard
end Rows
end Go.Proofs.YtjkdcbkfcmaadaaDoor
