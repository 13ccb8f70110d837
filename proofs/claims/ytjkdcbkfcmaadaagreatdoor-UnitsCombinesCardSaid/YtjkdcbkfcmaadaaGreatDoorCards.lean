/-
  DERIVED. GIVEN WITH THE SEED: THE CARDS: each row of YtjkdcbkfcmaadaaGreatDoorRows.lean that lists a variable, with what it lists TIED to the program's text (the seventh form; the later family's looks); each row that meets fmt, with fmt's text TOLD by the authors' own Lean function (tested against real Go, not proved from fmt's source: count such statements apart). THE CARD IS WHAT COUNTS. Prove the row's statement (the work); the ties are given (YtjkdcbkfcmaadaaGreatDoorTie.lean); close each card by the builder's one call (the guide's Derived/Test/ToyasCard.lean, 'card_holds'). Laid BY PROGRAM, IN A SANDBOX (cutbox-door.mjs). By AI agents, Wed Nov 11 2026. No macro, syntax, notation, axiom, sorry.
-/
import Derived.Test.YtjkdcbkfcmaadaaGreatDoorRows
import GoSem.ClaimSeven
namespace Go.Proofs.YtjkdcbkfcmaadaaGreatDoor
namespace Rows

/-- THE TIED CARD OF 'plenumlaw04.UnitsParses'. -/
def unitsParsesCard : Claim7 := { stood := { row := unitsParsesRow, standIns := [], harness := (true, "b26567a965d40405b68e44cfe17fa25fac7dabba3cc51719d1483914dcfa70df"), looks := true }, kinds := [], alts := [], laidByText := true, laidKinds := [.data, .data, .data, .data, .sentinel, .sentinel, .pinned], laidTests := true, laidLooks := .later }
def UnitsParsesCardSaid : Prop := Claim7.holds Tryz.pinned (.plain (OpenSpec.ofChange unitsParsesSpec)) unitsParsesCard

/-- THE TIED CARD OF 'plenumlaw04.UnitsPrints'. -/
def unitsPrintsCard : Claim7 := { stood := { row := unitsPrintsRow, standIns := [], harness := (true, "b26567a965d40405b68e44cfe17fa25fac7dabba3cc51719d1483914dcfa70df"), looks := true }, kinds := [], alts := [], laidByText := true, laidKinds := [.data, .data, .data, .data, .sentinel, .sentinel, .pinned], laidTests := true, laidLooks := .later }
def UnitsPrintsCardSaid : Prop := Claim7.holds Tryz.pinned (.plain (OpenSpec.ofChange unitsPrintsSpec)) unitsPrintsCard

/-- THE TIED CARD OF 'plenumlaw04.UnitsCombines'. -/
def unitsCombinesCard : Claim7 := { stood := { row := unitsCombinesRow, standIns := [], harness := (true, "b26567a965d40405b68e44cfe17fa25fac7dabba3cc51719d1483914dcfa70df"), looks := true }, kinds := [], alts := [], laidByText := true, laidKinds := [.data, .data, .data, .data, .sentinel, .sentinel, .pinned], laidTests := true, laidLooks := .later }
def UnitsCombinesCardSaid : Prop := Claim7.holds Tryz.pinned (.plain (OpenSpec.ofChange unitsCombinesSpec)) unitsCombinesCard

/-- THE TIED CARD OF 'plenumlaw04.UnitsConverts'. -/
def unitsConvertsCard : Claim7 := { stood := { row := unitsConvertsRow, standIns := [], harness := (true, "b26567a965d40405b68e44cfe17fa25fac7dabba3cc51719d1483914dcfa70df"), looks := true }, kinds := [], alts := [], laidByText := true, laidKinds := [.data, .data, .data, .data, .sentinel, .sentinel, .pinned], laidTests := true, laidLooks := .later }
def UnitsConvertsCardSaid : Prop := Claim7.holds Tryz.pinned (.plain (OpenSpec.ofChange unitsConvertsSpec)) unitsConvertsCard

/-- THE SECOND FORM's CARD OF 'plenumlaw04.UnitsParses'. -/
def unitsParsesUptoCard : Claim7 := { stood := { row := unitsParsesUptoRow, standIns := [], harness := (true, "b26567a965d40405b68e44cfe17fa25fac7dabba3cc51719d1483914dcfa70df"), looks := true }, kinds := [], alts := [], laidByText := true, laidKinds := [.data, .data, .data, .data, .sentinel, .sentinel, .pinned], laidTests := true, laidLooks := .later }
def UnitsParsesUptoCardSaid : Prop := Claim7.holds Tryz.pinned (.plain (OpenSpec.upto unitsParsesSpec)) unitsParsesUptoCard

/-- THE SECOND FORM's CARD OF 'plenumlaw04.UnitsPrints'. -/
def unitsPrintsUptoCard : Claim7 := { stood := { row := unitsPrintsUptoRow, standIns := [], harness := (true, "b26567a965d40405b68e44cfe17fa25fac7dabba3cc51719d1483914dcfa70df"), looks := true }, kinds := [], alts := [], laidByText := true, laidKinds := [.data, .data, .data, .data, .sentinel, .sentinel, .pinned], laidTests := true, laidLooks := .later }
def UnitsPrintsUptoCardSaid : Prop := Claim7.holds Tryz.pinned (.plain (OpenSpec.upto unitsPrintsSpec)) unitsPrintsUptoCard

/-- THE SECOND FORM's CARD OF 'plenumlaw04.UnitsCombines'. -/
def unitsCombinesUptoCard : Claim7 := { stood := { row := unitsCombinesUptoRow, standIns := [], harness := (true, "b26567a965d40405b68e44cfe17fa25fac7dabba3cc51719d1483914dcfa70df"), looks := true }, kinds := [], alts := [], laidByText := true, laidKinds := [.data, .data, .data, .data, .sentinel, .sentinel, .pinned], laidTests := true, laidLooks := .later }
def UnitsCombinesUptoCardSaid : Prop := Claim7.holds Tryz.pinned (.plain (OpenSpec.upto unitsCombinesSpec)) unitsCombinesUptoCard

/-- THE SECOND FORM's CARD OF 'plenumlaw04.UnitsConverts'. -/
def unitsConvertsUptoCard : Claim7 := { stood := { row := unitsConvertsUptoRow, standIns := [], harness := (true, "b26567a965d40405b68e44cfe17fa25fac7dabba3cc51719d1483914dcfa70df"), looks := true }, kinds := [], alts := [], laidByText := true, laidKinds := [.data, .data, .data, .data, .sentinel, .sentinel, .pinned], laidTests := true, laidLooks := .later }
def UnitsConvertsUptoCardSaid : Prop := Claim7.holds Tryz.pinned (.plain (OpenSpec.upto unitsConvertsSpec)) unitsConvertsUptoCard
end Rows
end Go.Proofs.YtjkdcbkfcmaadaaGreatDoor
