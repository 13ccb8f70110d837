/-
  DERIVED. GIVEN WITH THE SEED: THE CARDS: each row of YtlahoohgbfjciaaGreatDoorRows.lean that lists a variable, with what it lists TIED to the program's text (the seventh form; the later family's looks); each row that meets fmt, with fmt's text TOLD by the authors' own Lean function (tested against real Go, not proved from fmt's source: count such statements apart). THE CARD IS WHAT COUNTS. Prove the row's statement (the work); the ties are given (YtlahoohgbfjciaaGreatDoorTie.lean); close each card by the builder's one call (the guide's Derived/Test/ToyasCard.lean, 'card_holds'). Laid BY PROGRAM, IN A SANDBOX (cutbox-door.mjs). By AI agents, Wed Nov 11 2026. No macro, syntax, notation, axiom, sorry.
-/
import Derived.Test.YtlahoohgbfjciaaGreatDoorRows
import GoSem.ClaimSeven
namespace Go.Proofs.YtlahoohgbfjciaaGreatDoor
namespace Rows

/-- THE TIED CARD OF 'plenumlaw04.UnitsConverts'. -/
def unitsConvertsCard : Claim7 := { stood := { row := unitsConvertsRow, standIns := [], harness := (true, "441b517aee3227853831e13bbf99f00666204bba61bf5f433dc25d0bace5ba40"), looks := true }, kinds := [], alts := [], laidByText := true, laidKinds := [.data, .data, .data, .data, .sentinel, .sentinel, .pinned], laidTests := true, laidLooks := .later }
def UnitsConvertsCardSaid : Prop := Claim7.holds Tryz.pinned (.plain (OpenSpec.ofChange unitsConvertsSpec)) unitsConvertsCard

/-- THE SECOND FORM's CARD OF 'plenumlaw04.UnitsConverts'. -/
def unitsConvertsUptoCard : Claim7 := { stood := { row := unitsConvertsUptoRow, standIns := [], harness := (true, "441b517aee3227853831e13bbf99f00666204bba61bf5f433dc25d0bace5ba40"), looks := true }, kinds := [], alts := [], laidByText := true, laidKinds := [.data, .data, .data, .data, .sentinel, .sentinel, .pinned], laidTests := true, laidLooks := .later }
def UnitsConvertsUptoCardSaid : Prop := Claim7.holds Tryz.pinned (.plain (OpenSpec.upto unitsConvertsSpec)) unitsConvertsUptoCard
end Rows
end Go.Proofs.YtlahoohgbfjciaaGreatDoor
