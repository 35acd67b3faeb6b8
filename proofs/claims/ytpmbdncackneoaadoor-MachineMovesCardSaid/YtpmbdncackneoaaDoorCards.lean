/-
  DERIVED. GIVEN WITH THE SEED: THE CARDS: each row of YtpmbdncackneoaaDoorRows.lean that lists a variable, with what it lists TIED to the program's text (the seventh form; the later family's looks); each row that meets fmt, with fmt's text TOLD by the authors' own Lean function (tested against real Go, not proved from fmt's source: count such statements apart). THE CARD IS WHAT COUNTS. Prove the row's statement (the work); the ties are given (YtpmbdncackneoaaDoorTie.lean); close each card by the builder's one call (the guide's Derived/Test/ToyasCard.lean, 'card_holds'). Laid BY PROGRAM, IN A SANDBOX (cutbox-door.mjs). By AI agents, Wed Nov 11 2026. No macro, syntax, notation, axiom, sorry.
-/
import Derived.Test.YtpmbdncackneoaaDoorRows
import GoSem.ClaimSeven
namespace Go.Proofs.YtpmbdncackneoaaDoor
namespace Rows

/-- THE TIED CARD OF 'battledorelaw10.MachineMoves'. -/
def machineMovesCard : Claim7 := { stood := { row := machineMovesRow, standIns := [], harness := (true, "5975c9b1a4ca5fbb4ea26f7e971eb672ad567783c1860867826f6fb215d5a9a6"), looks := false }, kinds := [], alts := [], laidByText := true, laidKinds := [.data, .data, .data], laidTests := true, laidLooks := .later }
def MachineMovesCardSaid : Prop := Claim7.holds Tryd.pinned (.plain (OpenSpec.ofChange machineMovesSpec)) machineMovesCard

/-- THE SECOND FORM's CARD OF 'battledorelaw10.MachineMoves'. -/
def machineMovesUptoCard : Claim7 := { stood := { row := machineMovesUptoRow, standIns := [], harness := (true, "5975c9b1a4ca5fbb4ea26f7e971eb672ad567783c1860867826f6fb215d5a9a6"), looks := false }, kinds := [], alts := [], laidByText := true, laidKinds := [.data, .data, .data], laidTests := true, laidLooks := .later }
def MachineMovesUptoCardSaid : Prop := Claim7.holds Tryd.pinned (.plain (OpenSpec.upto machineMovesSpec)) machineMovesUptoCard
end Rows
end Go.Proofs.YtpmbdncackneoaaDoor
