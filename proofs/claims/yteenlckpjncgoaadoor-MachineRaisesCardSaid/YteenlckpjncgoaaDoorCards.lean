/-
  DERIVED. GIVEN WITH THE SEED: THE CARDS: each row of YteenlckpjncgoaaDoorRows.lean that lists a variable, with what it lists TIED to the program's text (the seventh form; the later family's looks); each row that meets fmt, with fmt's text TOLD by the authors' own Lean function (tested against real Go, not proved from fmt's source: count such statements apart). THE CARD IS WHAT COUNTS. Prove the row's statement (the work); the ties are given (YteenlckpjncgoaaDoorTie.lean); close each card by the builder's one call (the guide's Derived/Test/ToyasCard.lean, 'card_holds'). Laid BY PROGRAM, IN A SANDBOX (cutbox-door.mjs). By AI agents, Wed Nov 11 2026. No macro, syntax, notation, axiom, sorry.
-/
import Derived.Test.YteenlckpjncgoaaDoorRows
import GoSem.ClaimSeven
namespace Go.Proofs.YteenlckpjncgoaaDoor
namespace Rows

/-- THE TIED CARD OF 'battledorelaw10.MachineTexts'. -/
def machineTextsCard : Claim7 := { stood := { row := machineTextsRow, standIns := [], harness := (true, "d46197bcda46d2dc03187d8fbbeed306136f89ed2f4ef0f076a2c24cd49563a7"), looks := false }, kinds := [], alts := [], laidByText := true, laidKinds := [.data, .data, .data], laidTests := true, laidLooks := .later }
def MachineTextsCardSaid : Prop := Claim7.holds Tryd.pinned (.plain (OpenSpec.ofChange machineTextsSpec)) machineTextsCard

/-- THE TIED CARD OF 'battledorelaw10.MachineDigits'. -/
def machineDigitsCard : Claim7 := { stood := { row := machineDigitsRow, standIns := [], harness := (true, "d46197bcda46d2dc03187d8fbbeed306136f89ed2f4ef0f076a2c24cd49563a7"), looks := false }, kinds := [], alts := [], laidByText := true, laidKinds := [.data, .data, .data], laidTests := true, laidLooks := .later }
def MachineDigitsCardSaid : Prop := Claim7.holds Tryd.pinned (.plain (OpenSpec.ofChange machineDigitsSpec)) machineDigitsCard

/-- THE TIED CARD OF 'battledorelaw10.MachineRaises'. -/
def machineRaisesCard : Claim7 := { stood := { row := machineRaisesRow, standIns := [], harness := (true, "d46197bcda46d2dc03187d8fbbeed306136f89ed2f4ef0f076a2c24cd49563a7"), looks := false }, kinds := [], alts := [], laidByText := true, laidKinds := [.data, .data, .data], laidTests := true, laidLooks := .later }
def MachineRaisesCardSaid : Prop := Claim7.holds Tryd.pinned (.plain (OpenSpec.ofChange machineRaisesSpec)) machineRaisesCard

/-- THE TIED CARD OF 'battledorelaw10.MachineMoves'. -/
def machineMovesCard : Claim7 := { stood := { row := machineMovesRow, standIns := [], harness := (true, "d46197bcda46d2dc03187d8fbbeed306136f89ed2f4ef0f076a2c24cd49563a7"), looks := false }, kinds := [], alts := [], laidByText := true, laidKinds := [.data, .data, .data], laidTests := true, laidLooks := .later }
def MachineMovesCardSaid : Prop := Claim7.holds Tryd.pinned (.plain (OpenSpec.ofChange machineMovesSpec)) machineMovesCard

/-- THE SECOND FORM's CARD OF 'battledorelaw10.MachineTexts'. -/
def machineTextsUptoCard : Claim7 := { stood := { row := machineTextsUptoRow, standIns := [], harness := (true, "d46197bcda46d2dc03187d8fbbeed306136f89ed2f4ef0f076a2c24cd49563a7"), looks := false }, kinds := [], alts := [], laidByText := true, laidKinds := [.data, .data, .data], laidTests := true, laidLooks := .later }
def MachineTextsUptoCardSaid : Prop := Claim7.holds Tryd.pinned (.plain (OpenSpec.upto machineTextsSpec)) machineTextsUptoCard

/-- THE SECOND FORM's CARD OF 'battledorelaw10.MachineDigits'. -/
def machineDigitsUptoCard : Claim7 := { stood := { row := machineDigitsUptoRow, standIns := [], harness := (true, "d46197bcda46d2dc03187d8fbbeed306136f89ed2f4ef0f076a2c24cd49563a7"), looks := false }, kinds := [], alts := [], laidByText := true, laidKinds := [.data, .data, .data], laidTests := true, laidLooks := .later }
def MachineDigitsUptoCardSaid : Prop := Claim7.holds Tryd.pinned (.plain (OpenSpec.upto machineDigitsSpec)) machineDigitsUptoCard

/-- THE SECOND FORM's CARD OF 'battledorelaw10.MachineRaises'. -/
def machineRaisesUptoCard : Claim7 := { stood := { row := machineRaisesUptoRow, standIns := [], harness := (true, "d46197bcda46d2dc03187d8fbbeed306136f89ed2f4ef0f076a2c24cd49563a7"), looks := false }, kinds := [], alts := [], laidByText := true, laidKinds := [.data, .data, .data], laidTests := true, laidLooks := .later }
def MachineRaisesUptoCardSaid : Prop := Claim7.holds Tryd.pinned (.plain (OpenSpec.upto machineRaisesSpec)) machineRaisesUptoCard

/-- THE SECOND FORM's CARD OF 'battledorelaw10.MachineMoves'. -/
def machineMovesUptoCard : Claim7 := { stood := { row := machineMovesUptoRow, standIns := [], harness := (true, "d46197bcda46d2dc03187d8fbbeed306136f89ed2f4ef0f076a2c24cd49563a7"), looks := false }, kinds := [], alts := [], laidByText := true, laidKinds := [.data, .data, .data], laidTests := true, laidLooks := .later }
def MachineMovesUptoCardSaid : Prop := Claim7.holds Tryd.pinned (.plain (OpenSpec.upto machineMovesSpec)) machineMovesUptoCard
end Rows
end Go.Proofs.YteenlckpjncgoaaDoor
