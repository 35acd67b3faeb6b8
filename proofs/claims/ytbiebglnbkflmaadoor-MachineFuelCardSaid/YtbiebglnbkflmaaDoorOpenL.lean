/- What the program's text lays; arguments opened. -/
import Derived.Test.YtbiebglnbkflmaaDoorHeaT
import Derived.Test.YtbiebglnbkflmaaDoorRows
import Derived.Test.YtbiebglnbkflmaaDoorCards
import Derived.Test.YtbiebglnbkflmaaDoorTie
import Derived.ProofKit
import Derived.OpenShut
import Derived.SizedLaws
import Derived.Carry
import Derived.LaidMore
import Derived.Stop.LaidErr
import Derived.SevenTiedAt
import Derived.ChangeMaps5
namespace Go.Proofs.YtbiebglnbkflmaaDoor
open Go.ChangeShapes Go.WideShapes Go.WideMaps Go.WideElems Go.ChangeAt Go.RowKit

theorem ownFree : ownKnob Tryd.prog.godebug = none := by kernel_rfl
theorem laidOutP : laidOutB Tryd.prog = true := by kernel_rfl

/-- The list that each row has. -/
abbrev laidL : List (String × DataW Unit) := Rows.machineReckonsRow.laid

theorem door_met (os : Os) (args : Array Value) : laidMetH Tryd.prog laidL ((World.doorLaid Tryd.prog 400 os).forCall (fun _ _ => 0) ⟨#[], args, []⟩).memory :=
  laidMetH_of_parts3 (fuel := 8) (laidMet_of_run' 8 (by kernel_rfl) (by kernel_rfl)) (by kernel_rfl) (by kernel_rfl)
end Go.Proofs.YtbiebglnbkflmaaDoor
