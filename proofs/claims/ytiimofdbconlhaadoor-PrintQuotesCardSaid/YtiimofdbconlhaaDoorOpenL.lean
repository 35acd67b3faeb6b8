/- What the program's text lays, opened; arguments opened. -/
import Derived.Test.YtiimofdbconlhaaDoorPriEe
import Derived.Test.YtiimofdbconlhaaDoorRows
import Derived.Test.YtiimofdbconlhaaDoorCards
import Derived.Test.YtiimofdbconlhaaDoorTie
import Derived.ProofKit
import Derived.OpenShut
import Derived.SizedLaws
import Derived.Carry
import Derived.LaidMore
import Derived.Stop.LaidErr
import Derived.SevenTiedAt
import Derived.ChangeMaps5
import Derived.Lib.LaidTab
namespace Go.Proofs.YtiimofdbconlhaaDoor
open Go.ChangeShapes Go.WideShapes Go.WideMaps Go.WideElems Go.ChangeAt Go.RowKit

theorem ownFree : ownKnob Tryd.prog.godebug = none := by kernel_rfl
theorem laidOutP : laidOutB Tryd.prog = true := by kernel_rfl

/-- The list that each row has. -/
abbrev laidL : List (String × DataW Unit) := Rows.printVarsRow.laid

theorem door_met (os : Os) (args : Array Value) : laidMetH Tryd.prog laidL ((World.doorLaid Tryd.prog 400 os).forCall (fun _ _ => 0) ⟨#[], args, []⟩).memory :=
  laidMetH_of_parts3 (fuel := 8) (laidMet_of_run' 8 (by kernel_rfl) (by kernel_rfl)) (by kernel_rfl) (by kernel_rfl)

theorem laid_of_met {W : World} (h : laidMetH Tryd.prog laidL W) : Tab W := by
  rw [MakeChecks.laidMetH_plain _ _ _ (by kernel_rfl)] at h
  have h3 : laidMet Tryd.prog (laidL.drop 2) W := h.tail.tail
  clear h
  exact Lib.tabIs_of_head (rest := []) (by kernel_rfl : Tryd.prog.globalNamed "internal/strconv.uint64pow10" = some 0) (by kernel_rfl : (Tryd.prog.globals[0]?).map (·.type) = some 114) Tryd.underlying114 Tryd.underlying76 (by kernel_rfl) (by kernel_rfl) h3
end Go.Proofs.YtiimofdbconlhaaDoor
