/- Arguments opened: what every frame of this folder wants. -/
import Derived.Test.YtmljelcmjagjjaaHeaT
import Derived.ProofKit
import Derived.OpenShut
import Derived.SizedLaws
import Derived.Carry
namespace Go.Proofs.Ytmljelcmjagjjaa
open Go.ChangeShapes Go.WideShapes Go.ChangeAt Go.RowKit

theorem ownFree : ownKnob Try.prog.godebug = none := by kernel_rfl
theorem laidOutP : laidOutB Try.prog = true := by kernel_rfl
end Go.Proofs.Ytmljelcmjagjjaa
