/- The law of seals: any bytes sealed, and back; any bytes as sealed ones. -/
import Derived.Test.YtjbailnnaigjbaaOctH
import Derived.Test.YtjbailnnaigjbaaOctT
namespace Go.Proofs.Ytjbailnnaigjbaa
open Go.RowKit OctM

theorem openS_sealed (l : List UInt8) : openS (sealed l) = (l, 0) := by
  have h := sealed_length l
  have e : (sealed l).take ((sealed l).length - 4) = l := by
    rw [h, Nat.add_sub_cancel]
    exact List.take_left
  unfold openS
  rw [if_neg (by omega), e, if_pos rfl]

end Go.Proofs.Ytjbailnnaigjbaa
