/- MachineReckons: any two numbers, and any sign. -/
import Derived.Test.YtbiebglnbkflmaaDoorLReckB
import Derived.Test.YtbiebglnbkflmaaDoorLReckC
namespace Go.Proofs.YtbiebglnbkflmaaDoor
open Go.RowKit HeaM Ma

theorem reckons_walk (a b sg : Int) (w : World) (ha : -9223372036854775808 ≤ a) (ha' : a ≤ 9223372036854775807) (hb : -9223372036854775808 ≤ b) (hb' : b ≤ 9223372036854775807) (hs : 0 ≤ sg) (hs' : sg ≤ 255) :
    Calls Tryd.prog 3 #[.int .i64 a, .int .i64 b, .int .u8 sg] w fun e w' => e = .returned (.bool true) ∧ Below w.heap.size w w' := by
  have h : sg % 9 = 0 ∨ sg % 9 = 1 ∨ sg % 9 = 2 ∨ sg % 9 = 3 ∨ sg % 9 = 4 ∨ sg % 9 = 5 ∨ sg % 9 = 6 ∨ sg % 9 = 7 ∨ sg % 9 = 8 := by omega
  rcases h with h | h | h | h | h | h | h | h | h
  · exact reckons_0 a b sg w ha ha' hb hb' hs hs' h
  · exact reckons_1 a b sg w ha ha' hb hb' hs hs' h
  · exact reckons_2 a b sg w ha ha' hb hb' hs hs' h
  · exact reckons_3 a b sg w ha ha' hb hb' hs hs' h
  · exact reckons_4 a b sg w ha ha' hb hb' hs hs' h
  · exact reckons_5 a b sg w ha ha' hb hb' hs hs' h
  · exact reckons_6 a b sg w ha ha' hb hb' hs hs' h
  · exact reckons_7 a b sg w ha ha' hb hb' hs hs' h
  · exact reckons_8 a b sg w ha ha' hb hb' hs hs' h
end Go.Proofs.YtbiebglnbkflmaaDoor
