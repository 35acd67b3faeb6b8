/- The law of paths for any moves. -/
import Derived.Test.YtjmfgpklemhomabLPaths
namespace Go.Proofs.Ytjmfgpklemhomab
open Go.RowKit TurF TurP

theorem paths_walk (v : Value) (l : List Mv) (w : World) (h : RdM w v l) :
    Calls Try.prog 3 #[v] w fun e w' => e = .returned (.bool true) ∧ Below w.heap.size w w' := by
  by_cases hl : 2000 < l.length
  · exact paths_far v l w h hl
  · rcases err_cases l with he | ⟨he, h1, h2⟩
    · exact paths_bad v l w h hl he
    · exact paths_good v l w h he h1 h2
end Go.Proofs.Ytjmfgpklemhomab
