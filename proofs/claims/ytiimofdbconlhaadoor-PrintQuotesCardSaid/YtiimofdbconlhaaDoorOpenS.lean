/- An argument that is a text, opened. -/
import Derived.Test.YtiimofdbconlhaaDoorOpenL
namespace Go.Proofs.YtiimofdbconlhaaDoor
open Go.ChangeShapes Go.WideShapes Go.WideMaps Go.WideElems Go.ChangeAt Go.RowKit

set_option maxRecDepth 100000 in
theorem open_str {H : Type} {enc : TypeId × Value → H} {W : World} {base : Nat} {v : Value} {d : DataW H} {p : List MemPlace} {ts : List TypeId} {ds : List (DataW H)} {j : Nat}
    (hv : Value.okWide Tryd.prog W .any base 9 v) (h : DataW.Trod enc Tryd.prog W 0 (fun _ => true) true 9 v d p)
    (hsz : (DataW.weightsEach Tryd.prog ts ds).all (· ≤ reachBytes) = true) (ht : ts[j]? = some 9) (hd : ds[j]? = some d) : ∃ s : ByteArray, v = .string s ∧ s.size ≤ 140737488351232 := by
  obtain ⟨s, rfl, rfl, _, _⟩ := Go.ChangeMaps.open_string Tryd.underlying9 hv h
  have hr := sized_string hsz ht hd
  have hrb : reachBytes = 140737488351232 := by decide
  refine ⟨s, rfl, ?_⟩
  have e : s.size = s.data.toList.length := by simp
  rw [e]
  omega
end Go.Proofs.YtiimofdbconlhaaDoor
