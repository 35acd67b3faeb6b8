/- The law's awake. -/
import Derived.Test.YtjmfgpklemhomabTurG
namespace Go.Proofs.Ytjmfgpklemhomab
open Go.RowKit TurF TurP

theorem RdM.of_block {w : World} {b : Nat} {cs : Array Value} {t : TypeId} {fr : Nat × Nat} {ms : List Mv} (hb : w.heap[b]? = some (.cells cs t fr)) (hcs : cs.toList = CsM ms) (hm : ms.length ≤ 1000000) : RdM w (.slice (some ⟨b, 0, none⟩) ms.length ms.length) ms := by
  rcases ms with _ | ⟨p, ps⟩
  · exact .inl ⟨_, _, (by simp), rfl, rfl⟩
  · refine .inr ⟨b, 0, _, rfl, by simp, Nat.le_refl _, by unfold maxLen; omega, fun j m hj => ?_⟩
    obtain ⟨h1, h2⟩ := CsM_get _ j m hj
    have c1 := World.news_of_block hb _ _ (by rw [hcs]; exact h1)
    have c2 := World.news_of_block hb _ _ (by rw [hcs]; exact h2)
    rw [add_none] at c1 c2
    exact ⟨c1, c2⟩

theorem wake_path : (run [(false, 3), (true, 1), (false, 4)]).path = [(0, 0), (0, 3), (-4, 3)] := by decide

set_option maxHeartbeats 2000000 in
set_option maxRecDepth 100000 in
theorem awake (w : World) : Calls Try.prog 9 #[] w fun e w' => e = .returned (.bool true) ∧ Below w.heap.size w w' := by
  have hb0 : Below w.heap.size w (w.alloc (.cells #[.bool false, .int .i64 3, .bool true, .int .i64 1, .bool false, .int .i64 4] 43)) := (Below.refl _ w).alloc (Nat.le_refl _) _
  have H := Lib.hid (path_good (.slice (some ⟨w.heap.size, 0, none⟩) 3 3) [(false, 3), (true, 1), (false, 4)] (w.alloc (.cells #[.bool false, .int .i64 3, .bool true, .int .i64 1, .bool false, .int .i64 4] 43))
    (RdM.of_block (ms := [(false, 3), (true, 1), (false, 4)]) (heap_alloc_new w _) rfl (by simp)) (by simp) (by decide))
  have HB := Lib.hid hb0
  have eq := eqPlace
  clear hb0
  go_enter Try.func9, Try.ntmps9
  go_wp2_with fail
  refine H.out.mono ?_
  rintro e w1 ⟨v, rfl, ho, hb⟩
  rw [wake_path] at ho
  obtain ⟨g, cap, rfl, -, -, hcap, hm, hc⟩ := ho.cells (by simp)
  obtain ⟨c1, c2⟩ := hc 1 _ rfl
  obtain ⟨c3, c4⟩ := hc 2 _ rfl
  have HB2 := Lib.hid (HB.out.trans (hb.mono (by simp)))
  simp only [List.length_cons, List.length_nil, Nat.zero_add, Nat.reduceAdd, Nat.reduceMul] at c1 c2 c3 c4 hcap
  unfold maxLen at hm
  clear hc ho hb
  go_wp2_with fail
  go_ret
  exact ⟨rfl, HB2.out⟩
end Go.Proofs.Ytjmfgpklemhomab
