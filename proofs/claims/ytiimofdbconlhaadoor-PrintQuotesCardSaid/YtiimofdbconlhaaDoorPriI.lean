/- A row in brackets; types in memory. -/
import Derived.Test.YtiimofdbconlhaaDoorPriH
namespace Go.Proofs.YtiimofdbconlhaaDoor
open Go.RowKit PriM

def pT (s : List UInt8) : Pv := ⟨⟨s.toArray⟩, none⟩

theorem own_baseP {w : World} {b b' : Nat} {v : Value} {l : List Pv} (h : OwnP w b v l) (hb : b' ≤ b) : OwnP w b' v l := own_base h hb

theorem block_cellsP {w : World} {b : Nat} {l : List Pv} {t : TypeId} {fr : Nat × Nat} (hb : w.heap[b]? = some (.cells (Cs l).toArray t fr)) : CellsP w b 0 l := by
  intro j p hj
  obtain ⟨h1, h2⟩ := Cs_get l j p hj
  rw [cell_of_row _ _ _ _ _ _ hb, cell_of_row _ _ _ _ _ _ hb]
  simp only [Nat.zero_add, List.getElem?_toArray]
  exact ⟨h1, h2⟩

set_option maxRecDepth 100000 in
set_option maxHeartbeats 2000000 in
theorem enclosed_any (b o k : Nat) (l : List Pv) (w : World) (hc : CellsP w b o l) (hb : b < w.heap.size) (hm : l.length ≤ 100000000000) :
    Calls Tryd.prog 50 #[.slice (some ⟨b, o, none⟩) l.length k] w fun e w' => ∃ v, e = .returned v ∧ OwnP w' w.heap.size v (pT [40] :: (l ++ [pT [41]])) ∧ Below w.heap.size w w' := by
  obtain ⟨wA, hA⟩ : ∃ wA, wA = (w.alloc (.cells #[.string ⟨#[40]⟩, .nilFunc] 51)).alloc (.cells #[.string ⟨#[41]⟩, .nilFunc] 51) := ⟨_, rfl⟩
  have hsz : wA.heap.size = w.heap.size + 2 := by rw [hA]; simp
  have hB : Below w.heap.size w wA := by rw [hA]; exact ((Below.refl _ _).alloc (Nat.le_refl _) _).alloc (by simp) _
  have h1 : wA.heap[w.heap.size]? = some (.cells (Cs [pT [40]]).toArray 51 (0, 0)) := by
    rw [hA, Below.heap_alloc _ _ _ (by simp)]; exact heap_alloc_new w _
  have h2 : wA.heap[w.heap.size + 1]? = some (.cells (Cs [pT [41]]).toArray 51 (0, 0)) := by
    rw [hA]; have := heap_alloc_new (w.alloc (.cells #[.string ⟨#[40]⟩, .nilFunc] 51)) (.cells #[.string ⟨#[41]⟩, .nilFunc] 51); simp only [World.size_alloc] at this; exact this
  obtain ⟨wB, hW⟩ : ∃ wB, wB = wA.alloc (.cells #[.slice (some ⟨w.heap.size, 0, none⟩) 1 1, .slice (some ⟨b, o, none⟩) l.length k, .slice (some ⟨w.heap.size + 1, 0, none⟩) 1 1] 53) := ⟨_, rfl⟩
  have hB2 : Below wA.heap.size wA wB := by rw [hW]; exact (Below.refl _ _).alloc (Nat.le_refl _) _
  have hn : wB.heap[w.heap.size + 2]? = some (.cells #[.slice (some ⟨w.heap.size, 0, none⟩) 1 1, .slice (some ⟨b, o, none⟩) l.length k, .slice (some ⟨w.heap.size + 1, 0, none⟩) 1 1] 53 (0, 0)) := by
    rw [hW, ← hsz]; exact heap_alloc_new wA _
  have hs3 : wB.heap.size = w.heap.size + 3 := by rw [hW]; simp [hsz]
  have HC := concat3 (w.heap.size + 2) w.heap.size 0 1 b o k (w.heap.size + 1) 0 1 [pT [40]] l [pT [41]] wB
    (by rw [cell_of_row _ _ _ _ _ _ hn]; rfl) (by rw [cell_of_row _ _ _ _ _ _ hn]; rfl) (by rw [cell_of_row _ _ _ _ _ _ hn]; rfl)
    ((block_cellsP h1).below hB2 (by omega)) ((hc.below hB hb).below hB2 (by omega)) ((block_cellsP h2).below hB2 (by omega)) (by omega) (by omega) (by omega) (by simp) (by simp; omega)
  have HC := Lib.hid HC
  have HB := Lib.hid (hB.trans (hB2.mono (by omega)))
  have HS := Lib.hid hs3
  clear h1 h2 hn hB hB2 hc hs3
  rw [hA] at hW
  have HW := Lib.hid hW
  clear hA hsz hW
  go_enter Tryd.func50, Tryd.ntmps50
  go_wp2_with (go_at_call 44; refine (plain_any _ _).mono ?_; rintro e w' ⟨rfl, rfl⟩)
  obtain rfl := HW.out
  go_at_call 77
  refine (HC.out).mono ?_
  rintro e w' ⟨v, rfl, hv, hb'⟩
  have HF := Lib.hid (show ∃ u, Ending.returned v = .returned u ∧ OwnP w' w.heap.size u (pT [40] :: (l ++ [pT [41]])) ∧ Below w.heap.size w w' from ⟨v, rfl, own_baseP hv (by rw [HS.out]; omega), HB.out.trans (hb'.mono (by rw [HS.out]; omega))⟩)
  clear hv hb'
  go_wp2
  go_ret
  exact HF.out
end Go.Proofs.YtiimofdbconlhaaDoor
