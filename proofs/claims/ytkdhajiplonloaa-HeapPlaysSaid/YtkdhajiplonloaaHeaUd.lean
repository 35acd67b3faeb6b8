/- Load. -/
import Derived.Test.YtkdhajiplonloaaHeaUc
namespace Go.Proofs.Ytkdhajiplonloaa
open Go.RowKit HeaM

/-- What Load leaves: a heap of these words, all of it new. -/
def LoadPost (w w' : World) (q : Nat) (W : List Nat) (F : List Bool) (e : Ending) : Prop :=
  ∃ d u1 u2, e = .returned (.tuple #[.pointer (some ⟨d, 0, none⟩), .int .i64 0]) ∧ HAt w' d w.heap.size q 0 u1 u2 W F ∧ Below w.heap.size w w' ∧ ∀ k, three d u1 u2 k → w.heap.size ≤ k

theorem madeF (n : Nat) (hn : n ≤ 1000000000) (W : World) : (Instr.makeSlice 61 (.int .i64 (n : Int)) (.int .i64 (n : Int))).run Try.prog W = .ok (.slice (some ⟨W.heap.size, 0, none⟩) n n) (W.alloc (.cells (Fs (List.replicate n false)).toArray 4)) := by
  obtain ⟨i0, hi0, hz0, hz1, hz2⟩ := info_parts boolInfo
  have h := run_make (P := Try.prog) W 61 4 i0 _ Try.underlying61 hi0 hz0 .i64 .i64 (n : Int) (n : Int) (by omega) (by omega) (by rw [hz2]; omega) (by omega)
  rw [h]
  have e : madeCells (Value.bool false).cells (n * i0.size) = (Fs (List.replicate n false)).toArray := by
    apply Array.ext'
    rw [hz1, Nat.mul_one]
    show (madeCells #[Value.bool false] n).toList = _
    rw [toList_madeCells_one]
    simp [Fs]
  simp only [Int.toNat_natCast, e]

theorem balloc {w w1 : World} (h : Below w.heap.size w w1) (o : Obj) : Below w.heap.size w (w1.alloc o) := h.alloc h.size o
theorem bset {w w1 : World} (h : Below w.heap.size w w1) {p : Addr} (hp : w.heap.size ≤ p.block) (u : Value) : Below w.heap.size w (w1.setCell p u) := h.setCell hp u

theorem load_end {w w3 w4 : World} {q base g2 n : Nat} {u1 : Value} {W : List Nat} {CF : Array Value} (ho : OwnW w3 base u1 W) (hb : w.heap.size < base) (h4 : w4.heap[w.heap.size]? = some (.cells #[.int .i64 (q : Int), .int .i64 0, u1, .slice (some ⟨g2, 0, none⟩) n n] 63 (0, 0))) (hk : Kept (fun k => k = w.heap.size) w3 w4)
    (hcf : w4.heap[g2]? = some (.cells CF 4 (0, 0))) (hC : CF.toList = Fs (List.replicate n false)) (hg : w.heap.size ≤ g2) (hn : n ≤ 1000000000) (hbl : Below w.heap.size w w3) : ∃ v1 v2, HAt w4 w.heap.size w.heap.size q 0 v1 v2 W (List.replicate n false) ∧ Below w.heap.size w w4 ∧ ∀ k, three w.heap.size v1 v2 k → w.heap.size ≤ k := by
  have hsz : CF.size = n := by rw [← Array.length_toList, hC, Fs_length, List.length_replicate]
  refine ⟨u1, _, ⟨h4, own_base (own_kept ho hk fun k hk hs => by have := (ho.lt k hk).1; omega) (by omega), ?_⟩, hbl.trans (hk.below hbl.size fun k hk => by omega), ?_⟩
  · unfold OwnF
    rw [List.length_replicate]
    exact ⟨by simp [Fs], .inr ⟨g2, n, CF, rfl, hg, hcf, Nat.le_refl _, by unfold maxLen; omega, by omega, by rw [hC, Nat.mul_one, List.take_of_length_le (by simp [Fs])]⟩⟩
  · intro k hk
    rcases hk with rfl | hk | hk
    · exact Nat.le_refl _
    · have := (ho.lt k hk).1; omega
    · simp only [Value.ownBlock, Option.some.injEq] at hk; omega
theorem load_endA {w w3 : World} {q base n : Nat} {u1 : Value} {W : List Nat} {CF : Array Value} (ho : OwnW w3 base u1 W) (hb : w.heap.size < base) (h3 : w3.heap[w.heap.size]? = some (.cells #[.int .i64 (q : Int), .int .i64 0, .slice none 0 0, .slice none 0 0] 63 (0, 0)))
    (hC : CF.toList = Fs (List.replicate n false)) (hn : n ≤ 1000000000) (hbl : Below w.heap.size w w3) : ∃ v1 v2, HAt (((w3.setCell ⟨w.heap.size, 2, none⟩ u1).setCell ⟨w.heap.size, 3, none⟩ (.slice (some ⟨w3.heap.size, 0, none⟩) n n)).alloc (.cells CF 4)) w.heap.size w.heap.size q 0 v1 v2 W (List.replicate n false) ∧ Below w.heap.size w (((w3.setCell ⟨w.heap.size, 2, none⟩ u1).setCell ⟨w.heap.size, 3, none⟩ (.slice (some ⟨w3.heap.size, 0, none⟩) n n)).alloc (.cells CF 4)) ∧ ∀ k, three w.heap.size v1 v2 k → w.heap.size ≤ k := by
  have hs := hbl.size
  have hl := lt_of_block h3
  have e1 := setCell_three (u := .slice (some ⟨w3.heap.size, 0, none⟩) n n) (setCell_two (u := u1) h3)
  have e2 := heap_alloc_new ((w3.setCell ⟨w.heap.size, 2, none⟩ u1).setCell ⟨w.heap.size, 3, none⟩ (.slice (some ⟨w3.heap.size, 0, none⟩) n n)) (.cells CF 4)
  have e3 : ((w3.setCell ⟨w.heap.size, 2, none⟩ u1).setCell ⟨w.heap.size, 3, none⟩ (.slice (some ⟨w3.heap.size, 0, none⟩) n n)).heap.size = w3.heap.size := by simp
  rw [e3] at e2
  exact load_end ho hb ((Below.heap_alloc _ _ _ (by rw [e3]; exact hl)).trans e1) (Kept.alloc (Kept.setCell (S := fun k => k = w.heap.size) (p := ⟨w.heap.size, 3, none⟩) (Kept.setCell (S := fun k => k = w.heap.size) (p := ⟨w.heap.size, 2, none⟩) (Kept.refl _ _) (.inl rfl) _) (.inl rfl) _) _) e2 hC hs hn hbl
theorem load_endB {w w3 : World} {q base n : Nat} {u1 : Value} {W : List Nat} {CF : Array Value} (ho : OwnW w3 base u1 W) (hb : w.heap.size < base) (h3 : w3.heap[w.heap.size]? = some (.cells #[.int .i64 (q : Int), .int .i64 0, .slice none 0 0, .slice none 0 0] 63 (0, 0))) (hcf : w3.heap[w.heap.size + 1]? = some (.cells CF 4 (0, 0)))
    (hC : CF.toList = Fs (List.replicate n false)) (hn : n ≤ 1000000000) (hbl : Below w.heap.size w w3) : ∃ v1 v2, HAt ((w3.setCell ⟨w.heap.size, 2, none⟩ u1).setCell ⟨w.heap.size, 3, none⟩ (.slice (some ⟨w.heap.size + 1, 0, none⟩) n n)) w.heap.size w.heap.size q 0 v1 v2 W (List.replicate n false) ∧ Below w.heap.size w ((w3.setCell ⟨w.heap.size, 2, none⟩ u1).setCell ⟨w.heap.size, 3, none⟩ (.slice (some ⟨w.heap.size + 1, 0, none⟩) n n)) ∧ ∀ k, three w.heap.size v1 v2 k → w.heap.size ≤ k := by
  have e1 := setCell_three (u := .slice (some ⟨w.heap.size + 1, 0, none⟩) n n) (setCell_two (u := u1) h3)
  refine load_end ho hb e1 (Kept.setCell (S := fun k => k = w.heap.size) (p := ⟨w.heap.size, 3, none⟩) (Kept.setCell (S := fun k => k = w.heap.size) (p := ⟨w.heap.size, 2, none⟩) (Kept.refl _ _) (.inl rfl) _) (.inl rfl) _) ?_ hC (by omega) hn hbl
  rw [heap_setCell_other _ _ _ _ (by simp), heap_setCell_other _ _ _ _ (by simp)]
  exact hcf

end Go.Proofs.Ytkdhajiplonloaa
