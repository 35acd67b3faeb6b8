/- The reference's reader over one text token, and the end. -/
import Derived.Test.YtiimofdbconlhaaDoorPriQe
import Derived.OrdersHeld
import Derived.Deep.RegionHeld3
namespace Go.Proofs.YtiimofdbconlhaaDoor
open Go.RowKit PriM

/-- A reader over a text token and the end: at a token, so many things open. -/
structure Rdr (w : World) (r b cap : Nat) (T : ByteArray) (A : Nat) (i d : Int) : Prop where
  blk : w.heap[r]? = some (.cells #[.slice (some ⟨b, 0, none⟩) 2 cap, .int .i64 i, .int .i64 d, .int .i64 0, .int .i64 0] 59 (0, 0))
  k0 : w.cell? ⟨b, 0, none⟩ = some (.int .u8 5)
  t0 : w.cell? ⟨b, 1, none⟩ = some (.string T)
  a0 : w.cell? ⟨b, 2, none⟩ = some (.int .i64 0)
  k1 : w.cell? ⟨b, 3, none⟩ = some (.int .u8 0)
  t1 : w.cell? ⟨b, 4, none⟩ = some (.string ⟨#[]⟩)
  a1 : w.cell? ⟨b, 5, none⟩ = some (.int .i64 (A : Int))
  ne : b ≠ r
  c2 : 2 ≤ cap
  cm : cap ≤ maxLen
section
variable {w w' : World} {r b cap : Nat} {T : ByteArray} {A : Nat} {i d : Int}
theorem Rdr.lt (h : Rdr w r b cap T A i d) : r < w.heap.size := lt_of_blk h.blk
theorem Rdr.ltb (h : Rdr w r b cap T A i d) : b < w.heap.size := World.block_lt_of_cell? w _ h.k0
theorem Rdr.kept {i' d' : Int} (h : Rdr w r b cap T A i d) (hk : Kept (fun k => k = r) w w') (hb : w'.heap[r]? = some (.cells #[.slice (some ⟨b, 0, none⟩) 2 cap, .int .i64 i', .int .i64 d', .int .i64 0, .int .i64 0] 59 (0, 0))) : Rdr w' r b cap T A i' d' := by
  have e := hk.block b h.ltb h.ne
  have hc : ∀ j, w'.cell? ⟨b, j, none⟩ = w.cell? ⟨b, j, none⟩ := fun j => World.cell?_of_block e
  exact ⟨hb, (hc 0).trans h.k0, (hc 1).trans h.t0, (hc 2).trans h.a0, (hc 3).trans h.k1, (hc 4).trans h.t1, (hc 5).trans h.a1, h.ne, h.c2, h.cm⟩
theorem Rdr.below (h : Rdr w r b cap T A i d) (hb : Below w.heap.size w w') : Rdr w' r b cap T A i d :=
  h.kept (Below.kept hb fun k h1 h2 => absurd h2 (by omega)) ((hb.block r h.lt).trans h.blk)
theorem Rdr.cells (h : Rdr w r b cap T A i d) : w.cell? ⟨r, 0, none⟩ = some (.slice (some ⟨b, 0, none⟩) 2 cap) ∧ w.cell? ⟨r, 1, none⟩ = some (.int .i64 i) ∧ w.cell? ⟨r, 2, none⟩ = some (.int .i64 d) ∧ w.cell? ⟨r, 4, none⟩ = some (.int .i64 0) :=
  ⟨by rw [cell_of_row _ _ _ _ _ _ h.blk]; rfl, by rw [cell_of_row _ _ _ _ _ _ h.blk]; rfl, by rw [cell_of_row _ _ _ _ _ _ h.blk]; rfl, by rw [cell_of_row _ _ _ _ _ _ h.blk]; rfl⟩
end
theorem kept_of_below {w w' : World} {r : Nat} (h : Below w.heap.size w w') : Kept (fun k => k = r) w w' := Below.kept h fun k h1 h2 => absurd h2 (by omega)
theorem below_drewN {n : Nat} {a b : World} (h : Below n a b) (k : Nat) : Below n a (b.drewN k) := ⟨h.os, h.tape, h.output, h.size, h.block⟩
theorem five_set1 {w : World} {b : Nat} {c0 c1 c2 c3 c4 u : Value} {t : TypeId} (h : w.heap[b]? = some (.cells #[c0, c1, c2, c3, c4] t (0, 0))) : (w.setCell ⟨b, 1, none⟩ u).heap[b]? = some (.cells #[c0, u, c2, c3, c4] t (0, 0)) := by
  simp [World.setCell, Array.getElem?_modify, h]
theorem five_set2 {w : World} {b : Nat} {c0 c1 c2 c3 c4 u : Value} {t : TypeId} (h : w.heap[b]? = some (.cells #[c0, c1, c2, c3, c4] t (0, 0))) : (w.setCell ⟨b, 2, none⟩ u).heap[b]? = some (.cells #[c0, c1, u, c3, c4] t (0, 0)) := by
  simp [World.setCell, Array.getElem?_modify, h]
theorem kept_set {w : World} {r j : Nat} (u : Value) : Kept (fun k => k = r) w (w.setCell ⟨r, j, none⟩ u) := (Kept.refl (fun k => k = r) w).setCell (p := ⟨r, j, none⟩) (.inl rfl) u

/-- What a method leaves. -/
def MPost (w : World) (r b cap : Nat) (T : ByteArray) (A : Nat) (i d : Int) (v : Value) (e : Ending) (w' : World) : Prop := e = .returned v ∧ Kept (fun k => k = r) w w' ∧ Rdr w' r b cap T A i d

/-- Neither token is a sign, or a word. -/
def NoPost (w : World) (e : Ending) (w' : World) : Prop := e = .returned (.bool false) ∧ Below w.heap.size w w'

set_option maxRecDepth 100000 in
set_option maxHeartbeats 4000000 in
theorem r4is_first_t {w : World} {r b cap : Nat} {T : ByteArray} {A : Nat} {d : Int} (h : Rdr w r b cap T A 0 d) (s : ByteArray) (hs : (T.toList == s.toList) = true) :
    Calls Tryd.prog 26 #[.pointer (some ⟨r, 0, none⟩), .string s] w (NoPost w) := by
  obtain ⟨c0, c1, -, c4⟩ := h.cells
  have k := h.k0
  have t := h.t0
  have a := h.a0
  have hc2 := h.c2
  have hcm := h.cm
  clear h
  go_enter Tryd.func26, Tryd.ntmps26
  go_wp2_with fail
  refine wp_region_held_drew (S := fun W => W.cell? ⟨r, 0, none⟩ = some (.slice (some ⟨b, 0, none⟩) 2 cap) ∧ W.cell? ⟨r, 1, none⟩ = some (.int .i64 0) ∧ W.cell? ⟨b, 0, none⟩ = some (.int .u8 5) ∧ W.cell? ⟨b, 1, none⟩ = some (.string T) ∧ W.cell? ⟨b, 2, none⟩ = some (.int .i64 0)) (by kernel_rfl) ⟨c0, c1, k, t, a⟩ ?_
  intro hHeld
  refine wpAnyH_take (i := 0) (v := ?_) (by simp only [List.getElem?_toArray, List.getElem?_cons_zero]; rfl) (by kernel_rfl) (by kernel_rfl) (by kernel_rfl) (by intro _ _ _ h; exact h) (Or.inl ⟨by rfl, ?_⟩) (by assumption) ?_
  rotate_left
  · (intro w hSw; (try dsimp only at hSw); go_simp; try with_reducible rfl)
  try simp only [Act.put, List.setIfInBounds_toArray, List.set_cons_zero, List.set_cons_succ]
  refine wpAnyH_take (i := 1) (v := ?_) (by simp only [List.getElem?_toArray, List.getElem?_cons_succ, List.getElem?_cons_zero]; rfl) (by kernel_rfl) (by kernel_rfl) (by kernel_rfl) (by intro _ _ _ h; exact h) (Or.inl ⟨by rfl, ?_⟩) (by assumption) ?_
  rotate_left
  · (intro w hSw; (try dsimp only at hSw); go_simp; try with_reducible rfl)
  try simp only [Act.put, List.setIfInBounds_toArray, List.set_cons_zero, List.set_cons_succ]
  refine wpAnyH_take (i := 2) (v := ?_) (by simp only [List.getElem?_toArray, List.getElem?_cons_succ, List.getElem?_cons_zero]; rfl) (by kernel_rfl) (by kernel_rfl) (by kernel_rfl) (by intro _ _ _ h; exact h) (Or.inl ⟨by rfl, ?_⟩) (by assumption) ?_
  rotate_left
  · (intro w hSw; (try dsimp only at hSw); go_simp; try with_reducible rfl)
  try simp only [Act.put, List.setIfInBounds_toArray, List.set_cons_zero, List.set_cons_succ]
  refine wpAnyH_take (i := 3) (v := ?_) (by simp only [List.getElem?_toArray, List.getElem?_cons_succ, List.getElem?_cons_zero]; rfl) (by kernel_rfl) (by kernel_rfl) (by kernel_rfl) (by intro _ _ _ h; exact h) (Or.inl ⟨by rfl, ?_⟩) (by assumption) ?_
  rotate_left
  · (intro w hSw; (try dsimp only at hSw); go_simp; try with_reducible rfl)
  try simp only [Act.put, List.setIfInBounds_toArray, List.set_cons_zero, List.set_cons_succ]
  refine wpAnyH_take (i := 4) (v := ?_) (by simp only [List.getElem?_toArray, List.getElem?_cons_succ, List.getElem?_cons_zero]; rfl) (by kernel_rfl) (by kernel_rfl) (by kernel_rfl) (by intro _ _ _ h; exact h) (Or.inl ⟨by rfl, ?_⟩) (by assumption) ?_
  rotate_left
  · (intro w hSw; (try dsimp only at hSw); go_simp; try with_reducible rfl)
  try simp only [Act.put, List.setIfInBounds_toArray, List.set_cons_zero, List.set_cons_succ]
  refine wpAnyH_take (i := 5) (v := ?_) (by simp only [List.getElem?_toArray, List.getElem?_cons_succ, List.getElem?_cons_zero]; rfl) (by kernel_rfl) (by kernel_rfl) (by kernel_rfl) (by intro _ _ _ h; exact h) (Or.inl ⟨by rfl, ?_⟩) (by assumption) ?_
  rotate_left
  · (intro w hSw; (try dsimp only at hSw); go_simp; try with_reducible rfl)
  try simp only [Act.put, List.setIfInBounds_toArray, List.set_cons_zero, List.set_cons_succ]
  refine wpAnyH_take (i := 6) (v := ?_) (by simp only [List.getElem?_toArray, List.getElem?_cons_succ, List.getElem?_cons_zero]; rfl) (by kernel_rfl) (by kernel_rfl) (by kernel_rfl) (by intro _ _ _ h; exact h) (Or.inl ⟨by rfl, ?_⟩) (by assumption) ?_
  rotate_left
  · (intro w hSw; (try dsimp only at hSw); go_simp; try with_reducible rfl)
  try simp only [Act.put, List.setIfInBounds_toArray, List.set_cons_zero, List.set_cons_succ]
  refine wpAnyH_take (i := 7) (v := ?_) (by simp only [List.getElem?_toArray, List.getElem?_cons_succ, List.getElem?_cons_zero]; rfl) (by kernel_rfl) (by kernel_rfl) (by kernel_rfl) (by intro _ _ _ h; exact h) (Or.inl ⟨by rfl, ?_⟩) (by assumption) ?_
  rotate_left
  · (intro w hSw; (try dsimp only at hSw); go_simp; try with_reducible rfl)
  try simp only [Act.put, List.setIfInBounds_toArray, List.set_cons_zero, List.set_cons_succ]
  refine wpAnyH_take (i := 8) (v := ?_) (by simp only [List.getElem?_toArray, List.getElem?_cons_succ, List.getElem?_cons_zero]; rfl) (by kernel_rfl) (by kernel_rfl) (by kernel_rfl) (by intro _ _ _ h; exact h) (Or.inl ⟨by rfl, ?_⟩) (by assumption) ?_
  rotate_left
  · (intro w hSw; (try dsimp only at hSw); go_simp; try with_reducible rfl)
  try simp only [Act.put, List.setIfInBounds_toArray, List.set_cons_zero, List.set_cons_succ]
  refine wpAnyH_take (i := 9) (v := ?_) (by simp only [List.getElem?_toArray, List.getElem?_cons_succ, List.getElem?_cons_zero]; rfl) (by kernel_rfl) (by kernel_rfl) (by kernel_rfl) (by intro _ _ _ h; exact h) (Or.inl ⟨by rfl, ?_⟩) (by assumption) ?_
  rotate_left
  · (intro w hSw; (try dsimp only at hSw); go_simp; try with_reducible rfl)
  try simp only [Act.put, List.setIfInBounds_toArray, List.set_cons_zero, List.set_cons_succ]
  refine wpAnyH_ready (rs := [10]) (by kernel_rfl) (by simp) ?_
  refine AllReadyH.cons (by simp only [List.getElem?_toArray, List.getElem?_cons_succ, List.getElem?_cons_zero]; rfl) (fun K hK => ?_) AllReadyH.nil
  go_simp
  refine hK.out _ _ ⟨cell_alloc (w := w.drew) c0 _, cell_alloc (w := w.drew) c1 _, cell_alloc (w := w.drew) k _, cell_alloc (w := w.drew) t _, cell_alloc (w := w.drew) a _⟩ (fun hHeld => ?_)
  clear hK K
  try simp only [Act.put, List.setIfInBounds_toArray, List.set_cons_zero, List.set_cons_succ]
  refine wpAnyH_ready (rs := [11]) (by kernel_rfl) (by simp) ?_
  refine AllReadyH.cons (by simp only [List.getElem?_toArray, List.getElem?_cons_succ, List.getElem?_cons_zero]; rfl) (fun K hK => ?_) AllReadyH.nil
  go_simp
  refine hK.out _ _ ⟨cell_alloc (w := w.drew) c0 _, cell_alloc (w := w.drew) c1 _, cell_alloc (w := w.drew) k _, cell_alloc (w := w.drew) t _, cell_alloc (w := w.drew) a _⟩ (fun hHeld => ?_)
  clear hK K
  try simp only [Act.put, List.setIfInBounds_toArray, List.set_cons_zero, List.set_cons_succ]
  refine wpAnyH_done (by kernel_rfl) ?_ _
  have e4 := cell_alloc (w := w.drew) c4 (.cells #[.int .u8 5, .string T, .int .i64 0] 71)
  have e5 := cell_alloc c4 (.cells #[.int .u8 5, .string T, .int .i64 0] 71)
  have HB := Lib.hid (show Below w.heap.size w (w.drew.alloc (.cells #[.int .u8 5, .string T, .int .i64 0] 71)) from (Below.drew (Below.refl _ _)).alloc (Nat.le_refl _) _)
  clear hHeld c0 c1 c4 k t a
  go_wp2
  go_ret
  exact ⟨rfl, HB.out⟩

set_option maxRecDepth 100000 in
set_option maxHeartbeats 4000000 in
theorem r4is_first_f {w : World} {r b cap : Nat} {T : ByteArray} {A : Nat} {d : Int} (h : Rdr w r b cap T A 0 d) (s : ByteArray) (hs : (T.toList == s.toList) = false) :
    Calls Tryd.prog 26 #[.pointer (some ⟨r, 0, none⟩), .string s] w (NoPost w) := by
  obtain ⟨c0, c1, -, c4⟩ := h.cells
  have k := h.k0
  have t := h.t0
  have a := h.a0
  have hc2 := h.c2
  have hcm := h.cm
  clear h
  go_enter Tryd.func26, Tryd.ntmps26
  go_wp2_with fail
  refine wp_region_held_drew (S := fun W => W.cell? ⟨r, 0, none⟩ = some (.slice (some ⟨b, 0, none⟩) 2 cap) ∧ W.cell? ⟨r, 1, none⟩ = some (.int .i64 0) ∧ W.cell? ⟨b, 0, none⟩ = some (.int .u8 5) ∧ W.cell? ⟨b, 1, none⟩ = some (.string T) ∧ W.cell? ⟨b, 2, none⟩ = some (.int .i64 0)) (by kernel_rfl) ⟨c0, c1, k, t, a⟩ ?_
  intro hHeld
  refine wpAnyH_take (i := 0) (v := ?_) (by simp only [List.getElem?_toArray, List.getElem?_cons_zero]; rfl) (by kernel_rfl) (by kernel_rfl) (by kernel_rfl) (by intro _ _ _ h; exact h) (Or.inl ⟨by rfl, ?_⟩) (by assumption) ?_
  rotate_left
  · (intro w hSw; (try dsimp only at hSw); go_simp; try with_reducible rfl)
  try simp only [Act.put, List.setIfInBounds_toArray, List.set_cons_zero, List.set_cons_succ]
  refine wpAnyH_take (i := 1) (v := ?_) (by simp only [List.getElem?_toArray, List.getElem?_cons_succ, List.getElem?_cons_zero]; rfl) (by kernel_rfl) (by kernel_rfl) (by kernel_rfl) (by intro _ _ _ h; exact h) (Or.inl ⟨by rfl, ?_⟩) (by assumption) ?_
  rotate_left
  · (intro w hSw; (try dsimp only at hSw); go_simp; try with_reducible rfl)
  try simp only [Act.put, List.setIfInBounds_toArray, List.set_cons_zero, List.set_cons_succ]
  refine wpAnyH_take (i := 2) (v := ?_) (by simp only [List.getElem?_toArray, List.getElem?_cons_succ, List.getElem?_cons_zero]; rfl) (by kernel_rfl) (by kernel_rfl) (by kernel_rfl) (by intro _ _ _ h; exact h) (Or.inl ⟨by rfl, ?_⟩) (by assumption) ?_
  rotate_left
  · (intro w hSw; (try dsimp only at hSw); go_simp; try with_reducible rfl)
  try simp only [Act.put, List.setIfInBounds_toArray, List.set_cons_zero, List.set_cons_succ]
  refine wpAnyH_take (i := 3) (v := ?_) (by simp only [List.getElem?_toArray, List.getElem?_cons_succ, List.getElem?_cons_zero]; rfl) (by kernel_rfl) (by kernel_rfl) (by kernel_rfl) (by intro _ _ _ h; exact h) (Or.inl ⟨by rfl, ?_⟩) (by assumption) ?_
  rotate_left
  · (intro w hSw; (try dsimp only at hSw); go_simp; try with_reducible rfl)
  try simp only [Act.put, List.setIfInBounds_toArray, List.set_cons_zero, List.set_cons_succ]
  refine wpAnyH_take (i := 4) (v := ?_) (by simp only [List.getElem?_toArray, List.getElem?_cons_succ, List.getElem?_cons_zero]; rfl) (by kernel_rfl) (by kernel_rfl) (by kernel_rfl) (by intro _ _ _ h; exact h) (Or.inl ⟨by rfl, ?_⟩) (by assumption) ?_
  rotate_left
  · (intro w hSw; (try dsimp only at hSw); go_simp; try with_reducible rfl)
  try simp only [Act.put, List.setIfInBounds_toArray, List.set_cons_zero, List.set_cons_succ]
  refine wpAnyH_take (i := 5) (v := ?_) (by simp only [List.getElem?_toArray, List.getElem?_cons_succ, List.getElem?_cons_zero]; rfl) (by kernel_rfl) (by kernel_rfl) (by kernel_rfl) (by intro _ _ _ h; exact h) (Or.inl ⟨by rfl, ?_⟩) (by assumption) ?_
  rotate_left
  · (intro w hSw; (try dsimp only at hSw); go_simp; try with_reducible rfl)
  try simp only [Act.put, List.setIfInBounds_toArray, List.set_cons_zero, List.set_cons_succ]
  refine wpAnyH_take (i := 6) (v := ?_) (by simp only [List.getElem?_toArray, List.getElem?_cons_succ, List.getElem?_cons_zero]; rfl) (by kernel_rfl) (by kernel_rfl) (by kernel_rfl) (by intro _ _ _ h; exact h) (Or.inl ⟨by rfl, ?_⟩) (by assumption) ?_
  rotate_left
  · (intro w hSw; (try dsimp only at hSw); go_simp; try with_reducible rfl)
  try simp only [Act.put, List.setIfInBounds_toArray, List.set_cons_zero, List.set_cons_succ]
  refine wpAnyH_take (i := 7) (v := ?_) (by simp only [List.getElem?_toArray, List.getElem?_cons_succ, List.getElem?_cons_zero]; rfl) (by kernel_rfl) (by kernel_rfl) (by kernel_rfl) (by intro _ _ _ h; exact h) (Or.inl ⟨by rfl, ?_⟩) (by assumption) ?_
  rotate_left
  · (intro w hSw; (try dsimp only at hSw); go_simp; try with_reducible rfl)
  try simp only [Act.put, List.setIfInBounds_toArray, List.set_cons_zero, List.set_cons_succ]
  refine wpAnyH_take (i := 8) (v := ?_) (by simp only [List.getElem?_toArray, List.getElem?_cons_succ, List.getElem?_cons_zero]; rfl) (by kernel_rfl) (by kernel_rfl) (by kernel_rfl) (by intro _ _ _ h; exact h) (Or.inl ⟨by rfl, ?_⟩) (by assumption) ?_
  rotate_left
  · (intro w hSw; (try dsimp only at hSw); go_simp; try with_reducible rfl)
  try simp only [Act.put, List.setIfInBounds_toArray, List.set_cons_zero, List.set_cons_succ]
  refine wpAnyH_take (i := 9) (v := ?_) (by simp only [List.getElem?_toArray, List.getElem?_cons_succ, List.getElem?_cons_zero]; rfl) (by kernel_rfl) (by kernel_rfl) (by kernel_rfl) (by intro _ _ _ h; exact h) (Or.inl ⟨by rfl, ?_⟩) (by assumption) ?_
  rotate_left
  · (intro w hSw; (try dsimp only at hSw); go_simp; try with_reducible rfl)
  try simp only [Act.put, List.setIfInBounds_toArray, List.set_cons_zero, List.set_cons_succ]
  refine wpAnyH_ready (rs := [10]) (by kernel_rfl) (by simp) ?_
  refine AllReadyH.cons (by simp only [List.getElem?_toArray, List.getElem?_cons_succ, List.getElem?_cons_zero]; rfl) (fun K hK => ?_) AllReadyH.nil
  go_simp
  refine hK.out _ _ ⟨cell_alloc (w := w.drew) c0 _, cell_alloc (w := w.drew) c1 _, cell_alloc (w := w.drew) k _, cell_alloc (w := w.drew) t _, cell_alloc (w := w.drew) a _⟩ (fun hHeld => ?_)
  clear hK K
  try simp only [Act.put, List.setIfInBounds_toArray, List.set_cons_zero, List.set_cons_succ]
  refine wpAnyH_ready (rs := [11]) (by kernel_rfl) (by simp) ?_
  refine AllReadyH.cons (by simp only [List.getElem?_toArray, List.getElem?_cons_succ, List.getElem?_cons_zero]; rfl) (fun K hK => ?_) AllReadyH.nil
  go_simp
  refine hK.out _ _ ⟨cell_alloc (w := w.drew) c0 _, cell_alloc (w := w.drew) c1 _, cell_alloc (w := w.drew) k _, cell_alloc (w := w.drew) t _, cell_alloc (w := w.drew) a _⟩ (fun hHeld => ?_)
  clear hK K
  try simp only [Act.put, List.setIfInBounds_toArray, List.set_cons_zero, List.set_cons_succ]
  refine wpAnyH_done (by kernel_rfl) ?_ _
  have e4 := cell_alloc (w := w.drew) c4 (.cells #[.int .u8 5, .string T, .int .i64 0] 71)
  have e5 := cell_alloc c4 (.cells #[.int .u8 5, .string T, .int .i64 0] 71)
  have HB := Lib.hid (show Below w.heap.size w (w.drew.alloc (.cells #[.int .u8 5, .string T, .int .i64 0] 71)) from (Below.drew (Below.refl _ _)).alloc (Nat.le_refl _) _)
  clear hHeld c0 c1 c4 k t a
  go_wp2
  go_ret
  exact ⟨rfl, HB.out⟩

set_option maxRecDepth 100000 in
set_option maxHeartbeats 4000000 in
theorem r4is_last {w : World} {r b cap : Nat} {T : ByteArray} {A : Nat} {d : Int} (h : Rdr w r b cap T A 1 d) (s : ByteArray) (hs : s.toList ≠ []) :
    Calls Tryd.prog 26 #[.pointer (some ⟨r, 0, none⟩), .string s] w (NoPost w) := by
  obtain ⟨c0, c1, -, c4⟩ := h.cells
  have k := h.k1
  have t := h.t1
  have a := h.a1
  have hc2 := h.c2
  have hcm := h.cm
  have q1 : (s.toList == []) = false := by simpa using hs
  have q2 : s.toList.isEmpty = false := by simpa using hs
  have q3 : (([] : List UInt8) == s.toList) = false := by rw [beq_eq_false_iff_ne]; exact fun e => hs e.symm
  clear h hs
  go_enter Tryd.func26, Tryd.ntmps26
  go_wp2_with fail
  refine wp_region_held_drew (S := fun W => W.cell? ⟨r, 0, none⟩ = some (.slice (some ⟨b, 0, none⟩) 2 cap) ∧ W.cell? ⟨r, 1, none⟩ = some (.int .i64 1) ∧ W.cell? ⟨b, 3, none⟩ = some (.int .u8 0) ∧ W.cell? ⟨b, 4, none⟩ = some (.string ⟨#[]⟩) ∧ W.cell? ⟨b, 5, none⟩ = some (.int .i64 (A : Int))) (by kernel_rfl) ⟨c0, c1, k, t, a⟩ ?_
  intro hHeld
  refine wpAnyH_take (i := 0) (v := ?_) (by simp only [List.getElem?_toArray, List.getElem?_cons_zero]; rfl) (by kernel_rfl) (by kernel_rfl) (by kernel_rfl) (by intro _ _ _ h; exact h) (Or.inl ⟨by rfl, ?_⟩) (by assumption) ?_
  rotate_left
  · (intro w hSw; (try dsimp only at hSw); go_simp; try with_reducible rfl)
  try simp only [Act.put, List.setIfInBounds_toArray, List.set_cons_zero, List.set_cons_succ]
  refine wpAnyH_take (i := 1) (v := ?_) (by simp only [List.getElem?_toArray, List.getElem?_cons_succ, List.getElem?_cons_zero]; rfl) (by kernel_rfl) (by kernel_rfl) (by kernel_rfl) (by intro _ _ _ h; exact h) (Or.inl ⟨by rfl, ?_⟩) (by assumption) ?_
  rotate_left
  · (intro w hSw; (try dsimp only at hSw); go_simp; try with_reducible rfl)
  try simp only [Act.put, List.setIfInBounds_toArray, List.set_cons_zero, List.set_cons_succ]
  refine wpAnyH_take (i := 2) (v := ?_) (by simp only [List.getElem?_toArray, List.getElem?_cons_succ, List.getElem?_cons_zero]; rfl) (by kernel_rfl) (by kernel_rfl) (by kernel_rfl) (by intro _ _ _ h; exact h) (Or.inl ⟨by rfl, ?_⟩) (by assumption) ?_
  rotate_left
  · (intro w hSw; (try dsimp only at hSw); go_simp; try with_reducible rfl)
  try simp only [Act.put, List.setIfInBounds_toArray, List.set_cons_zero, List.set_cons_succ]
  refine wpAnyH_take (i := 3) (v := ?_) (by simp only [List.getElem?_toArray, List.getElem?_cons_succ, List.getElem?_cons_zero]; rfl) (by kernel_rfl) (by kernel_rfl) (by kernel_rfl) (by intro _ _ _ h; exact h) (Or.inl ⟨by rfl, ?_⟩) (by assumption) ?_
  rotate_left
  · (intro w hSw; (try dsimp only at hSw); go_simp; try with_reducible rfl)
  try simp only [Act.put, List.setIfInBounds_toArray, List.set_cons_zero, List.set_cons_succ]
  refine wpAnyH_take (i := 4) (v := ?_) (by simp only [List.getElem?_toArray, List.getElem?_cons_succ, List.getElem?_cons_zero]; rfl) (by kernel_rfl) (by kernel_rfl) (by kernel_rfl) (by intro _ _ _ h; exact h) (Or.inl ⟨by rfl, ?_⟩) (by assumption) ?_
  rotate_left
  · (intro w hSw; (try dsimp only at hSw); go_simp; try with_reducible rfl)
  try simp only [Act.put, List.setIfInBounds_toArray, List.set_cons_zero, List.set_cons_succ]
  refine wpAnyH_take (i := 5) (v := ?_) (by simp only [List.getElem?_toArray, List.getElem?_cons_succ, List.getElem?_cons_zero]; rfl) (by kernel_rfl) (by kernel_rfl) (by kernel_rfl) (by intro _ _ _ h; exact h) (Or.inl ⟨by rfl, ?_⟩) (by assumption) ?_
  rotate_left
  · (intro w hSw; (try dsimp only at hSw); go_simp; try with_reducible rfl)
  try simp only [Act.put, List.setIfInBounds_toArray, List.set_cons_zero, List.set_cons_succ]
  refine wpAnyH_take (i := 6) (v := ?_) (by simp only [List.getElem?_toArray, List.getElem?_cons_succ, List.getElem?_cons_zero]; rfl) (by kernel_rfl) (by kernel_rfl) (by kernel_rfl) (by intro _ _ _ h; exact h) (Or.inl ⟨by rfl, ?_⟩) (by assumption) ?_
  rotate_left
  · (intro w hSw; (try dsimp only at hSw); go_simp; try with_reducible rfl)
  try simp only [Act.put, List.setIfInBounds_toArray, List.set_cons_zero, List.set_cons_succ]
  refine wpAnyH_take (i := 7) (v := ?_) (by simp only [List.getElem?_toArray, List.getElem?_cons_succ, List.getElem?_cons_zero]; rfl) (by kernel_rfl) (by kernel_rfl) (by kernel_rfl) (by intro _ _ _ h; exact h) (Or.inl ⟨by rfl, ?_⟩) (by assumption) ?_
  rotate_left
  · (intro w hSw; (try dsimp only at hSw); go_simp; try with_reducible rfl)
  try simp only [Act.put, List.setIfInBounds_toArray, List.set_cons_zero, List.set_cons_succ]
  refine wpAnyH_take (i := 8) (v := ?_) (by simp only [List.getElem?_toArray, List.getElem?_cons_succ, List.getElem?_cons_zero]; rfl) (by kernel_rfl) (by kernel_rfl) (by kernel_rfl) (by intro _ _ _ h; exact h) (Or.inl ⟨by rfl, ?_⟩) (by assumption) ?_
  rotate_left
  · (intro w hSw; (try dsimp only at hSw); go_simp; try with_reducible rfl)
  try simp only [Act.put, List.setIfInBounds_toArray, List.set_cons_zero, List.set_cons_succ]
  refine wpAnyH_take (i := 9) (v := ?_) (by simp only [List.getElem?_toArray, List.getElem?_cons_succ, List.getElem?_cons_zero]; rfl) (by kernel_rfl) (by kernel_rfl) (by kernel_rfl) (by intro _ _ _ h; exact h) (Or.inl ⟨by rfl, ?_⟩) (by assumption) ?_
  rotate_left
  · (intro w hSw; (try dsimp only at hSw); go_simp; try with_reducible rfl)
  try simp only [Act.put, List.setIfInBounds_toArray, List.set_cons_zero, List.set_cons_succ]
  refine wpAnyH_ready (rs := [10]) (by kernel_rfl) (by simp) ?_
  refine AllReadyH.cons (by simp only [List.getElem?_toArray, List.getElem?_cons_succ, List.getElem?_cons_zero]; rfl) (fun K hK => ?_) AllReadyH.nil
  go_simp
  refine hK.out _ _ ⟨cell_alloc (w := w.drew) c0 _, cell_alloc (w := w.drew) c1 _, cell_alloc (w := w.drew) k _, cell_alloc (w := w.drew) t _, cell_alloc (w := w.drew) a _⟩ (fun hHeld => ?_)
  clear hK K
  try simp only [Act.put, List.setIfInBounds_toArray, List.set_cons_zero, List.set_cons_succ]
  refine wpAnyH_ready (rs := [11]) (by kernel_rfl) (by simp) ?_
  refine AllReadyH.cons (by simp only [List.getElem?_toArray, List.getElem?_cons_succ, List.getElem?_cons_zero]; rfl) (fun K hK => ?_) AllReadyH.nil
  go_simp
  refine hK.out _ _ ⟨cell_alloc (w := w.drew) c0 _, cell_alloc (w := w.drew) c1 _, cell_alloc (w := w.drew) k _, cell_alloc (w := w.drew) t _, cell_alloc (w := w.drew) a _⟩ (fun hHeld => ?_)
  clear hK K
  try simp only [Act.put, List.setIfInBounds_toArray, List.set_cons_zero, List.set_cons_succ]
  refine wpAnyH_done (by kernel_rfl) ?_ _
  have e4 := cell_alloc (w := w.drew) c4 (.cells #[.int .u8 0, .string ⟨#[]⟩, .int .i64 (A : Int)] 71)
  have e5 := cell_alloc c4 (.cells #[.int .u8 0, .string ⟨#[]⟩, .int .i64 (A : Int)] 71)
  have HB := Lib.hid (show Below w.heap.size w (w.drew.alloc (.cells #[.int .u8 0, .string ⟨#[]⟩, .int .i64 (A : Int)] 71)) from (Below.drew (Below.refl _ _)).alloc (Nat.le_refl _) _)
  clear hHeld c0 c1 c4 k t a
  go_wp2
  go_ret
  exact ⟨rfl, HB.out⟩

theorem r4is_no {w : World} {r b cap : Nat} {T : ByteArray} {A : Nat} {i d : Int} (h : Rdr w r b cap T A i d) (hi : i = 0 ∨ i = 1) (s : ByteArray) (hs : s.toList ≠ []) :
    Calls Tryd.prog 26 #[.pointer (some ⟨r, 0, none⟩), .string s] w (NoPost w) := by
  rcases hi with rfl | rfl
  · cases h1 : (T.toList == s.toList) with
    | true => exact r4is_first_t h s h1
    | false => exact r4is_first_f h s h1
  · exact r4is_last h s hs

set_option maxRecDepth 100000 in
theorem r4take_no {w : World} {r b cap : Nat} {T : ByteArray} {A : Nat} {i d : Int} (h : Rdr w r b cap T A i d) (hi : i = 0 ∨ i = 1) (s : ByteArray) (hs : s.toList ≠ []) :
    Calls Tryd.prog 23 #[.pointer (some ⟨r, 0, none⟩), .string s] w (NoPost w) := by
  have H := Lib.hid (r4is_no h hi s hs)
  clear h hs hi
  go_enter Tryd.func23, Tryd.ntmps23
  go_wp2_with fail
  go_at_call 26
  refine (H.out).mono ?_
  rintro e w1 ⟨rfl, hb⟩
  have HB := Lib.hid hb
  clear hb
  go_wp2_with fail
  go_ret
  exact ⟨rfl, HB.out⟩

set_option maxRecDepth 100000 in
set_option maxHeartbeats 4000000 in
theorem r4kind_first {w : World} {r b cap : Nat} {T : ByteArray} {A : Nat} {d : Int} (h : Rdr w r b cap T A 0 d) (k : Int) (B : Bool) (hB : ((5 : Int) == k) = B) :
    Calls Tryd.prog 24 #[.pointer (some ⟨r, 0, none⟩), .int .u8 k] w fun e w' => e = .returned (.bool B) ∧ Below w.heap.size w w' := by
  obtain ⟨c0, c1, -, c4⟩ := h.cells
  have k0 := h.k0
  have hc2 := h.c2
  have hcm := h.cm
  clear h
  cases B
  all_goals
    go_enter Tryd.func24, Tryd.ntmps24
    go_wp2_with fail
    go_quiet (fail)
    go_wp2
    go_ret
    exact ⟨rfl, below_drewN (Below.refl _ _) _⟩

set_option maxRecDepth 100000 in
set_option maxHeartbeats 4000000 in
theorem r4kind_last {w : World} {r b cap : Nat} {T : ByteArray} {A : Nat} {d : Int} (h : Rdr w r b cap T A 1 d) (k : Int) (B : Bool) (hB : ((0 : Int) == k) = B) :
    Calls Tryd.prog 24 #[.pointer (some ⟨r, 0, none⟩), .int .u8 k] w fun e w' => e = .returned (.bool B) ∧ Below w.heap.size w w' := by
  obtain ⟨c0, c1, -, c4⟩ := h.cells
  have k0 := h.k1
  have hc2 := h.c2
  have hcm := h.cm
  clear h
  cases B
  all_goals
    go_enter Tryd.func24, Tryd.ntmps24
    go_wp2_with fail
    go_quiet (fail)
    go_wp2
    go_ret
    exact ⟨rfl, below_drewN (Below.refl _ _) _⟩

set_option maxRecDepth 100000 in
set_option maxHeartbeats 4000000 in
theorem r4open_any {w : World} {r b cap : Nat} {T : ByteArray} {A : Nat} {i d : Int} (h : Rdr w r b cap T A i d) (h0 : 0 ≤ d) (h1 : d ≤ 40) :
    Calls Tryd.prog 64 #[.pointer (some ⟨r, 0, none⟩)] w (MPost w r b cap T A i (d + 1) (.bool true)) := by
  obtain ⟨c0, c1, c2, c4⟩ := h.cells
  have f2 := row_free w r 2 _ _ h.blk
  have hlt := h.lt
  have fin := Lib.hid (show MPost w r b cap T A i (d + 1) (.bool true) (.returned (.bool true)) (w.setCell ⟨r, 2, none⟩ (.int .i64 (d + 1))) from ⟨rfl, kept_set _, h.kept (kept_set _) (five_set2 h.blk)⟩)
  clear h
  go_enter Tryd.func64, Tryd.ntmps64
  go_wp2
  go_ret
  exact fin.out

set_option maxRecDepth 100000 in
set_option maxHeartbeats 4000000 in
theorem r4text_any {w : World} {r b cap : Nat} {T : ByteArray} {A : Nat} {d : Int} (h : Rdr w r b cap T A 0 d) :
    Calls Tryd.prog 59 #[.pointer (some ⟨r, 0, none⟩), .int .u8 5] w (MPost w r b cap T A 1 d (.string T)) := by
  have HK := Lib.hid (r4kind_first h 5 true (by rfl))
  have HR := Lib.hid h
  clear h
  go_enter Tryd.func59, Tryd.ntmps59
  go_wp2_with fail
  go_at_call 24
  refine (HK.out).mono ?_
  rintro e w1 ⟨rfl, hb⟩
  have h1 := HR.out.below hb
  have HB := Lib.hid hb
  obtain ⟨c0, c1, -, c4⟩ := h1.cells
  have f1 := row_free w1 r 1 _ _ h1.blk
  have hlt := h1.lt
  have hk2 : Kept (fun k => k = r) w1 (w1.setCell ⟨r, 1, none⟩ (.int .i64 1)) := kept_set _
  have h2 := h1.kept hk2 (five_set1 h1.blk)
  have HH := Lib.hid h2
  obtain ⟨d0, d1, -, d4⟩ := h2.cells
  have t0 := h2.t0
  have hc2 := h2.c2
  have hcm := h2.cm
  have HKP := Lib.hid ((kept_of_below (r := r) HB.out).trans hk2)
  clear hb h1 h2 hk2
  go_wp2_with fail
  generalize w1.setCell ⟨r, 1, none⟩ (.int .i64 1) = w2 at *
  go_quiet (fail)
  go_wp2
  go_ret
  exact ⟨rfl, HKP.out.trans (kept_of_below (below_drewN (Below.refl _ _) _)), HH.out.below (below_drewN (Below.refl _ _) _)⟩
end Go.Proofs.YtiimofdbconlhaaDoor
