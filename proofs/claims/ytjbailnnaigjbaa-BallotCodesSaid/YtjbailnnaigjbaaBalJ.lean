/- One node of one: made. -/
import Derived.Test.YtjbailnnaigjbaaBalI
namespace Go.Proofs.Ytjbailnnaigjbaa
open Go.RowKit OctM

theorem mkB (W : World) : (Instr.makeSlice 36 (.int .i64 1) (.int .i64 1)).run Try.prog W = .ok (.slice (some ⟨W.heap.size, 0, none⟩) 1 1) (W.alloc (.cells #[.bool false] 4)) := by
  obtain ⟨i0, hi0, hz0, hz1, hz2⟩ := info_parts boolinfo
  have h := run_make (P := Try.prog) W 36 4 i0 (.bool false) Try.underlying36 hi0 hz0 .i64 .i64 1 1 (by omega) (by omega) (by rw [hz2]; omega) (by omega)
  have e : madeCells (Value.bool false).cells (Int.toNat 1 * 1) = #[.bool false] := by
    apply Array.ext
    · simp [madeCells]
    · intro i h1 h2
      obtain rfl : i = 0 := by simpa using h2
      simp [madeCells, Value.cells]
  rw [h, hz1, e]
  rfl
theorem mkU (W : World) : (Instr.makeSlice 30 (.int .i64 1) (.int .i64 1)).run Try.prog W = .ok (.slice (some ⟨W.heap.size, 0, none⟩) 1 1) (W.alloc (.cells #[.int .u64 0] 32)) := by
  obtain ⟨i0, hi0, hz0, hz1, hz2⟩ := info_parts u64info
  have h := run_make (P := Try.prog) W 30 32 i0 (.int .u64 0) Try.underlying30 hi0 hz0 .i64 .i64 1 1 (by omega) (by omega) (by rw [hz2]; omega) (by omega)
  have e : madeCells (Value.int .u64 0).cells (Int.toNat 1 * 1) = #[.int .u64 0] := by
    apply Array.ext
    · simp [madeCells]
    · intro i h1 h2
      obtain rfl : i = 0 := by simpa using h2
      simp [madeCells, Value.cells]
  rw [h, hz1, e]
  rfl

theorem up3 {W : World} {r : Nat} {o : Obj} (h : W.heap[r]? = some o) (A B C : Obj) : (((W.alloc A).alloc B).alloc C).heap[r]? = some o := by
  have hr := (Array.getElem?_eq_some_iff.1 h).1
  rw [Below.heap_alloc _ _ _ (by simp; omega), Below.heap_alloc _ _ _ (by simp; omega), Below.heap_alloc _ _ _ hr]
  exact h
theorem three_new (W : World) (A B C : Obj) : (((W.alloc A).alloc B).alloc C).heap[W.heap.size]? = some A ∧ (((W.alloc A).alloc B).alloc C).heap[W.heap.size + 1]? = some B ∧ (((W.alloc A).alloc B).alloc C).heap[W.heap.size + 1 + 1]? = some C ∧ Below W.heap.size W (((W.alloc A).alloc B).alloc C) := by
  have hA := World.alloc_heap_new W A
  have hB := World.alloc_heap_new (W.alloc A) B
  have hC := World.alloc_heap_new ((W.alloc A).alloc B) C
  simp only [World.size_alloc] at hB hC
  refine ⟨?_, ?_, hC, (((Below.refl _ W).alloc (Nat.le_refl _) _).alloc (by simp) _).alloc (by simp; omega) _⟩
  · rw [Below.heap_alloc _ _ _ (by simp; omega), Below.heap_alloc _ _ _ (by simp)]; exact hA
  · rw [Below.heap_alloc _ _ _ (by simp)]; exact hB

theorem own_block1 {W : World} {base g : Nat} {t : TypeId} {u : Value} (h : W.heap[g]? = some (.cells #[u] t (0, 0))) (hb : base ≤ g) : W.ownsRow base t 1 (.slice (some ⟨g, 0, none⟩) 1 1) 1 [u] :=
  ⟨rfl, .inr ⟨g, 1, #[u], rfl, hb, h, Nat.le_refl _, by decide, rfl, rfl⟩⟩

/-- A store of a whole struct, as a step of a region that draws. -/
theorem step_store_row {P : Program} {ops : Array Oper} {o : Oper} {a : Act} {w : World} {K : Act → World → Prop} {Q : Exit → Act → World → Prop} {E : Prop} (hgd : o.guard = none) (ty : TypeId) (x y : Operand) (ho : o.op = .store ty x y)
    (g : Nat) (cells : Array Value) (hx : a.eval x = .pointer (some ⟨g, 0, none⟩)) (hy : a.eval y = .agg cells)
    (t : TypeId) (old : Array Value) (hg : w.heap[g]? = some (.cells old t (0, 0))) (hi : (P.info? ty).map (·.size) = some cells.size)
    (hold : old.size = cells.size) (h1 : cells.all (·.oneCell') = true)
    (h : K (a.put o.dst undef) (w.setRow g cells)) : if Region.wanted o (yielded ops a.tmps) = true then Oper.wp P o a w K Q else E := by
  have hw : Region.wanted o (yielded ops a.tmps) = true := by simp [Region.wanted, hgd]
  rw [if_pos hw]
  exact wp_store_row ty x y ho g cells hx hy t old hg hi hold h1 h

/-- A node that waits. -/
def scW (k lf : Int) : Sc := ⟨1, 0, k, 0, -1, 0, 0, 0, 0, -1, lf⟩

/-- What New leaves. -/
def NewP (k : Int) (w : World) (e : Ending) (w' : World) : Prop :=
  ∃ v n m, e = .returned (.tuple #[stV (scW k k) (.slice none 0 0) (.slice none 0 0) v n m, .int .i64 0]) ∧ StO w' w.heap.size [] [] [.bool false] [Wd 0] [Wd 0] (.slice none 0 0) (.slice none 0 0) v n m ∧ Below w.heap.size w w'

/-- What New's store leaves. -/
def NewF (k : Int) (w W : World) (gv gn gm : Nat) : Prop :=
  W.heap[w.heap.size]? = some (.cells (stC (scW k k) (.slice none 0 0) (.slice none 0 0) (.slice (some ⟨gv, 0, none⟩) 1 1) (.slice (some ⟨gn, 0, none⟩) 1 1) (.slice (some ⟨gm, 0, none⟩) 1 1)).toArray 41 (0, 0)) ∧
    StO W w.heap.size [] [] [.bool false] [Wd 0] [Wd 0] (.slice none 0 0) (.slice none 0 0) (.slice (some ⟨gv, 0, none⟩) 1 1) (.slice (some ⟨gn, 0, none⟩) 1 1) (.slice (some ⟨gm, 0, none⟩) 1 1) ∧ Below w.heap.size w W
theorem new_fin2 (k : Int) (w W0 : World) (A B C : Obj) (gv gn gm : Nat) (hb0 : Below w.heap.size w W0) (hR : (((W0.alloc A).alloc B).alloc C).heap[w.heap.size]? = some (.cells zsC.toArray 41 (0, 0))) (hb : Below W0.heap.size W0 (((W0.alloc A).alloc B).alloc C))
    (hv : (((W0.alloc A).alloc B).alloc C).heap[gv]? = some (.cells #[.bool false] 4 (0, 0))) (hn : (((W0.alloc A).alloc B).alloc C).heap[gn]? = some (.cells #[.int .u64 0] 32 (0, 0))) (hm : (((W0.alloc A).alloc B).alloc C).heap[gm]? = some (.cells #[.int .u64 0] 32 (0, 0)))
    (hz : w.heap.size + 1 = W0.heap.size) (hnm : gn ≠ gm) (h1 : w.heap.size < gv) (h2 : w.heap.size < gn) (h3 : w.heap.size < gm) :
    NewF k w ((((W0.alloc A).alloc B).alloc C).setRow w.heap.size (stC (scW k k) (.slice none 0 0) (.slice none 0 0) (.slice (some ⟨gv, 0, none⟩) 1 1) (.slice (some ⟨gn, 0, none⟩) 1 1) (.slice (some ⟨gm, 0, none⟩) 1 1)).toArray) gv gn gm := by
  refine ⟨setRow_heap _ _ _ _ _ _ hR, ?_, (hb0.trans (hb.mono (by omega))).trans ((row_kept _ _ _).below (Nat.le_trans hb0.size hb.size) (fun k hk => by omega))⟩
  have r1 := (setRow_other (((W0.alloc A).alloc B).alloc C) w.heap.size gv (stC (scW k k) (.slice none 0 0) (.slice none 0 0) (.slice (some ⟨gv, 0, none⟩) 1 1) (.slice (some ⟨gn, 0, none⟩) 1 1) (.slice (some ⟨gm, 0, none⟩) 1 1)).toArray (by omega)).trans hv
  have r2 := (setRow_other (((W0.alloc A).alloc B).alloc C) w.heap.size gn (stC (scW k k) (.slice none 0 0) (.slice none 0 0) (.slice (some ⟨gv, 0, none⟩) 1 1) (.slice (some ⟨gn, 0, none⟩) 1 1) (.slice (some ⟨gm, 0, none⟩) 1 1)).toArray (by omega)).trans hn
  have r3 := (setRow_other (((W0.alloc A).alloc B).alloc C) w.heap.size gm (stC (scW k k) (.slice none 0 0) (.slice none 0 0) (.slice (some ⟨gv, 0, none⟩) 1 1) (.slice (some ⟨gn, 0, none⟩) 1 1) (.slice (some ⟨gm, 0, none⟩) 1 1)).toArray (by omega)).trans hm
  exact ⟨World.ownsRow_nil _ _ _ _, ownL_nil _ _, own_block1 r1 (by omega), own_block1 r2 (by omega), own_block1 r3 (by omega), fun g hg e => hnm (by
    have a : gn = g := by simpa [Value.ownBlock] using hg
    have b : gm = g := by simpa [Value.ownBlock] using e
    omega)⟩

set_option maxRecDepth 100000 in
theorem new_ret {k : Int} {w W : World} {gv gn gm : Nat} {tm : Array Value} (h : NewF k w W gv gn gm) (h6 : tm.getD 6 undef = .pointer (some ⟨w.heap.size, 0, none⟩)) (h7 : tm.getD 7 undef = .int .i64 0) : bodyPost Try.prog Try.f16 (NewP k w) .ret { tmps := tm, defers := [] } W := by
  obtain ⟨hf, hst, hbl⟩ := h
  have g6 : tm[6]?.getD undef = .pointer (some ⟨w.heap.size, 0, none⟩) := by simpa using h6
  have g7 : tm[7]?.getD undef = .int .i64 0 := by simpa using h7
  have r0 : W.cell? ⟨w.heap.size, 0, none⟩ = some (.int .i64 1) := cellk hf rfl
  have r1 : W.cell? ⟨w.heap.size, 1, none⟩ = some (.int .i64 0) := cellk hf rfl
  have r2 : W.cell? ⟨w.heap.size, 2, none⟩ = some (.int .i64 k) := cellk hf rfl
  have r3 : W.cell? ⟨w.heap.size, 3, none⟩ = some (.int .u64 0) := cellk hf rfl
  have r4 : W.cell? ⟨w.heap.size, 4, none⟩ = some (.int .i64 (-1)) := cellk hf rfl
  have r5 : W.cell? ⟨w.heap.size, 5, none⟩ = some (.int .u64 0) := cellk hf rfl
  have r6 : W.cell? ⟨w.heap.size, 6, none⟩ = some (.int .u64 0) := cellk hf rfl
  have r7 : W.cell? ⟨w.heap.size, 7, none⟩ = some (.slice none 0 0) := cellk hf rfl
  have r8 : W.cell? ⟨w.heap.size, 8, none⟩ = some (.slice none 0 0) := cellk hf rfl
  have r9 : W.cell? ⟨w.heap.size, 9, none⟩ = some (.int .u64 0) := cellk hf rfl
  have r10 : W.cell? ⟨w.heap.size, 10, none⟩ = some (.int .u8 0) := cellk hf rfl
  have r11 : W.cell? ⟨w.heap.size, 11, none⟩ = some (.int .i64 (-1)) := cellk hf rfl
  have r12 : W.cell? ⟨w.heap.size, 12, none⟩ = some (.int .i64 k) := cellk hf rfl
  have r13 : W.cell? ⟨w.heap.size, 13, none⟩ = some (.slice (some ⟨gv, 0, none⟩) 1 1) := cellk hf rfl
  have r14 : W.cell? ⟨w.heap.size, 14, none⟩ = some (.slice (some ⟨gn, 0, none⟩) 1 1) := cellk hf rfl
  have r15 : W.cell? ⟨w.heap.size, 15, none⟩ = some (.slice (some ⟨gm, 0, none⟩) 1 1) := cellk hf rfl
  refine bodyPost_ret (v := .tuple #[.agg #[.int .i64 1, .int .i64 0, .int .i64 k, .int .u64 0, .int .i64 (-1), .int .u64 0, .int .u64 0, .slice none 0 0, .slice none 0 0, .int .u64 0, .int .u8 0, .int .i64 (-1), .int .i64 k, .slice (some ⟨gv, 0, none⟩) 1 1, .slice (some ⟨gn, 0, none⟩) 1 1, .slice (some ⟨gm, 0, none⟩) 1 1], .int .i64 0]) (by simp [results, Try.results16, go_sem, g6, g7, r0, r1, r2, r3, r4, r5, r6, r7, r8, r9, r10, r11, r12, r13, r14, r15]) rfl ⟨_, _, _, rfl, hst, hbl⟩

set_option maxHeartbeats 8000000 in
set_option maxRecDepth 100000 in
theorem new_one (k : Int) (w : World) (h0 : 2 ≤ k) (h1 : k ≤ 1000) :
    Calls Try.prog 16 #[.int .i64 1, .int .i64 0, .int .i64 k] w (NewP k w) := by
  have hB := mkB
  have hU := mkU
  go_enter Try.func16, Try.ntmps16
  go_wp2_with fail
  obtain ⟨W0, hW0⟩ : ∃ W0, w.alloc (.cells zsC.toArray 41) = W0 := ⟨_, rfl⟩
  have hr := (congrArg (fun W => W.heap[w.heap.size]?) hW0).symm.trans (World.alloc_heap_new w (.cells zsC.toArray 41))
  have hb : Below w.heap.size w W0 := by rw [← hW0]; exact (Below.refl _ _).alloc (Nat.le_refl _) _
  unfold zsC at hW0
  rw [hW0]
  have hz : w.heap.size + 1 = W0.heap.size := by rw [← hW0]; simp
  clear hW0
  have HR := Lib.hid hr
  have HB := Lib.hid hb
  have HZ := Lib.hid hz
  clear hr hb hz
  refine wp_region_held_drew (S := fun _ => True) (by kernel_rfl) trivial ?_
  intro hHeld
  refine wpAnyH_take (i := 0) (v := ?_) (by simp only [List.getElem?_toArray, List.getElem?_cons_zero]; rfl) (by kernel_rfl) (by kernel_rfl) (by kernel_rfl) (by intro _ _ _ h; exact h) (Or.inl ⟨by rfl, ?_⟩) (by assumption) ?_
  rotate_left
  · (intro w hSw; (try dsimp only at hSw); go_simp; try with_reducible rfl)
  try simp only [Act.put, List.setIfInBounds_toArray, List.set_cons_zero, List.set_cons_succ]
  refine wpAnyH_take (i := 1) (v := ?_) (by simp only [List.getElem?_toArray, List.getElem?_cons_succ, List.getElem?_cons_zero]; rfl) (by kernel_rfl) (by kernel_rfl) (by kernel_rfl) (by intro _ _ _ h; exact h) (Or.inl ⟨by rfl, ?_⟩) (by assumption) ?_
  rotate_left
  · (intro w hSw; (try dsimp only at hSw); go_simp; try with_reducible rfl)
  try simp only [Act.put, List.setIfInBounds_toArray, List.set_cons_zero, List.set_cons_succ]
  refine wpAnyH_take (i := 2) (v := ?_) (by simp only [List.getElem?_toArray, List.getElem?_cons_succ, List.getElem?_cons_zero]; rfl) (by kernel_rfl) (by kernel_rfl) (by kernel_rfl) (by intro _ _ _ h; exact h) (Or.inl ⟨by rfl, ?_⟩) (by assumption) ?_
  rotate_left
  · (intro w hSw; (try dsimp only at hSw); go_simp; try with_reducible rfl)
  try simp only [Act.put, List.setIfInBounds_toArray, List.set_cons_zero, List.set_cons_succ]
  refine wpAnyH_take (i := 3) (v := ?_) (by simp only [List.getElem?_toArray, List.getElem?_cons_succ, List.getElem?_cons_zero]; rfl) (by kernel_rfl) (by kernel_rfl) (by kernel_rfl) (by intro _ _ _ h; exact h) (Or.inl ⟨by rfl, ?_⟩) (by assumption) ?_
  rotate_left
  · (intro w hSw; (try dsimp only at hSw); go_simp; try with_reducible rfl)
  try simp only [Act.put, List.setIfInBounds_toArray, List.set_cons_zero, List.set_cons_succ]
  refine wpAnyH_take (i := 4) (v := ?_) (by simp only [List.getElem?_toArray, List.getElem?_cons_succ, List.getElem?_cons_zero]; rfl) (by kernel_rfl) (by kernel_rfl) (by kernel_rfl) (by intro _ _ _ h; exact h) (Or.inl ⟨by rfl, ?_⟩) (by assumption) ?_
  rotate_left
  · (intro w hSw; (try dsimp only at hSw); go_simp; try with_reducible rfl)
  try simp only [Act.put, List.setIfInBounds_toArray, List.set_cons_zero, List.set_cons_succ]
  refine wpAnyH_take (i := 6) (v := ?_) (by simp only [List.getElem?_toArray, List.getElem?_cons_succ, List.getElem?_cons_zero]; rfl) (by kernel_rfl) (by kernel_rfl) (by kernel_rfl) (by intro _ _ _ h; exact h) (Or.inl ⟨by rfl, ?_⟩) (by assumption) ?_
  rotate_left
  · (intro w hSw; (try dsimp only at hSw); go_simp; try with_reducible rfl)
  try simp only [Act.put, List.setIfInBounds_toArray, List.set_cons_zero, List.set_cons_succ]
  refine wpAnyH_take (i := 8) (v := ?_) (by simp only [List.getElem?_toArray, List.getElem?_cons_succ, List.getElem?_cons_zero]; rfl) (by kernel_rfl) (by kernel_rfl) (by kernel_rfl) (by intro _ _ _ h; exact h) (Or.inl ⟨by rfl, ?_⟩) (by assumption) ?_
  rotate_left
  · (intro w hSw; (try dsimp only at hSw); go_simp; try with_reducible rfl)
  try simp only [Act.put, List.setIfInBounds_toArray, List.set_cons_zero, List.set_cons_succ]
  refine wpAnyH_ready (rs := [5, 7, 9]) (by kernel_rfl) (by simp) ?_
  refine AllReadyH.cons (by simp only [List.getElem?_toArray, List.getElem?_cons_succ, List.getElem?_cons_zero]; rfl) (fun K hK => ?_) ?_
  ·
    go_simp
    refine hK.out _ _ trivial (fun hHeld => ?_)
    clear hK K
    try simp only [Act.put, List.setIfInBounds_toArray, List.set_cons_zero, List.set_cons_succ]
    refine wpAnyH_ready (rs := [7, 9]) (by kernel_rfl) (by simp) ?_
    refine AllReadyH.cons (by simp only [List.getElem?_toArray, List.getElem?_cons_succ, List.getElem?_cons_zero]; rfl) (fun K hK => ?_) ?_
    ·
      go_simp
      refine hK.out _ _ trivial (fun hHeld => ?_)
      clear hK K
      try simp only [Act.put, List.setIfInBounds_toArray, List.set_cons_zero, List.set_cons_succ]
      refine wpAnyH_ready (rs := [9]) (by kernel_rfl) (by simp) ?_
      refine AllReadyH.cons (by simp only [List.getElem?_toArray, List.getElem?_cons_succ, List.getElem?_cons_zero]; rfl) (fun K hK => ?_) AllReadyH.nil
      go_simp
      refine hK.out _ _ trivial (fun hHeld => ?_)
      clear hK K
      try simp only [Act.put, List.setIfInBounds_toArray, List.set_cons_zero, List.set_cons_succ]
      refine wpAnyH_take (i := 10) (v := ?_) (by simp only [List.getElem?_toArray, List.getElem?_cons_succ, List.getElem?_cons_zero]; rfl) (by kernel_rfl) (by kernel_rfl) (by kernel_rfl) (by intro _ _ _ h; exact h) (Or.inl ⟨by rfl, ?_⟩) (by assumption) ?_
      rotate_left
      · (intro w hSw; (try dsimp only at hSw); go_simp; try with_reducible rfl)
      try simp only [Act.put, List.setIfInBounds_toArray, List.set_cons_zero, List.set_cons_succ]
      refine wpAnyH_ready (rs := [11]) (by kernel_rfl) (by simp) ?_
      refine AllReadyH.cons (by simp only [List.getElem?_toArray, List.getElem?_cons_succ, List.getElem?_cons_zero]; rfl) (fun K hK => ?_) AllReadyH.nil
      refine step_store_row rfl 41 (.tmp 6) (.tmp 42) rfl w.heap.size (stC (scW k k) (.slice none 0 0) (.slice none 0 0) (.slice (some ⟨W0.heap.size, 0, none⟩) 1 1) (.slice (some ⟨W0.heap.size + 1, 0, none⟩) 1 1) (.slice (some ⟨W0.heap.size + 1 + 1, 0, none⟩) 1 1)).toArray rfl rfl 41 zsC.toArray (up3 (W := W0.drew) HR.out _ _ _) (by kernel_rfl) rfl (by simp [stC, Value.oneCell']) ?_
      refine hK.out _ _ trivial (fun hHeld => ?_)
      clear hK K
      try simp only [Act.put]
      refine wpAnyH_take (i := 12) (v := ?_) (by simp only [List.getElem?_toArray, List.getElem?_cons_succ, List.getElem?_cons_zero]; rfl) (by kernel_rfl) (by kernel_rfl) (by kernel_rfl) (by intro _ _ _ h; exact h) (Or.inl ⟨by rfl, ?_⟩) (by assumption) ?_
      rotate_left
      · (intro w hSw; (try dsimp only at hSw); go_simp; try with_reducible rfl)
      try simp only [Act.put, List.setIfInBounds_toArray, List.set_cons_zero, List.set_cons_succ]
      refine wpAnyH_done (by kernel_rfl) ?_ _
      obtain ⟨b0, b1, b2, b3⟩ := three_new W0.drew (.cells #[.bool false] 4) (.cells #[.int .u64 0] 32) (.cells #[.int .u64 0] 32)
      have hf := new_fin2 k w W0.drew _ _ _ (W0.heap.size) (W0.heap.size + 1) (W0.heap.size + 1 + 1) (HB.out.drew) (up3 (W := W0.drew) HR.out _ _ _) b3 b0 b1 b2 HZ.out (by omega) (by have := HZ.out; show w.heap.size < _; omega) (by have := HZ.out; show w.heap.size < _; omega) (by have := HZ.out; show w.heap.size < _; omega)
      have HF := Lib.hid hf
      clear b0 b1 b2 b3 hf
      go_wp2_with fail
      exact new_ret HF.out rfl rfl
    refine AllReadyH.cons (by simp only [List.getElem?_toArray, List.getElem?_cons_succ, List.getElem?_cons_zero]; rfl) (fun K hK => ?_) AllReadyH.nil
    go_simp
    refine hK.out _ _ trivial (fun hHeld => ?_)
    clear hK K
    try simp only [Act.put, List.setIfInBounds_toArray, List.set_cons_zero, List.set_cons_succ]
    refine wpAnyH_ready (rs := [7]) (by kernel_rfl) (by simp) ?_
    refine AllReadyH.cons (by simp only [List.getElem?_toArray, List.getElem?_cons_succ, List.getElem?_cons_zero]; rfl) (fun K hK => ?_) AllReadyH.nil
    go_simp
    refine hK.out _ _ trivial (fun hHeld => ?_)
    clear hK K
    try simp only [Act.put, List.setIfInBounds_toArray, List.set_cons_zero, List.set_cons_succ]
    refine wpAnyH_take (i := 10) (v := ?_) (by simp only [List.getElem?_toArray, List.getElem?_cons_succ, List.getElem?_cons_zero]; rfl) (by kernel_rfl) (by kernel_rfl) (by kernel_rfl) (by intro _ _ _ h; exact h) (Or.inl ⟨by rfl, ?_⟩) (by assumption) ?_
    rotate_left
    · (intro w hSw; (try dsimp only at hSw); go_simp; try with_reducible rfl)
    try simp only [Act.put, List.setIfInBounds_toArray, List.set_cons_zero, List.set_cons_succ]
    refine wpAnyH_ready (rs := [11]) (by kernel_rfl) (by simp) ?_
    refine AllReadyH.cons (by simp only [List.getElem?_toArray, List.getElem?_cons_succ, List.getElem?_cons_zero]; rfl) (fun K hK => ?_) AllReadyH.nil
    refine step_store_row rfl 41 (.tmp 6) (.tmp 42) rfl w.heap.size (stC (scW k k) (.slice none 0 0) (.slice none 0 0) (.slice (some ⟨W0.heap.size, 0, none⟩) 1 1) (.slice (some ⟨W0.heap.size + 1 + 1, 0, none⟩) 1 1) (.slice (some ⟨W0.heap.size + 1, 0, none⟩) 1 1)).toArray rfl rfl 41 zsC.toArray (up3 (W := W0.drew) HR.out _ _ _) (by kernel_rfl) rfl (by simp [stC, Value.oneCell']) ?_
    refine hK.out _ _ trivial (fun hHeld => ?_)
    clear hK K
    try simp only [Act.put]
    refine wpAnyH_take (i := 12) (v := ?_) (by simp only [List.getElem?_toArray, List.getElem?_cons_succ, List.getElem?_cons_zero]; rfl) (by kernel_rfl) (by kernel_rfl) (by kernel_rfl) (by intro _ _ _ h; exact h) (Or.inl ⟨by rfl, ?_⟩) (by assumption) ?_
    rotate_left
    · (intro w hSw; (try dsimp only at hSw); go_simp; try with_reducible rfl)
    try simp only [Act.put, List.setIfInBounds_toArray, List.set_cons_zero, List.set_cons_succ]
    refine wpAnyH_done (by kernel_rfl) ?_ _
    obtain ⟨b0, b1, b2, b3⟩ := three_new W0.drew (.cells #[.bool false] 4) (.cells #[.int .u64 0] 32) (.cells #[.int .u64 0] 32)
    have hf := new_fin2 k w W0.drew _ _ _ (W0.heap.size) (W0.heap.size + 1 + 1) (W0.heap.size + 1) (HB.out.drew) (up3 (W := W0.drew) HR.out _ _ _) b3 b0 b2 b1 HZ.out (by omega) (by have := HZ.out; show w.heap.size < _; omega) (by have := HZ.out; show w.heap.size < _; omega) (by have := HZ.out; show w.heap.size < _; omega)
    have HF := Lib.hid hf
    clear b0 b1 b2 b3 hf
    go_wp2_with fail
    exact new_ret HF.out rfl rfl
  refine AllReadyH.cons (by simp only [List.getElem?_toArray, List.getElem?_cons_succ, List.getElem?_cons_zero]; rfl) (fun K hK => ?_) ?_
  ·
    go_simp
    refine hK.out _ _ trivial (fun hHeld => ?_)
    clear hK K
    try simp only [Act.put, List.setIfInBounds_toArray, List.set_cons_zero, List.set_cons_succ]
    refine wpAnyH_ready (rs := [5, 9]) (by kernel_rfl) (by simp) ?_
    refine AllReadyH.cons (by simp only [List.getElem?_toArray, List.getElem?_cons_succ, List.getElem?_cons_zero]; rfl) (fun K hK => ?_) ?_
    ·
      go_simp
      refine hK.out _ _ trivial (fun hHeld => ?_)
      clear hK K
      try simp only [Act.put, List.setIfInBounds_toArray, List.set_cons_zero, List.set_cons_succ]
      refine wpAnyH_ready (rs := [9]) (by kernel_rfl) (by simp) ?_
      refine AllReadyH.cons (by simp only [List.getElem?_toArray, List.getElem?_cons_succ, List.getElem?_cons_zero]; rfl) (fun K hK => ?_) AllReadyH.nil
      go_simp
      refine hK.out _ _ trivial (fun hHeld => ?_)
      clear hK K
      try simp only [Act.put, List.setIfInBounds_toArray, List.set_cons_zero, List.set_cons_succ]
      refine wpAnyH_take (i := 10) (v := ?_) (by simp only [List.getElem?_toArray, List.getElem?_cons_succ, List.getElem?_cons_zero]; rfl) (by kernel_rfl) (by kernel_rfl) (by kernel_rfl) (by intro _ _ _ h; exact h) (Or.inl ⟨by rfl, ?_⟩) (by assumption) ?_
      rotate_left
      · (intro w hSw; (try dsimp only at hSw); go_simp; try with_reducible rfl)
      try simp only [Act.put, List.setIfInBounds_toArray, List.set_cons_zero, List.set_cons_succ]
      refine wpAnyH_ready (rs := [11]) (by kernel_rfl) (by simp) ?_
      refine AllReadyH.cons (by simp only [List.getElem?_toArray, List.getElem?_cons_succ, List.getElem?_cons_zero]; rfl) (fun K hK => ?_) AllReadyH.nil
      refine step_store_row rfl 41 (.tmp 6) (.tmp 42) rfl w.heap.size (stC (scW k k) (.slice none 0 0) (.slice none 0 0) (.slice (some ⟨W0.heap.size + 1, 0, none⟩) 1 1) (.slice (some ⟨W0.heap.size, 0, none⟩) 1 1) (.slice (some ⟨W0.heap.size + 1 + 1, 0, none⟩) 1 1)).toArray rfl rfl 41 zsC.toArray (up3 (W := W0.drew) HR.out _ _ _) (by kernel_rfl) rfl (by simp [stC, Value.oneCell']) ?_
      refine hK.out _ _ trivial (fun hHeld => ?_)
      clear hK K
      try simp only [Act.put]
      refine wpAnyH_take (i := 12) (v := ?_) (by simp only [List.getElem?_toArray, List.getElem?_cons_succ, List.getElem?_cons_zero]; rfl) (by kernel_rfl) (by kernel_rfl) (by kernel_rfl) (by intro _ _ _ h; exact h) (Or.inl ⟨by rfl, ?_⟩) (by assumption) ?_
      rotate_left
      · (intro w hSw; (try dsimp only at hSw); go_simp; try with_reducible rfl)
      try simp only [Act.put, List.setIfInBounds_toArray, List.set_cons_zero, List.set_cons_succ]
      refine wpAnyH_done (by kernel_rfl) ?_ _
      obtain ⟨b0, b1, b2, b3⟩ := three_new W0.drew (.cells #[.int .u64 0] 32) (.cells #[.bool false] 4) (.cells #[.int .u64 0] 32)
      have hf := new_fin2 k w W0.drew _ _ _ (W0.heap.size + 1) (W0.heap.size) (W0.heap.size + 1 + 1) (HB.out.drew) (up3 (W := W0.drew) HR.out _ _ _) b3 b1 b0 b2 HZ.out (by omega) (by have := HZ.out; show w.heap.size < _; omega) (by have := HZ.out; show w.heap.size < _; omega) (by have := HZ.out; show w.heap.size < _; omega)
      have HF := Lib.hid hf
      clear b0 b1 b2 b3 hf
      go_wp2_with fail
      exact new_ret HF.out rfl rfl
    refine AllReadyH.cons (by simp only [List.getElem?_toArray, List.getElem?_cons_succ, List.getElem?_cons_zero]; rfl) (fun K hK => ?_) AllReadyH.nil
    go_simp
    refine hK.out _ _ trivial (fun hHeld => ?_)
    clear hK K
    try simp only [Act.put, List.setIfInBounds_toArray, List.set_cons_zero, List.set_cons_succ]
    refine wpAnyH_ready (rs := [5]) (by kernel_rfl) (by simp) ?_
    refine AllReadyH.cons (by simp only [List.getElem?_toArray, List.getElem?_cons_succ, List.getElem?_cons_zero]; rfl) (fun K hK => ?_) AllReadyH.nil
    go_simp
    refine hK.out _ _ trivial (fun hHeld => ?_)
    clear hK K
    try simp only [Act.put, List.setIfInBounds_toArray, List.set_cons_zero, List.set_cons_succ]
    refine wpAnyH_take (i := 10) (v := ?_) (by simp only [List.getElem?_toArray, List.getElem?_cons_succ, List.getElem?_cons_zero]; rfl) (by kernel_rfl) (by kernel_rfl) (by kernel_rfl) (by intro _ _ _ h; exact h) (Or.inl ⟨by rfl, ?_⟩) (by assumption) ?_
    rotate_left
    · (intro w hSw; (try dsimp only at hSw); go_simp; try with_reducible rfl)
    try simp only [Act.put, List.setIfInBounds_toArray, List.set_cons_zero, List.set_cons_succ]
    refine wpAnyH_ready (rs := [11]) (by kernel_rfl) (by simp) ?_
    refine AllReadyH.cons (by simp only [List.getElem?_toArray, List.getElem?_cons_succ, List.getElem?_cons_zero]; rfl) (fun K hK => ?_) AllReadyH.nil
    refine step_store_row rfl 41 (.tmp 6) (.tmp 42) rfl w.heap.size (stC (scW k k) (.slice none 0 0) (.slice none 0 0) (.slice (some ⟨W0.heap.size + 1 + 1, 0, none⟩) 1 1) (.slice (some ⟨W0.heap.size, 0, none⟩) 1 1) (.slice (some ⟨W0.heap.size + 1, 0, none⟩) 1 1)).toArray rfl rfl 41 zsC.toArray (up3 (W := W0.drew) HR.out _ _ _) (by kernel_rfl) rfl (by simp [stC, Value.oneCell']) ?_
    refine hK.out _ _ trivial (fun hHeld => ?_)
    clear hK K
    try simp only [Act.put]
    refine wpAnyH_take (i := 12) (v := ?_) (by simp only [List.getElem?_toArray, List.getElem?_cons_succ, List.getElem?_cons_zero]; rfl) (by kernel_rfl) (by kernel_rfl) (by kernel_rfl) (by intro _ _ _ h; exact h) (Or.inl ⟨by rfl, ?_⟩) (by assumption) ?_
    rotate_left
    · (intro w hSw; (try dsimp only at hSw); go_simp; try with_reducible rfl)
    try simp only [Act.put, List.setIfInBounds_toArray, List.set_cons_zero, List.set_cons_succ]
    refine wpAnyH_done (by kernel_rfl) ?_ _
    obtain ⟨b0, b1, b2, b3⟩ := three_new W0.drew (.cells #[.int .u64 0] 32) (.cells #[.int .u64 0] 32) (.cells #[.bool false] 4)
    have hf := new_fin2 k w W0.drew _ _ _ (W0.heap.size + 1 + 1) (W0.heap.size) (W0.heap.size + 1) (HB.out.drew) (up3 (W := W0.drew) HR.out _ _ _) b3 b2 b0 b1 HZ.out (by omega) (by have := HZ.out; show w.heap.size < _; omega) (by have := HZ.out; show w.heap.size < _; omega) (by have := HZ.out; show w.heap.size < _; omega)
    have HF := Lib.hid hf
    clear b0 b1 b2 b3 hf
    go_wp2_with fail
    exact new_ret HF.out rfl rfl
  refine AllReadyH.cons (by simp only [List.getElem?_toArray, List.getElem?_cons_succ, List.getElem?_cons_zero]; rfl) (fun K hK => ?_) AllReadyH.nil
  go_simp
  refine hK.out _ _ trivial (fun hHeld => ?_)
  clear hK K
  try simp only [Act.put, List.setIfInBounds_toArray, List.set_cons_zero, List.set_cons_succ]
  refine wpAnyH_ready (rs := [5, 7]) (by kernel_rfl) (by simp) ?_
  refine AllReadyH.cons (by simp only [List.getElem?_toArray, List.getElem?_cons_succ, List.getElem?_cons_zero]; rfl) (fun K hK => ?_) ?_
  ·
    go_simp
    refine hK.out _ _ trivial (fun hHeld => ?_)
    clear hK K
    try simp only [Act.put, List.setIfInBounds_toArray, List.set_cons_zero, List.set_cons_succ]
    refine wpAnyH_ready (rs := [7]) (by kernel_rfl) (by simp) ?_
    refine AllReadyH.cons (by simp only [List.getElem?_toArray, List.getElem?_cons_succ, List.getElem?_cons_zero]; rfl) (fun K hK => ?_) AllReadyH.nil
    go_simp
    refine hK.out _ _ trivial (fun hHeld => ?_)
    clear hK K
    try simp only [Act.put, List.setIfInBounds_toArray, List.set_cons_zero, List.set_cons_succ]
    refine wpAnyH_take (i := 10) (v := ?_) (by simp only [List.getElem?_toArray, List.getElem?_cons_succ, List.getElem?_cons_zero]; rfl) (by kernel_rfl) (by kernel_rfl) (by kernel_rfl) (by intro _ _ _ h; exact h) (Or.inl ⟨by rfl, ?_⟩) (by assumption) ?_
    rotate_left
    · (intro w hSw; (try dsimp only at hSw); go_simp; try with_reducible rfl)
    try simp only [Act.put, List.setIfInBounds_toArray, List.set_cons_zero, List.set_cons_succ]
    refine wpAnyH_ready (rs := [11]) (by kernel_rfl) (by simp) ?_
    refine AllReadyH.cons (by simp only [List.getElem?_toArray, List.getElem?_cons_succ, List.getElem?_cons_zero]; rfl) (fun K hK => ?_) AllReadyH.nil
    refine step_store_row rfl 41 (.tmp 6) (.tmp 42) rfl w.heap.size (stC (scW k k) (.slice none 0 0) (.slice none 0 0) (.slice (some ⟨W0.heap.size + 1, 0, none⟩) 1 1) (.slice (some ⟨W0.heap.size + 1 + 1, 0, none⟩) 1 1) (.slice (some ⟨W0.heap.size, 0, none⟩) 1 1)).toArray rfl rfl 41 zsC.toArray (up3 (W := W0.drew) HR.out _ _ _) (by kernel_rfl) rfl (by simp [stC, Value.oneCell']) ?_
    refine hK.out _ _ trivial (fun hHeld => ?_)
    clear hK K
    try simp only [Act.put]
    refine wpAnyH_take (i := 12) (v := ?_) (by simp only [List.getElem?_toArray, List.getElem?_cons_succ, List.getElem?_cons_zero]; rfl) (by kernel_rfl) (by kernel_rfl) (by kernel_rfl) (by intro _ _ _ h; exact h) (Or.inl ⟨by rfl, ?_⟩) (by assumption) ?_
    rotate_left
    · (intro w hSw; (try dsimp only at hSw); go_simp; try with_reducible rfl)
    try simp only [Act.put, List.setIfInBounds_toArray, List.set_cons_zero, List.set_cons_succ]
    refine wpAnyH_done (by kernel_rfl) ?_ _
    obtain ⟨b0, b1, b2, b3⟩ := three_new W0.drew (.cells #[.int .u64 0] 32) (.cells #[.bool false] 4) (.cells #[.int .u64 0] 32)
    have hf := new_fin2 k w W0.drew _ _ _ (W0.heap.size + 1) (W0.heap.size + 1 + 1) (W0.heap.size) (HB.out.drew) (up3 (W := W0.drew) HR.out _ _ _) b3 b1 b2 b0 HZ.out (by omega) (by have := HZ.out; show w.heap.size < _; omega) (by have := HZ.out; show w.heap.size < _; omega) (by have := HZ.out; show w.heap.size < _; omega)
    have HF := Lib.hid hf
    clear b0 b1 b2 b3 hf
    go_wp2_with fail
    exact new_ret HF.out rfl rfl
  refine AllReadyH.cons (by simp only [List.getElem?_toArray, List.getElem?_cons_succ, List.getElem?_cons_zero]; rfl) (fun K hK => ?_) AllReadyH.nil
  go_simp
  refine hK.out _ _ trivial (fun hHeld => ?_)
  clear hK K
  try simp only [Act.put, List.setIfInBounds_toArray, List.set_cons_zero, List.set_cons_succ]
  refine wpAnyH_ready (rs := [5]) (by kernel_rfl) (by simp) ?_
  refine AllReadyH.cons (by simp only [List.getElem?_toArray, List.getElem?_cons_succ, List.getElem?_cons_zero]; rfl) (fun K hK => ?_) AllReadyH.nil
  go_simp
  refine hK.out _ _ trivial (fun hHeld => ?_)
  clear hK K
  try simp only [Act.put, List.setIfInBounds_toArray, List.set_cons_zero, List.set_cons_succ]
  refine wpAnyH_take (i := 10) (v := ?_) (by simp only [List.getElem?_toArray, List.getElem?_cons_succ, List.getElem?_cons_zero]; rfl) (by kernel_rfl) (by kernel_rfl) (by kernel_rfl) (by intro _ _ _ h; exact h) (Or.inl ⟨by rfl, ?_⟩) (by assumption) ?_
  rotate_left
  · (intro w hSw; (try dsimp only at hSw); go_simp; try with_reducible rfl)
  try simp only [Act.put, List.setIfInBounds_toArray, List.set_cons_zero, List.set_cons_succ]
  refine wpAnyH_ready (rs := [11]) (by kernel_rfl) (by simp) ?_
  refine AllReadyH.cons (by simp only [List.getElem?_toArray, List.getElem?_cons_succ, List.getElem?_cons_zero]; rfl) (fun K hK => ?_) AllReadyH.nil
  refine step_store_row rfl 41 (.tmp 6) (.tmp 42) rfl w.heap.size (stC (scW k k) (.slice none 0 0) (.slice none 0 0) (.slice (some ⟨W0.heap.size + 1 + 1, 0, none⟩) 1 1) (.slice (some ⟨W0.heap.size + 1, 0, none⟩) 1 1) (.slice (some ⟨W0.heap.size, 0, none⟩) 1 1)).toArray rfl rfl 41 zsC.toArray (up3 (W := W0.drew) HR.out _ _ _) (by kernel_rfl) rfl (by simp [stC, Value.oneCell']) ?_
  refine hK.out _ _ trivial (fun hHeld => ?_)
  clear hK K
  try simp only [Act.put]
  refine wpAnyH_take (i := 12) (v := ?_) (by simp only [List.getElem?_toArray, List.getElem?_cons_succ, List.getElem?_cons_zero]; rfl) (by kernel_rfl) (by kernel_rfl) (by kernel_rfl) (by intro _ _ _ h; exact h) (Or.inl ⟨by rfl, ?_⟩) (by assumption) ?_
  rotate_left
  · (intro w hSw; (try dsimp only at hSw); go_simp; try with_reducible rfl)
  try simp only [Act.put, List.setIfInBounds_toArray, List.set_cons_zero, List.set_cons_succ]
  refine wpAnyH_done (by kernel_rfl) ?_ _
  obtain ⟨b0, b1, b2, b3⟩ := three_new W0.drew (.cells #[.int .u64 0] 32) (.cells #[.int .u64 0] 32) (.cells #[.bool false] 4)
  have hf := new_fin2 k w W0.drew _ _ _ (W0.heap.size + 1 + 1) (W0.heap.size + 1) (W0.heap.size) (HB.out.drew) (up3 (W := W0.drew) HR.out _ _ _) b3 b2 b1 b0 HZ.out (by omega) (by have := HZ.out; show w.heap.size < _; omega) (by have := HZ.out; show w.heap.size < _; omega) (by have := HZ.out; show w.heap.size < _; omega)
  have HF := Lib.hid hf
  clear b0 b1 b2 b3 hf
  go_wp2_with fail
  exact new_ret HF.out rfl rfl
end Go.Proofs.Ytjbailnnaigjbaa
