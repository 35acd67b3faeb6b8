/- makeRoom where there is room; Collect with no roots; PutText. -/
import Derived.Test.YtpmbdncackneoaaDoorHeaT
import Derived.RegionTactic
namespace Go.Proofs.YtpmbdncackneoaaDoor
open Go.RowKit HeaM

set_option maxHeartbeats 1000000 in
set_option maxRecDepth 100000 in
theorem room_yes (b base q c : Nat) (v1 v2 : Value) (W : List Nat) (F : List Bool) (n : Nat) (p r : Value) (w : World) (h : HAt w b base q c v1 v2 W F) (hq : q ≤ 1048576) (hn : W.length + n ≤ q) :
    Calls Tryd.prog 23 #[.pointer (some ⟨b, 0, none⟩), .int .i64 (n : Int), p, r] w fun e w' => e = .returned (.bool true) ∧ ∃ k, w' = w.drewN k := by
  obtain ⟨c0, c1, c2, c3⟩ := h.cells
  obtain ⟨o1, k1, hv1, _⟩ := own_slice h.own1
  clear h
  subst hv1
  obtain ⟨d, hd⟩ : ∃ d : Nat, (q : Int) - (W.length : Int) = (d : Int) := ⟨q - W.length, by omega⟩
  have e1 : IntKind.i64.wrap ((q : Int) - (W.length : Int)) = (q : Int) - (W.length : Int) := IntWalk.i64_in _ (by omega)
  have hle : ¬ (n : Int) > (q : Int) - (W.length : Int) := by omega
  have hle1 : decide ((q : Int) - (W.length : Int) < (n : Int)) = false := by simp; omega
  have hle2 : (n : Int) ≤ (q : Int) - (W.length : Int) := by omega
  clear hd
  go_enter Tryd.func23, Tryd.ntmps23
  go_wp2
  go_quiet (fail)
  go_wp2
  go_quiet (fail)
  go_wp2
  go_ret
  exact ⟨rfl, _, World.drewN_drewN _ _ _⟩

theorem madeW0 (n : Nat) (hn : n ≤ 1000000000) (W : World) : (Instr.makeSlice 52 (.int .i64 0) (.int .i64 (n : Int))).run Tryd.prog W = .ok (.slice (some ⟨W.heap.size, 0, none⟩) 0 n) (W.alloc (.cells (Ws (List.replicate n 0)).toArray 31)) := by
  obtain ⟨i0, hi0, hz0, hz1, hz2⟩ := info_parts wordInfo
  have h := run_make (P := Tryd.prog) W 52 31 i0 _ Tryd.underlying52 hi0 hz0 .i64 .i64 0 (n : Int) (by omega) (by omega) (by rw [hz2]; omega) (by omega)
  rw [h]
  have e : madeCells (Value.int .u64 0).cells (n * i0.size) = (Ws (List.replicate n 0)).toArray := by
    apply Array.ext'
    rw [hz1, Nat.mul_one]
    show (madeCells #[Value.int .u64 0] n).toList = _
    rw [toList_madeCells_one]
    simp [Ws, Wv]
  simp only [Int.toNat_natCast, e]
  rfl
theorem madeF0 (n : Nat) (hn : n ≤ 1000000000) (W : World) : (Instr.makeSlice 70 (.int .i64 0) (.int .i64 (n : Int))).run Tryd.prog W = .ok (.slice (some ⟨W.heap.size, 0, none⟩) 0 n) (W.alloc (.cells (Fs (List.replicate n false)).toArray 4)) := by
  obtain ⟨i0, hi0, hz0, hz1, hz2⟩ := info_parts boolInfo
  have h := run_make (P := Tryd.prog) W 70 4 i0 _ Tryd.underlying70 hi0 hz0 .i64 .i64 0 (n : Int) (by omega) (by omega) (by rw [hz2]; omega) (by omega)
  rw [h]
  have e : madeCells (Value.bool false).cells (n * i0.size) = (Fs (List.replicate n false)).toArray := by
    apply Array.ext'
    rw [hz1, Nat.mul_one]
    show (madeCells #[Value.bool false] n).toList = _
    rw [toList_madeCells_one]
    simp [Fs]
  simp only [Int.toNat_natCast, e]
  rfl

set_option maxHeartbeats 1000000 in
set_option maxRecDepth 100000 in
theorem moveRoots_none (p t : Value) (o : Option Addr) (k : Nat) (w : World) :
    Calls Tryd.prog 64 #[p, t, .slice o 0 k] w fun e w' => e = .returned (.slice (some ⟨w.heap.size, 0, none⟩) 0 0) ∧ Below w.heap.size w w' := by
  have mk := madeW 0 (by omega)
  have e0 : ((0 : Nat) : Int) = 0 := rfl
  rw [e0] at mk
  go_enter Tryd.func64, Tryd.ntmps64
  go_wp2
  refine wp_loop_rounds 1 ?_
  rw [rounds_succ]
  go_wp2
  go_ret
  exact ⟨rfl, (Below.refl _ _).alloc (Nat.le_refl _) _⟩

set_option maxHeartbeats 1000000 in
set_option maxRecDepth 100000 in
theorem moveParts_none (t base q c : Nat) (v1 v2 p : Value) (w : World) (h : HAt w t base q c v1 v2 [] []) :
    Calls Tryd.prog 65 #[p, .pointer (some ⟨t, 0, none⟩)] w fun e w' => e = .returned (.tuple #[]) ∧ w = w' := by
  obtain ⟨c0, c1, c2, c3⟩ := h.cells
  obtain ⟨o1, k1, hv1, _⟩ := own_slice h.own1
  clear h
  subst hv1
  go_enter Tryd.func65, Tryd.ntmps65
  go_wp2
  refine wp_loop_rounds 1 ?_
  rw [rounds_succ]
  go_wp2
  go_end0
  exact ⟨rfl, rfl⟩

/-- The heap that is moved to, as it begins: its rows were made in either order. -/
theorem toHeap (w : World) (n : Nat) (CW CF : Array Value) (hw : CW.size = n) (hf : CF.size = n) (hn : n ≤ 1000000000) :
    HAt (((w.alloc (.cells CW 31)).alloc (.cells CF 4)).alloc (.cells #[.int .i64 0, .int .i64 0, .slice (some ⟨w.heap.size, 0, none⟩) 0 n, .slice (some ⟨w.heap.size + 1, 0, none⟩) 0 n] 72)).drew (w.heap.size + 1 + 1) w.heap.size 0 0
      (.slice (some ⟨w.heap.size, 0, none⟩) 0 n) (.slice (some ⟨w.heap.size + 1, 0, none⟩) 0 n) [] [] := by
  have a0 := heap_alloc_new w (.cells CW 31)
  have a1 := heap_alloc_new (w.alloc (.cells CW 31)) (.cells CF 4)
  have a2 := heap_alloc_new ((w.alloc (.cells CW 31)).alloc (.cells CF 4)) (.cells #[.int .i64 0, .int .i64 0, .slice (some ⟨w.heap.size, 0, none⟩) 0 n, .slice (some ⟨w.heap.size + 1, 0, none⟩) 0 n] 72)
  have e1 : (w.alloc (.cells CW 31)).heap.size = w.heap.size + 1 := by simp
  have e2 : ((w.alloc (.cells CW 31)).alloc (.cells CF 4)).heap.size = w.heap.size + 1 + 1 := by simp
  rw [e1] at a1
  rw [e2] at a2
  have hm : n ≤ maxLen := by unfold maxLen; omega
  refine ⟨a2, ⟨by simp [Ws], .inr ⟨w.heap.size, n, CW, rfl, Nat.le_refl _, ?_, Nat.zero_le _, hm, by omega, by simp [Ws]⟩⟩, ⟨by simp [Fs], .inr ⟨w.heap.size + 1, n, CF, rfl, by omega, ?_, Nat.zero_le _, hm, by omega, by simp [Fs]⟩⟩⟩
  · exact (Below.heap_alloc _ _ _ (by omega)).trans ((Below.heap_alloc _ _ _ (by omega)).trans a0)
  · exact (Below.heap_alloc _ _ _ (by omega)).trans a1
theorem toHeap' (w : World) (n : Nat) (CW CF : Array Value) (hw : CW.size = n) (hf : CF.size = n) (hn : n ≤ 1000000000) :
    HAt (((w.alloc (.cells CF 4)).alloc (.cells CW 31)).alloc (.cells #[.int .i64 0, .int .i64 0, .slice (some ⟨w.heap.size + 1, 0, none⟩) 0 n, .slice (some ⟨w.heap.size, 0, none⟩) 0 n] 72)).drew (w.heap.size + 1 + 1) w.heap.size 0 0
      (.slice (some ⟨w.heap.size + 1, 0, none⟩) 0 n) (.slice (some ⟨w.heap.size, 0, none⟩) 0 n) [] [] := by
  have a0 := heap_alloc_new w (.cells CF 4)
  have a1 := heap_alloc_new (w.alloc (.cells CF 4)) (.cells CW 31)
  have a2 := heap_alloc_new ((w.alloc (.cells CF 4)).alloc (.cells CW 31)) (.cells #[.int .i64 0, .int .i64 0, .slice (some ⟨w.heap.size + 1, 0, none⟩) 0 n, .slice (some ⟨w.heap.size, 0, none⟩) 0 n] 72)
  have e1 : (w.alloc (.cells CF 4)).heap.size = w.heap.size + 1 := by simp
  have e2 : ((w.alloc (.cells CF 4)).alloc (.cells CW 31)).heap.size = w.heap.size + 1 + 1 := by simp
  rw [e1] at a1
  rw [e2] at a2
  have hm : n ≤ maxLen := by unfold maxLen; omega
  refine ⟨a2, ⟨by simp [Ws], .inr ⟨w.heap.size + 1, n, CW, rfl, by omega, ?_, Nat.zero_le _, hm, by omega, by simp [Ws]⟩⟩, ⟨by simp [Fs], .inr ⟨w.heap.size, n, CF, rfl, Nat.le_refl _, ?_, Nat.zero_le _, hm, by omega, by simp [Fs]⟩⟩⟩
  · exact (Below.heap_alloc _ _ _ (by omega)).trans a1
  · exact (Below.heap_alloc _ _ _ (by omega)).trans ((Below.heap_alloc _ _ _ (by omega)).trans a0)

/-- What a heap is behind a collection: the rows are those of the heap that was moved to. -/
theorem collected {w w1 w2 : World} {b base q c t base' q' c' : Nat} {v1 v2 u1 u2 : Value} {W W' : List Nat} {F F' : List Bool} (h : HAt w1 b base q c v1 v2 W F) (hT : HAt w1 t base' q' c' u1 u2 W' F') (hbt : b ≠ t) (hnew : ∀ k, three t u1 u2 k → w.heap.size ≤ k) (hb' : base ≤ w.heap.size)
    (hb : b < w.heap.size) (hk : Kept (three b v1 v2) w w1) (hw2 : w2.heap = (((w1.setCell ⟨b, 2, none⟩ u1).setCell ⟨b, 3, none⟩ u2).setCell ⟨b, 1, none⟩ (.int .i64 ((c + 1 : Nat) : Int))).heap) (ho : w2.os = w1.os) (ht : w2.tape = w1.tape) (hp : w2.output = w1.output) :
    LPost w w2 b base q (c + 1) v1 v2 u1 u2 W' F' := by
  have e1 := setCell_two (u := u1) h.cell
  have e2 := setCell_three (u := u2) e1
  have e3 := setCell_one (u := .int .i64 ((c + 1 : Nat) : Int)) e2
  have k3 : Kept (three b v1 v2) w (((w1.setCell ⟨b, 2, none⟩ u1).setCell ⟨b, 3, none⟩ u2).setCell ⟨b, 1, none⟩ (.int .i64 ((c + 1 : Nat) : Int))) := ((hk.setCell (.inl (.inl rfl)) _).setCell (.inl (.inl rfl)) _).setCell (.inl (.inl rfl)) _
  have n1 : u1.ownBlock ≠ some b := fun e => by have := hnew b (.inr (.inl e)); omega
  have n2 : u2.ownBlock ≠ some b := fun e => by have := hnew b (.inr (.inr e)); omega
  have o1 := ownsRow_setCell_other (a := ⟨b, 1, none⟩) (ownsRow_setCell_other (a := ⟨b, 3, none⟩) (ownsRow_setCell_other (a := ⟨b, 2, none⟩) hT.own1 n1 u1) n1 u2) n1 (.int .i64 ((c + 1 : Nat) : Int))
  have o2 := ownsRow_setCell_other (a := ⟨b, 1, none⟩) (ownsRow_setCell_other (a := ⟨b, 3, none⟩) (ownsRow_setCell_other (a := ⟨b, 2, none⟩) hT.own2 n2 u1) n2 u2) n2 (.int .i64 ((c + 1 : Nat) : Int))
  have tr : ∀ {e : TypeId} {v : Value} {n : Nat} {xs : List Value} {W3 : World}, w2.heap = W3.heap → W3.ownsRow base' e 1 v n xs → w2.ownsRow base' e 1 v n xs := by
    intro e v n xs W3 he h3
    unfold World.ownsRow at h3 ⊢
    rw [he]
    exact h3
  have hbase2 : ∀ {e : TypeId} {v : Value} {n : Nat} {xs : List Value}, (∀ k, v.ownBlock = some k → w.heap.size ≤ k) → w2.ownsRow base' e 1 v n xs → w2.ownsRow base e 1 v n xs := by
    intro e v n xs hv h3
    refine ⟨h3.1, ?_⟩
    rcases h3.2 with h4 | ⟨g, cap, cur, rfl, hg, rest⟩
    · exact .inl h4
    · exact .inr ⟨g, cap, cur, rfl, by have := hv g rfl; omega, rest⟩
  refine ⟨⟨by rw [hw2]; exact e3, hbase2 (fun k hk => hnew k (.inr (.inl hk))) (tr hw2 o1), hbase2 (fun k hk => hnew k (.inr (.inr hk))) (tr hw2 o2)⟩, ?_, ⟨ho.trans k3.os, ht.trans k3.tape, hp.trans k3.output, by rw [hw2]; exact k3.size, fun k hk hs => by rw [hw2]; exact k3.block k hk hs⟩⟩
  intro k hk
  rcases hk with rfl | hk | hk
  · exact .inl (.inl rfl)
  · exact .inr (hnew k (.inr (.inl hk)))
  · exact .inr (hnew k (.inr (.inr hk)))

set_option maxHeartbeats 4000000 in
set_option maxRecDepth 100000 in
theorem collect_none (b base q c : Nat) (v1 v2 : Value) (W : List Nat) (F : List Bool) (o : Option Addr) (k : Nat) (w : World) (h : HAt w b base q c v1 v2 W F) (hF : F.length = W.length) (hW : W.length ≤ 100000000) (hbase : base ≤ w.heap.size) (hc : c ≤ 1000000000) :
    Calls Tryd.prog 45 #[.pointer (some ⟨b, 0, none⟩), .slice o 0 k] w fun e w' => e = .returned (.tuple #[]) ∧ ∃ v1' v2', LPost w w' b base q (c + 1) v1 v2 v1' v2' [] [] := by
  obtain ⟨c0, c1, c2, c3⟩ := h.cells
  have hf := h.free
  have hlt := h.lt
  obtain ⟨o1, k1, hv1, _⟩ := own_slice h.own1
  obtain ⟨o2, k2, hv2, _⟩ := own_slice h.own2
  have H := Lib.hid h
  clear h
  subst hv1 hv2
  have mw := madeW0 W.length (by omega)
  have mf := madeF0 W.length (by omega)
  rw [hF] at c3
  have sw : (Ws (List.replicate W.length 0)).toArray.size = W.length := by simp [Ws]
  have sf : (Fs (List.replicate W.length false)).toArray.size = W.length := by simp [Fs]
  generalize (Ws (List.replicate W.length 0)).toArray = CW at *
  generalize (Fs (List.replicate W.length false)).toArray = CF at *
  have SW := Lib.hid sw
  have SF := Lib.hid sf
  clear sw sf
  go_enter Tryd.func45, Tryd.ntmps45
  go_wp2
  go_region
  all_goals clear mw mf
  · have hT := Lib.hid (toHeap w W.length CW CF SW.out SF.out (by omega))
    have hB : Below w.heap.size w (((w.alloc (.cells CW 31)).alloc (.cells CF 4)).alloc (.cells #[.int .i64 0, .int .i64 0, .slice (some ⟨w.heap.size, 0, none⟩) 0 W.length, .slice (some ⟨w.heap.size + 1, 0, none⟩) 0 W.length] 72)).drew := ((((Below.refl _ _).alloc (Nat.le_refl _) _).alloc (by simp) _).alloc (by simp; omega) _).drew
    generalize (((w.alloc (.cells CW 31)).alloc (.cells CF 4)).alloc (.cells #[.int .i64 0, .int .i64 0, .slice (some ⟨w.heap.size, 0, none⟩) 0 W.length, .slice (some ⟨w.heap.size + 1, 0, none⟩) 0 W.length] 72)).drew = w1 at *
    go_wp2_with fail
    refine (moveRoots_none _ _ _ _ _).mono ?_
    rintro e w2 ⟨rfl, hb2⟩
    have hT2 := hT.out.below hb2 (Nat.le_refl _)
    go_wp2_with fail
    refine (moveParts_none _ _ _ _ _ _ _ _ hT2).mono ?_
    rintro e w' ⟨rfl, rfl⟩
    go_wp2
    refine wp_loop_rounds 1 ?_
    rw [rounds_succ]
    have h2 := (H.out.below hB (Nat.le_refl _)).below hb2 (Nat.le_refl _)
    obtain ⟨_, d1, d2, d3⟩ := h2.cells
    obtain ⟨_, _, t2, t3⟩ := hT2.cells
    have f2 := h2.free 2
    have f3 := h2.free 3
    have f1 := h2.free 1
    have hbt : b ≠ w.heap.size + 1 + 1 := by omega
    have hbt' : w.heap.size + 1 + 1 ≠ b := by omega
    have ec : IntKind.i64.wrap ((c : Int) + 1) = (c : Int) + 1 := IntWalk.i64_in _ (by omega)
    have H2 := Lib.hid h2
    have T2 := Lib.hid hT2
    have HB := Lib.hid hB
    have HB2 := Lib.hid hb2
    clear h2 hT2 hB hb2 ec
    go_wp2
    go_region
    go_wp2
    go_end0
    refine ⟨rfl, _, _, collected H2.out T2.out hbt ?_ hbase hlt ?_ rfl rfl rfl rfl⟩
    · intro k hk
      rcases hk with rfl | hk | hk
      · omega
      · simp only [Value.ownBlock, Option.some.injEq] at hk; omega
      · simp only [Value.ownBlock, Option.some.injEq] at hk; omega
    · exact Below.kept (n := w.heap.size) (HB.out.trans (HB2.out.mono HB.out.size)) (fun k h1 h2 => by omega)
  · have hT := Lib.hid (toHeap' w W.length CW CF SW.out SF.out (by omega))
    have hB : Below w.heap.size w (((w.alloc (.cells CF 4)).alloc (.cells CW 31)).alloc (.cells #[.int .i64 0, .int .i64 0, .slice (some ⟨w.heap.size + 1, 0, none⟩) 0 W.length, .slice (some ⟨w.heap.size, 0, none⟩) 0 W.length] 72)).drew := ((((Below.refl _ _).alloc (Nat.le_refl _) _).alloc (by simp) _).alloc (by simp; omega) _).drew
    generalize (((w.alloc (.cells CF 4)).alloc (.cells CW 31)).alloc (.cells #[.int .i64 0, .int .i64 0, .slice (some ⟨w.heap.size + 1, 0, none⟩) 0 W.length, .slice (some ⟨w.heap.size, 0, none⟩) 0 W.length] 72)).drew = w1 at *
    go_wp2_with fail
    refine (moveRoots_none _ _ _ _ _).mono ?_
    rintro e w2 ⟨rfl, hb2⟩
    have hT2 := hT.out.below hb2 (Nat.le_refl _)
    go_wp2_with fail
    refine (moveParts_none _ _ _ _ _ _ _ _ hT2).mono ?_
    rintro e w' ⟨rfl, rfl⟩
    go_wp2
    refine wp_loop_rounds 1 ?_
    rw [rounds_succ]
    have h2 := (H.out.below hB (Nat.le_refl _)).below hb2 (Nat.le_refl _)
    obtain ⟨_, d1, d2, d3⟩ := h2.cells
    obtain ⟨_, _, t2, t3⟩ := hT2.cells
    have f2 := h2.free 2
    have f3 := h2.free 3
    have f1 := h2.free 1
    have hbt : b ≠ w.heap.size + 1 + 1 := by omega
    have hbt' : w.heap.size + 1 + 1 ≠ b := by omega
    have ec : IntKind.i64.wrap ((c : Int) + 1) = (c : Int) + 1 := IntWalk.i64_in _ (by omega)
    have H2 := Lib.hid h2
    have T2 := Lib.hid hT2
    have HB := Lib.hid hB
    have HB2 := Lib.hid hb2
    clear h2 hT2 hB hb2 ec
    go_wp2
    go_region
    go_wp2
    go_end0
    refine ⟨rfl, _, _, collected H2.out T2.out hbt ?_ hbase hlt ?_ rfl rfl rfl rfl⟩
    · intro k hk
      rcases hk with rfl | hk | hk
      · omega
      · simp only [Value.ownBlock, Option.some.injEq] at hk; omega
      · simp only [Value.ownBlock, Option.some.injEq] at hk; omega
    · exact Below.kept (n := w.heap.size) (HB.out.trans (HB2.out.mono HB.out.size)) (fun k h1 h2 => by omega)
end Go.Proofs.YtpmbdncackneoaaDoor
