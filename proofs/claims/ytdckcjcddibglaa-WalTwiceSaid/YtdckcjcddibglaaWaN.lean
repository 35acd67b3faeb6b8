/- What an empty track contains. -/
import Derived.Test.YtdckcjcddibglaaWaM
namespace Go.Proofs.Ytdckcjcddibglaa
open Go.RowKit OctM

theorem bytesS_empty : bytesS (some []) 1048576 = ([], none) := rfl

theorem wuint0 (b : Nat) (w : World) (s : Option (List UInt8)) (hs : uintS s = (0, none)) (h : RS w (some ⟨b, 0, none⟩) s) :
    Calls Try.prog 47 #[.pointer (some ⟨b, 0, none⟩)] w fun e w' => e = .returned (.int .u64 0) ∧ RS w' (some ⟨b, 0, none⟩) none ∧ Kept (own1 (some ⟨b, 0, none⟩)) w w' :=
  (ruint _ s w h).mono fun _ _ h => by
    rw [hs] at h
    exact ⟨h.ret, h.st, h.kept⟩
theorem wupto0 (b : Nat) (w : World) (h : RS w (some ⟨b, 0, none⟩) none) :
    Calls Try.prog 49 #[.pointer (some ⟨b, 0, none⟩), .int .i64 1048576] w fun e w' => e = .returned (.int .i64 0) ∧ RS w' (some ⟨b, 0, none⟩) none ∧ Kept (own1 (some ⟨b, 0, none⟩)) w w' :=
  (rupto _ none 1048576 w h (by omega) (by omega)).mono fun _ _ h => by
    rw [show uptoS none 1048576 = (0, none) from rfl] at h
    exact ⟨h.ret, h.st, h.kept⟩

set_option maxHeartbeats 2000000 in
set_option maxRecDepth 100000 in
theorem readVote0 (b : Nat) (w : World) (h : RS w (some ⟨b, 0, none⟩) none) :
    Calls Try.prog 48 #[.pointer (some ⟨b, 0, none⟩)] w fun e w' => e = .returned (.int .i64 0) ∧ RS w' (some ⟨b, 0, none⟩) none ∧ Kept (own1 (some ⟨b, 0, none⟩)) w w' := by
  have H1 : Calls Try.prog 58 #[.pointer (some ⟨b, 0, none⟩)] w fun e w' => e = .returned (.int .i64 0) ∧ RS w' (some ⟨b, 0, none⟩) none ∧ Kept (own1 (some ⟨b, 0, none⟩)) w w' :=
    (rint (some ⟨b, 0, none⟩) none w h).mono fun _ _ h => by
      rw [uintS_none] at h
      exact ⟨h.ret, h.st, h.kept⟩
  have H := Lib.hid H1
  clear h H1
  go_enter Try.func48, Try.ntmps48
  go_wp2_with fail
  refine H.out.mono ?_
  rintro e w1 ⟨rfl, hr, hk⟩
  have HR := Lib.hid hr
  have HK := Lib.hid hk
  clear hr hk H
  go_wp2_with fail
  go_ret
  exact ⟨rfl, HR.out, HK.out⟩

set_option maxHeartbeats 4000000 in
set_option maxRecDepth 100000 in
theorem readWhole_bad (b : Nat) (w : World) (s : Option (List UInt8)) (hs : uintS s = (0, none)) (h : RS w (some ⟨b, 0, none⟩) s) :
    Calls Try.prog 39 #[.pointer (some ⟨b, 0, none⟩)] w fun e w' => e = .returned (.tuple #[.agg #[.int .u64 0, .int .u64 0, .int .i64 0, .int .u64 0, .slice none 0 0, .bool false], .bool false]) ∧ Kept (own1 (some ⟨b, 0, none⟩)) w w' := by
  have hblt : b < w.heap.size := h.lt
  have hb0 : Below w.heap.size w (w.alloc (.cells #[.int .u64 0, .int .u64 0, .int .i64 0, .int .u64 0, .slice none 0 0, .bool false] 74)) := (Below.refl _ _).alloc (Nat.le_refl _) _
  have hn0 := heap_alloc_new w (.cells #[.int .u64 0, .int .u64 0, .int .i64 0, .int .u64 0, .slice none 0 0, .bool false] 74)
  have hs0 : (w.alloc (.cells #[.int .u64 0, .int .u64 0, .int .i64 0, .int .u64 0, .slice none 0 0, .bool false] 74)).heap.size = w.heap.size + 1 := by simp
  go_enter Try.func39, Try.ntmps39
  go_upto_region 1 with fail
  generalize (w.alloc (.cells #[.int .u64 0, .int .u64 0, .int .i64 0, .int .u64 0, .slice none 0 0, .bool false] 74)) = w1 at *
  have H1 := Lib.hid (wuint0 b w1 s hs (h.below hb0))
  have HK1 := Lib.hid (kept_of_below (S := own1 (some ⟨b, 0, none⟩)) hb0)
  have HN1 := Lib.hid hn0
  clear h hb0 hs hn0
  go_wp2_with fail
  refine H1.out.mono ?_
  rintro e w2 ⟨rfl, h2, k2⟩
  have H2 := Lib.hid (wuint0 b w2 none uintS_none h2)
  have HK2 := Lib.hid k2
  clear h2 k2 H1
  go_wp2_with fail
  refine H2.out.mono ?_
  rintro e w3 ⟨rfl, h3, k3⟩
  have H3 := Lib.hid (readVote0 b w3 h3)
  have HK3 := Lib.hid (HK2.out.trans k3)
  clear h3 k3 H2 HK2
  go_wp2_with fail
  refine H3.out.mono ?_
  rintro e w4 ⟨rfl, h4, k4⟩
  have H4 := Lib.hid (wuint0 b w4 none uintS_none h4)
  have HK4 := Lib.hid (HK3.out.trans k4)
  clear h4 k4 H3 HK3
  go_wp2_with fail
  refine H4.out.mono ?_
  rintro e w5 ⟨rfl, h5, k5⟩
  have hk5 := HK4.out.trans k5
  have hn5 := (hk5.block w.heap.size (by omega) (by rintro ⟨a, ha, hb⟩; injection ha with ha; subst ha; simp at hb; omega)).trans HN1.out
  have hs5 := hk5.size
  have hb6 : Below w5.heap.size w5 (w5.alloc (.cells #[.int .u64 0, .int .u64 0, .int .i64 0, .int .u64 0, .slice none 0 0, .bool false] 74)) := (Below.refl _ _).alloc (Nat.le_refl _) _
  have hn6 := heap_alloc_new w5 (.cells #[.int .u64 0, .int .u64 0, .int .i64 0, .int .u64 0, .slice none 0 0, .bool false] 74)
  have hs6 : (w5.alloc (.cells #[.int .u64 0, .int .u64 0, .int .i64 0, .int .u64 0, .slice none 0 0, .bool false] 74)).heap.size = w5.heap.size + 1 := by simp
  have HK5 := Lib.hid hk5
  have H5 := Lib.hid h5
  have HN5 := Lib.hid hn5
  clear h5 k5 H4 HK4 hk5 hn5
  go_upto_region 2 with fail
  generalize (w5.alloc (.cells #[.int .u64 0, .int .u64 0, .int .i64 0, .int .u64 0, .slice none 0 0, .bool false] 74)) = w6 at *
  have H6 := Lib.hid (wupto0 b w6 (H5.out.below hb6))
  have HN6 := Lib.hid hn6
  have HM6 := Lib.hid ((hb6.block w.heap.size (by omega)).trans HN5.out)
  have HK6 := Lib.hid ((HK1.out.trans HK5.out).trans (kept_of_below hb6))
  clear hb6 hn6 H5 HN5 HK5
  go_wp2_with fail
  refine H6.out.mono ?_
  rintro e w7 ⟨rfl, h7, k7⟩
  have hnot : ∀ k, k ≠ b → ¬ own1 (some ⟨b, 0, none⟩) k := by
    rintro k hk ⟨a, ha, hb⟩
    injection ha with ha
    subst ha
    exact hk hb.symm
  have n7 := (k7.block w5.heap.size (by omega) (hnot _ (by omega))).trans HN6.out
  have m7 := (k7.block w.heap.size (by omega) (hnot _ (by omega))).trans HM6.out
  have HK7 := Lib.hid (HK6.out.trans k7)
  have H7 := Lib.hid h7
  have HN7 := Lib.hid n7
  have HM7 := Lib.hid m7
  have hs7 := k7.size
  clear h7 k7 n7 m7 H6 HN6 HM6 HK6
  go_wp2_with fail
  go_loopw [17] (fun t wr => t = .int .i64 0 ∧ wr = w7) (fun _ _ => 0)
  case atStart => exact ⟨rfl, rfl⟩
  case round =>
    obtain ⟨rfl, rfl⟩ := hrel
    have x0 := cellk (i := 0) HN7.out rfl
    have x1 := cellk (i := 1) HN7.out rfl
    have x2 := cellk (i := 2) HN7.out rfl
    have x3 := cellk (i := 3) HN7.out rfl
    have x4 := cellk (i := 4) HN7.out rfl
    have x5 := cellk (i := 5) HN7.out rfl
    go_wp2_with fail
    have y0 := cellk (i := 0) HM7.out rfl
    have y1 := cellk (i := 1) HM7.out rfl
    have y2 := cellk (i := 2) HM7.out rfl
    have y3 := cellk (i := 3) HM7.out rfl
    have y4 := cellk (i := 4) HM7.out rfl
    have y5 := cellk (i := 5) HM7.out rfl
    have g0 := free_of HM7.out 0
    have g1 := free_of HM7.out 1
    have g2 := free_of HM7.out 2
    have g3 := free_of HM7.out 3
    have g4 := free_of HM7.out 4
    have g5 := free_of HM7.out 5
    have HE := Lib.hid (rend (some ⟨b, 0, none⟩) none wr.drew (H7.out.below ⟨rfl, rfl, rfl, Nat.le_refl _, fun _ _ => rfl⟩))
    have m7d : wr.drew.heap[w.heap.size]? = some (.cells #[.int .u64 0, .int .u64 0, .int .i64 0, .int .u64 0, .slice none 0 0, .bool false] 74 (0, 0)) := HM7.out
    have HKD := Lib.hid (HK7.out.drew)
    refine wp_region_held_drew (S := fun w' => w'.cell? ⟨w5.heap.size, 0, none⟩ = some (.int .u64 0) ∧ w'.cell? ⟨w5.heap.size, 1, none⟩ = some (.int .u64 0) ∧ w'.cell? ⟨w5.heap.size, 2, none⟩ = some (.int .i64 0) ∧ w'.cell? ⟨w5.heap.size, 3, none⟩ = some (.int .u64 0) ∧ w'.cell? ⟨w5.heap.size, 4, none⟩ = some (.slice none 0 0) ∧ w'.cell? ⟨w5.heap.size, 5, none⟩ = some (.bool false)) (by kernel_rfl) ⟨x0, x1, x2, x3, x4, x5⟩ ?_
    intro hHeld
    refine wpAnyH_take (i := 0) (v := ?_) (by simp only [List.getElem?_toArray, List.getElem?_cons_zero]; rfl) (by kernel_rfl) (by kernel_rfl) (by kernel_rfl) (by intro _ _ _ h; exact h) (Or.inl ⟨by rfl, ?_⟩) (by assumption) ?_
    rotate_left
    · (intro w hSw; (try dsimp only at hSw); go_simp; try with_reducible rfl)
    try simp only [Act.put, List.setIfInBounds_toArray, List.set_cons_zero, List.set_cons_succ]
    refine wpAnyH_take (i := 1) (v := ?_) (by simp only [List.getElem?_toArray, List.getElem?_cons_succ, List.getElem?_cons_zero]; rfl) (by kernel_rfl) (by kernel_rfl) (by kernel_rfl) (by intro _ _ _ h; exact h) (Or.inl ⟨by rfl, ?_⟩) (by assumption) ?_
    rotate_left
    · (intro w hSw; (try dsimp only at hSw); go_simp; try with_reducible rfl)
    try simp only [Act.put, List.setIfInBounds_toArray, List.set_cons_zero, List.set_cons_succ]
    refine wpAnyH_ready (rs := [2]) (by kernel_rfl) (by simp) ?_
    refine AllReadyH.cons (by simp only [List.getElem?_toArray, List.getElem?_cons_succ, List.getElem?_cons_zero]; rfl) (fun K hK => ?_) AllReadyH.nil
    go_simp
    refine HE.out.mono ?_
    rintro e wf ⟨rfl, rfl⟩
    dsimp only
    refine hK.out _ _ ⟨x0, x1, x2, x3, x4, x5⟩ (fun hHeld => ?_)
    clear hK K
    try simp only [Act.put, List.setIfInBounds_toArray, List.set_cons_zero, List.set_cons_succ]
    refine wpAnyH_ready (rs := [3]) (by kernel_rfl) (by simp) ?_
    refine AllReadyH.cons (by simp only [List.getElem?_toArray, List.getElem?_cons_succ, List.getElem?_cons_zero]; rfl) (fun K hK => ?_) AllReadyH.nil
    go_simp
    have hk9 : Kept (fun k => k = w.heap.size) wr (((((((wr.setCell ⟨w.heap.size, 0, none⟩ (.int .u64 0)).setCell ⟨w.heap.size, 1, none⟩ (.int .u64 0)).setCell ⟨w.heap.size, 2, none⟩ (.int .i64 0)).setCell ⟨w.heap.size, 3, none⟩ (.int .u64 0)).setCell ⟨w.heap.size, 4, none⟩ (.slice none 0 0)).setCell ⟨w.heap.size, 5, none⟩ (.bool false)).drew) := (((((((Kept.refl (fun k => k = w.heap.size) wr).setCell (p := ⟨w.heap.size, 0, none⟩) (.inl rfl) _).setCell (p := ⟨w.heap.size, 1, none⟩) (.inl rfl) _).setCell (p := ⟨w.heap.size, 2, none⟩) (.inl rfl) _).setCell (p := ⟨w.heap.size, 3, none⟩) (.inl rfl) _).setCell (p := ⟨w.heap.size, 4, none⟩) (.inl rfl) _).setCell (p := ⟨w.heap.size, 5, none⟩) (.inl rfl) _).drew
    have hm9 : (((((((wr.setCell ⟨w.heap.size, 0, none⟩ (.int .u64 0)).setCell ⟨w.heap.size, 1, none⟩ (.int .u64 0)).setCell ⟨w.heap.size, 2, none⟩ (.int .i64 0)).setCell ⟨w.heap.size, 3, none⟩ (.int .u64 0)).setCell ⟨w.heap.size, 4, none⟩ (.slice none 0 0)).setCell ⟨w.heap.size, 5, none⟩ (.bool false)).drew).heap[w.heap.size]? = some (.cells #[.int .u64 0, .int .u64 0, .int .i64 0, .int .u64 0, .slice none 0 0, .bool false] 74 (0, 0)) := by
      have := HM7.out
      simp [World.setCell, World.drew, Array.getElem?_modify, this]
    generalize (((((((wr.setCell ⟨w.heap.size, 0, none⟩ (.int .u64 0)).setCell ⟨w.heap.size, 1, none⟩ (.int .u64 0)).setCell ⟨w.heap.size, 2, none⟩ (.int .i64 0)).setCell ⟨w.heap.size, 3, none⟩ (.int .u64 0)).setCell ⟨w.heap.size, 4, none⟩ (.slice none 0 0)).setCell ⟨w.heap.size, 5, none⟩ (.bool false)).drew) = w9 at *
    have n9 := (hk9.block w5.heap.size (by omega) (by omega)).trans HN7.out
    have t0 := cellk (i := 0) n9 rfl
    have t1 := cellk (i := 1) n9 rfl
    have t2 := cellk (i := 2) n9 rfl
    have t3 := cellk (i := 3) n9 rfl
    have t4 := cellk (i := 4) n9 rfl
    have t5 := cellk (i := 5) n9 rfl
    have HM9 := Lib.hid hm9
    have HK9 := Lib.hid (Kept.step HK7.out hk9 (fun k hk => .inr (by omega)))
    clear hm9 hk9 n9
    refine hK.out _ _ ⟨t0, t1, t2, t3, t4, t5⟩ (fun hHeld => ?_)
    clear hK K
    try simp only [Act.put, List.setIfInBounds_toArray, List.set_cons_zero, List.set_cons_succ]
    refine wpAnyH_take (i := 4) (v := ?_) (by simp only [List.getElem?_toArray, List.getElem?_cons_succ, List.getElem?_cons_zero]; rfl) (by kernel_rfl) (by kernel_rfl) (by kernel_rfl) (by intro _ _ _ h; exact h) (Or.inl ⟨by rfl, ?_⟩) (by assumption) ?_
    rotate_left
    · (intro w hSw; (try dsimp only at hSw); go_simp; try with_reducible rfl)
    try simp only [Act.put, List.setIfInBounds_toArray, List.set_cons_zero, List.set_cons_succ]
    refine wpAnyH_done (by kernel_rfl) ?_ _
    have r0 := cellk (i := 0) HM9.out rfl
    have r1 := cellk (i := 1) HM9.out rfl
    have r2 := cellk (i := 2) HM9.out rfl
    have r3 := cellk (i := 3) HM9.out rfl
    have r4 := cellk (i := 4) HM9.out rfl
    have r5 := cellk (i := 5) HM9.out rfl
    go_wp2_with fail
    refine bodyPost_ret (v := .tuple #[.agg #[.int .u64 0, .int .u64 0, .int .i64 0, .int .u64 0, .slice none 0 0, .bool false], .bool false]) (by simp [results, Try.results39, go_sem, r0, r1, r2, r3, r4, r5]) rfl ?_
    exact ⟨rfl, HK9.out⟩
end Go.Proofs.Ytdckcjcddibglaa
