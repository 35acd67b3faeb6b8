/- Two states that are the same. -/
import Derived.Test.YtdckcjcddibglaaWaH
namespace Go.Proofs.Ytdckcjcddibglaa
open Go.RowKit OctM

set_option maxHeartbeats 4000000 in
set_option maxRecDepth 100000 in
theorem sameEntry_eq (x : En) (va vb : Value) (w : World) (ha : Rd w va x.cl) (hb : Rd w vb x.cl) :
    Calls Try.prog 23 #[enV x va, enV x vb] w fun e w' => e = .returned (.bool true) ∧ Below w.heap.size w w' := by
  obtain ⟨tm, ss, nm, l⟩ := x
  dsimp only at ha hb
  obtain ⟨oa, ca, rfl⟩ : ∃ o c, va = .slice o l.length c := by
    rcases ha with ⟨rfl, rfl⟩ | ⟨_, c, rfl, _⟩ <;> exact ⟨_, _, rfl⟩
  obtain ⟨ob, cb, rfl⟩ : ∃ o c, vb = .slice o l.length c := by
    rcases hb with ⟨rfl, rfl⟩ | ⟨_, c, rfl, _⟩ <;> exact ⟨_, _, rfl⟩
  have h2 : Below w.heap.size w ((w.alloc (.cells #[.int .u64 (tm : Int), .int .u64 (ss : Int), .int .u64 (nm : Int), .slice oa l.length ca] 33)).alloc (.cells #[.int .u64 (tm : Int), .int .u64 (ss : Int), .int .u64 (nm : Int), .slice ob l.length cb] 33)) := ((Below.refl _ _).alloc (Nat.le_refl _) _).alloc (by simp) _
  have ta := toStr (ha.below h2)
  have tb := toStr (hb.below h2)
  have H2 := Lib.hid h2
  unfold S at ta tb
  unfold enV
  have d0 : ((tm : Int) == tm) = true := by simp
  have d1 : ((ss : Int) == ss) = true := by simp
  have d2 : ((nm : Int) == nm) = true := by simp
  clear ha hb h2
  dsimp only at *
  go_enter Try.func23, Try.ntmps23
  go_wp2_with fail
  go_ret
  exact ⟨rfl, H2.out⟩

def rstV (s : Wst) (v : Value) : Value := wstV s v

set_option maxHeartbeats 8000000 in
set_option maxRecDepth 100000 in
theorem wsame_eq (s : Wst) (va vb : Value) (w : World) (ha : RdL w va s.lg) (hb : RdL w vb s.lg) (hl : s.lg.length ≤ 1000) :
    Calls Try.prog 9 #[wstV s va, wstV s vb] w fun e w' => e = .returned (.bool true) ∧ Below w.heap.size w w' := by
  obtain ⟨tm, vt, bs, lg⟩ := s
  dsimp only at ha hb hl
  obtain ⟨oa, ca, rfl⟩ := ha.form
  obtain ⟨ob, cb, rfl⟩ := hb.form
  have HA := Lib.hid ha
  have HB := Lib.hid hb
  have d0 : ((tm : Int) == tm) = true := by simp
  have d1 : (vt == vt) = true := by simp
  have d2 : ((bs : Int) == bs) = true := by simp
  clear ha hb
  unfold wstV
  dsimp only
  go_enter Try.func9, Try.ntmps9
  go_upto_region 1 with fail
  obtain ⟨W, hW⟩ : ∃ W, ((w.alloc (.cells #[.int .u64 (tm : Int), .int .i64 vt, .int .u64 (bs : Int), .slice oa lg.length ca] 31)).alloc (.cells #[.int .u64 (tm : Int), .int .i64 vt, .int .u64 (bs : Int), .slice ob lg.length cb] 31)) = W := ⟨_, rfl⟩
  have hbw : Below w.heap.size w W := by rw [← hW]; exact ((Below.refl _ _).alloc (Nat.le_refl _) _).alloc (by simp) _
  have hs : W.heap.size = w.heap.size + 2 := by rw [← hW]; simp
  have hn : W.heap[w.heap.size]? = some (.cells #[.int .u64 (tm : Int), .int .i64 vt, .int .u64 (bs : Int), .slice oa lg.length ca] 31 (0, 0)) := by
    rw [← hW, Below.heap_alloc _ _ _ (by simp)]; exact heap_alloc_new _ _
  have hm : W.heap[w.heap.size + 1]? = some (.cells #[.int .u64 (tm : Int), .int .i64 vt, .int .u64 (bs : Int), .slice ob lg.length cb] 31 (0, 0)) := by
    rw [← hW]
    have := heap_alloc_new (w.alloc (.cells #[.int .u64 (tm : Int), .int .i64 vt, .int .u64 (bs : Int), .slice oa lg.length ca] 31)) (.cells #[.int .u64 (tm : Int), .int .i64 vt, .int .u64 (bs : Int), .slice ob lg.length cb] 31)
    simpa using this
  rw [hW]
  clear hW
  generalize hae : w.heap.size = a at *
  generalize hbe : a + 1 = b at *
  have x0 := cellk (i := 0) hn rfl
  have x1 := cellk (i := 1) hn rfl
  have x2 := cellk (i := 2) hn rfl
  have x3 := cellk (i := 3) hn rfl
  have y0 := cellk (i := 0) hm rfl
  have y1 := cellk (i := 1) hm rfl
  have y2 := cellk (i := 2) hm rfl
  have y3 := cellk (i := 3) hm rfl
  have HN := Lib.hid hn
  have HM := Lib.hid hm
  have HBW := Lib.hid hbw
  clear hn hm hbw
  go_wp2_with fail
  clear x0 x1 x2 x3 y0 y1 y2 y3
  go_loopw [5] (fun t wr => ∃ (i : Nat), i ≤ lg.length ∧ t = .int .i64 (i : Int) ∧ Hid (Below W.heap.size W wr)) (fun t _ => lg.length + 1 - (intOf t).toNat)
  case atStart => exact ⟨0, by omega, rfl, Lib.hid (Below.refl _ _)⟩
  case round =>
    obtain ⟨i, hi, rfl, HR⟩ := hrel
    have hna := (HR.out.block a (by omega)).trans HN.out
    have hnb := (HR.out.block b (by omega)).trans HM.out
    have x3 := cellk (i := 3) hna rfl
    have y3 := cellk (i := 3) hnb rfl
    have HNA := Lib.hid hna
    have HNB := Lib.hid hnb
    clear hna hnb
    by_cases hlt : i < lg.length
    · have i1 : (i : Int) < (lg.length : Int) := by omega
      obtain ⟨b1, off1, v1, rfl, hat1⟩ := HA.out.at (List.getElem?_eq_getElem hlt)
      obtain ⟨b2, off2, v2, rfl, hat2⟩ := HB.out.at (List.getElem?_eq_getElem hlt)
      have hbd0 : Below a w wr := HBW.out.trans (HR.out.mono (by omega))
      have hbd : Below w.heap.size w wr.drew := by rw [hae]; exact hbd0.drew
      have hc1 := hat1.below hbd
      have hc2 := hat2.below hbd
      generalize lg[i] = X at *
      obtain ⟨xt, xs, xn, xl⟩ := X
      obtain ⟨a0, a1, a2, a3, ard⟩ := hc1
      obtain ⟨c0, c1, c2, c3, crd⟩ := hc2
      dsimp only at a0 a1 a2 a3 ard c0 c1 c2 c3 crd
      obtain ⟨o1, k1, rfl⟩ : ∃ o c, v1 = .slice o xl.length c := by
        rcases ard with ⟨rfl, rfl⟩ | ⟨_, c, rfl, _⟩ <;> exact ⟨_, _, rfl⟩
      obtain ⟨o2, k2, rfl⟩ : ∃ o c, v2 = .slice o xl.length c := by
        rcases crd with ⟨rfl, rfl⟩ | ⟨_, c, rfl, _⟩ <;> exact ⟨_, _, rfl⟩
      have HC := Lib.hid (sameEntry_eq ⟨xt, xs, xn, xl⟩ (.slice o1 xl.length k1) (.slice o2 xl.length k2) wr.drew ard crd)
      unfold enV at HC
      dsimp only at HC
      have wi : IntKind.i64.wrap ((i : Int) + 1) = (i : Int) + 1 := IntWalk.i64_in _ (by omega)
      clear hat1 hat2 hbd hbd0 ard crd
      go_wp2_with fail
      refine wp_region_held_drew (S := fun w' => w'.cell? ⟨a, 3, none⟩ = some (.slice (some ⟨b1, off1, none⟩) lg.length ca) ∧ w'.cell? ⟨b, 3, none⟩ = some (.slice (some ⟨b2, off2, none⟩) lg.length cb) ∧
        w'.cell? ⟨b1, off1 + i * 4, none⟩ = some (.int .u64 (xt : Int)) ∧ w'.cell? ⟨b1, off1 + i * 4 + 1, none⟩ = some (.int .u64 (xs : Int)) ∧ w'.cell? ⟨b1, off1 + i * 4 + 2, none⟩ = some (.int .u64 (xn : Int)) ∧ w'.cell? ⟨b1, off1 + i * 4 + 3, none⟩ = some (.slice o1 xl.length k1) ∧
        w'.cell? ⟨b2, off2 + i * 4, none⟩ = some (.int .u64 (xt : Int)) ∧ w'.cell? ⟨b2, off2 + i * 4 + 1, none⟩ = some (.int .u64 (xs : Int)) ∧ w'.cell? ⟨b2, off2 + i * 4 + 2, none⟩ = some (.int .u64 (xn : Int)) ∧ w'.cell? ⟨b2, off2 + i * 4 + 3, none⟩ = some (.slice o2 xl.length k2)) (by kernel_rfl) ⟨x3, y3, a0, a1, a2, a3, c0, c1, c2, c3⟩ ?_
      intro hHeld
      refine wpAnyH_take (i := 0) (v := ?_) (by simp only [List.getElem?_toArray, List.getElem?_cons_zero]; rfl) (by kernel_rfl) (by kernel_rfl) (by kernel_rfl) (by intro _ _ _ h; exact h) (Or.inl ⟨by rfl, ?_⟩) (by assumption) ?_
      rotate_left
      · (intro w hSw; (try dsimp only at hSw); go_simp; try with_reducible rfl)
      try simp only [Act.put, List.setIfInBounds_toArray, List.set_cons_zero, List.set_cons_succ]
      refine wpAnyH_take (i := 1) (v := ?_) (by simp only [List.getElem?_toArray, List.getElem?_cons_succ, List.getElem?_cons_zero]; rfl) (by kernel_rfl) (by kernel_rfl) (by kernel_rfl) (by intro _ _ _ h; exact h) (Or.inl ⟨by rfl, ?_⟩) (by assumption) ?_
      rotate_left
      · (intro w hSw; (try dsimp only at hSw); go_simp; try with_reducible rfl)
      try simp only [Act.put, List.setIfInBounds_toArray, List.set_cons_zero, List.set_cons_succ]
      refine wpAnyH_take (i := 2) (v := ?_) (by simp only [List.getElem?_toArray, List.getElem?_cons_succ, List.getElem?_cons_zero]; rfl) (by kernel_rfl) (by kernel_rfl) (by kernel_rfl) (by intro _ _ _ h; exact h) (Or.inl ⟨by rfl, ?_⟩) (by assumption) ?_
      rotate_left
      · (intro w hSw; (try dsimp only at hSw); go_simp; try with_reducible rfl)
      try simp only [Act.put, List.setIfInBounds_toArray, List.set_cons_zero, List.set_cons_succ]
      refine wpAnyH_take (i := 3) (v := ?_) (by simp only [List.getElem?_toArray, List.getElem?_cons_succ, List.getElem?_cons_zero]; rfl) (by kernel_rfl) (by kernel_rfl) (by kernel_rfl) (by intro _ _ _ h; exact h) (Or.inl ⟨by rfl, ?_⟩) (by assumption) ?_
      rotate_left
      · (intro w hSw; (try dsimp only at hSw); go_simp; try with_reducible rfl)
      try simp only [Act.put, List.setIfInBounds_toArray, List.set_cons_zero, List.set_cons_succ]
      refine wpAnyH_take (i := 4) (v := ?_) (by simp only [List.getElem?_toArray, List.getElem?_cons_succ, List.getElem?_cons_zero]; rfl) (by kernel_rfl) (by kernel_rfl) (by kernel_rfl) (by intro _ _ _ h; exact h) (Or.inl ⟨by rfl, ?_⟩) (by assumption) ?_
      rotate_left
      · (intro w hSw; (try dsimp only at hSw); go_simp; try with_reducible rfl)
      try simp only [Act.put, List.setIfInBounds_toArray, List.set_cons_zero, List.set_cons_succ]
      refine wpAnyH_take (i := 5) (v := ?_) (by simp only [List.getElem?_toArray, List.getElem?_cons_succ, List.getElem?_cons_zero]; rfl) (by kernel_rfl) (by kernel_rfl) (by kernel_rfl) (by intro _ _ _ h; exact h) (Or.inl ⟨by rfl, ?_⟩) (by assumption) ?_
      rotate_left
      · (intro w hSw; (try dsimp only at hSw); go_simp; try with_reducible rfl)
      try simp only [Act.put, List.setIfInBounds_toArray, List.set_cons_zero, List.set_cons_succ]
      refine wpAnyH_take (i := 6) (v := ?_) (by simp only [List.getElem?_toArray, List.getElem?_cons_succ, List.getElem?_cons_zero]; rfl) (by kernel_rfl) (by kernel_rfl) (by kernel_rfl) (by intro _ _ _ h; exact h) (Or.inl ⟨by rfl, ?_⟩) (by assumption) ?_
      rotate_left
      · (intro w hSw; (try dsimp only at hSw); go_simp; try with_reducible rfl)
      try simp only [Act.put, List.setIfInBounds_toArray, List.set_cons_zero, List.set_cons_succ]
      refine wpAnyH_take (i := 7) (v := ?_) (by simp only [List.getElem?_toArray, List.getElem?_cons_succ, List.getElem?_cons_zero]; rfl) (by kernel_rfl) (by kernel_rfl) (by kernel_rfl) (by intro _ _ _ h; exact h) (Or.inl ⟨by rfl, ?_⟩) (by assumption) ?_
      rotate_left
      · (intro w hSw; (try dsimp only at hSw); go_simp; try with_reducible rfl)
      try simp only [Act.put, List.setIfInBounds_toArray, List.set_cons_zero, List.set_cons_succ]
      refine wpAnyH_take (i := 8) (v := ?_) (by simp only [List.getElem?_toArray, List.getElem?_cons_succ, List.getElem?_cons_zero]; rfl) (by kernel_rfl) (by kernel_rfl) (by kernel_rfl) (by intro _ _ _ h; exact h) (Or.inl ⟨by rfl, ?_⟩) (by assumption) ?_
      rotate_left
      · (intro w hSw; (try dsimp only at hSw); go_simp; try with_reducible rfl)
      try simp only [Act.put, List.setIfInBounds_toArray, List.set_cons_zero, List.set_cons_succ]
      refine wpAnyH_take (i := 9) (v := ?_) (by simp only [List.getElem?_toArray, List.getElem?_cons_succ, List.getElem?_cons_zero]; rfl) (by kernel_rfl) (by kernel_rfl) (by kernel_rfl) (by intro _ _ _ h; exact h) (Or.inl ⟨by rfl, ?_⟩) (by assumption) ?_
      rotate_left
      · (intro w hSw; (try dsimp only at hSw); go_simp; try with_reducible rfl)
      try simp only [Act.put, List.setIfInBounds_toArray, List.set_cons_zero, List.set_cons_succ]
      refine wpAnyH_ready (rs := [10]) (by kernel_rfl) (by simp) ?_
      refine AllReadyH.cons (by simp only [List.getElem?_toArray, List.getElem?_cons_succ, List.getElem?_cons_zero]; rfl) (fun K hK => ?_) AllReadyH.nil
      go_simp
      refine HC.out.mono ?_
      rintro e wf ⟨rfl, hbf⟩
      have hlt1 : ∀ p : Addr, p.block < wr.drew.heap.size → wf.cell? p = wr.drew.cell? p := fun p hp => hbf.cell hp
      have HRF : Hid (Below W.heap.size W wf) := Lib.hid (HR.out.drew.trans (hbf.mono HR.out.size))
      have hq := hHeld
      obtain ⟨q0, q1, q2, q3, q4, q5, q6, q7, q8, q9⟩ := hq
      have r0 := (hlt1 _ (World.block_lt_of_cell? _ _ q0)).trans q0
      have r1 := (hlt1 _ (World.block_lt_of_cell? _ _ q1)).trans q1
      have r2 := (hlt1 _ (World.block_lt_of_cell? _ _ q2)).trans q2
      have r3 := (hlt1 _ (World.block_lt_of_cell? _ _ q3)).trans q3
      have r4 := (hlt1 _ (World.block_lt_of_cell? _ _ q4)).trans q4
      have r5 := (hlt1 _ (World.block_lt_of_cell? _ _ q5)).trans q5
      have r6 := (hlt1 _ (World.block_lt_of_cell? _ _ q6)).trans q6
      have r7 := (hlt1 _ (World.block_lt_of_cell? _ _ q7)).trans q7
      have r8 := (hlt1 _ (World.block_lt_of_cell? _ _ q8)).trans q8
      have r9 := (hlt1 _ (World.block_lt_of_cell? _ _ q9)).trans q9
      clear hbf hlt1 q0 q1 q2 q3 q4 q5 q6 q7 q8 q9
      dsimp only
      refine hK.out _ _ ⟨r0, r1, r2, r3, r4, r5, r6, r7, r8, r9⟩ (fun hHeld => ?_)
      clear hK K
      try simp only [Act.put, List.setIfInBounds_toArray, List.set_cons_zero, List.set_cons_succ]
      refine wpAnyH_take (i := 11) (v := ?_) (by simp only [List.getElem?_toArray, List.getElem?_cons_succ, List.getElem?_cons_zero]; rfl) (by kernel_rfl) (by kernel_rfl) (by kernel_rfl) (by intro _ _ _ h; exact h) (Or.inl ⟨by rfl, ?_⟩) (by assumption) ?_
      rotate_left
      · (intro w hSw; (try dsimp only at hSw); go_simp; try with_reducible rfl)
      try simp only [Act.put, List.setIfInBounds_toArray, List.set_cons_zero, List.set_cons_succ]
      refine wpAnyH_done (by kernel_rfl) ?_ _
      go_wp2_with fail
      go_roundw
      case rel => exact ⟨i + 1, by omega, by go_num, HRF⟩
      case measure => simp [intOf]; omega
    · have i1 : ¬ (i : Int) < (lg.length : Int) := by omega
      go_wp2_with fail
      go_ret
      exact ⟨rfl, HBW.out.trans (HR.out.mono (by omega))⟩
end Go.Proofs.Ytdckcjcddibglaa
