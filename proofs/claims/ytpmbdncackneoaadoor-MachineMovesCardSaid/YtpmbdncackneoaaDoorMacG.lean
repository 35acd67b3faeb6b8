/- On where the last open try leads. -/
import Derived.Test.YtpmbdncackneoaaDoorMacF
import Derived.BigRegion
namespace Go.Proofs.YtpmbdncackneoaaDoor
open Go.RowKit HeaM Ma

theorem CsTr_get (t : Tr) (ts : List Tr) (j : Nat) : (CsTr (t :: ts).reverse)[ts.length * 3 + j]? = (trC t)[j]? := by
  rw [show CsTr (t :: ts).reverse = CsTr ts.reverse ++ trC t by simp [CsTr], List.getElem?_append_right (by rw [CsTr_length, List.length_reverse]; omega), CsTr_length, List.length_reverse, Nat.add_sub_cancel_left]

set_option maxHeartbeats 1000000 in
theorem land_no {C : Cx} {s : Ms} {w : World} (h : RunE C w s) (ht : s.trs = []) :
    Calls Tryd.prog 62 #[.pointer (some ⟨C.lo, 0, none⟩)] w fun e w' => e = .returned (.bool false) ∧ RunE C w' s := by
  have HE := Lib.hid h
  obtain ⟨vfr, vst, vtr, vout, vdn, v1, v2, h⟩ := h
  have c3 := h.cells.2.2.2.1
  have ho := h.g.tr
  rw [ht] at ho
  obtain ⟨o, c, rfl, _⟩ := own_slice ho
  simp only [List.length_nil] at c3
  clear h ho
  go_enter Tryd.func62, Tryd.ntmps62
  go_wp2
  go_ret
  exact ⟨rfl, HE.out⟩

theorem tries_mem {C : Cx} {s : Ms} {w : World} {vfr vst vout vdn v1 v2 : Value} {g n k b : Nat} (h : RunF C w s vfr vst (.slice (some ⟨g, 0, none⟩) n k) vout vdn v1 v2) (hn : s.trs.length = n) (hb : b ≤ n) :
    RunF C (w.setCell ⟨C.lo, 3, none⟩ (.slice (some ⟨g, 0, none⟩) b k)) { s with trs := s.trs.drop (n - b) } vfr vst (.slice (some ⟨g, 0, none⟩) b k) vout vdn v1 v2 := by
  subst hn
  have hl : (s.trs.drop (s.trs.length - b)).length = b := by rw [List.length_drop]; omega
  have hG := h.g.tries (trs' := s.trs.drop (s.trs.length - b)) (vtr' := .slice (some ⟨g, 0, none⟩) b k) (Kept.refl _ _) (by
    rw [hl]
    exact own_cut h.g.tr hb (by unfold CsTr; rw [← flat_take trC 3 (fun _ => rfl), List.take_reverse]))
  exact RunF.setR h.fit ⟨s, _, _, _, _, _, h.cell, rfl⟩ hG

set_option maxHeartbeats 2000000 in
set_option maxRecDepth 100000 in
theorem land_yes {C : Cx} {s s' : Ms} {t : Tr} {ts : List Tr} {w : World} (h : RunE C w s) (ht : s.trs = t :: ts) (hl : land s t ts = some s') (hf : s.frs.length ≤ 1000000000) (htn : s.trs.length ≤ 1000000000) :
    Calls Tryd.prog 62 #[.pointer (some ⟨C.lo, 0, none⟩)] w fun e w' => e = .returned (.bool true) ∧ RunE C w' s' := by
  obtain ⟨vfr, vst, vtr, vout, vdn, v1, v2, h⟩ := h
  have ho := h.g.tr
  rw [ht] at ho htn
  simp only [List.length_cons] at ho htn
  obtain ⟨g3, k3, rfl, hk3, hm3, _⟩ := own_some ho (by omega)
  obtain ⟨hle, f, fs, hdr, hs'⟩ : (t.frames ≤ s.frs.length ∧ t.depth ≤ s.stk.length) ∧ ∃ f fs, s.frs.drop (s.frs.length - t.frames) = f :: fs ∧ s' = { s with trs := ts, frs := { f with at_ := t.at_ } :: fs, stk := s.stk.drop (s.stk.length - t.depth) } := by
    unfold land at hl
    by_cases hb : t.frames ≤ s.frs.length ∧ t.depth ≤ s.stk.length
    · rw [if_pos hb] at hl
      refine ⟨hb, ?_⟩
      rcases hd : s.frs.drop (s.frs.length - t.frames) with _ | ⟨f, fs⟩
      · rw [hd] at hl; cases hl
      · rw [hd] at hl
        simp only [Option.some.injEq] at hl
        exact ⟨f, fs, rfl, hl.symm⟩
    · rw [if_neg hb] at hl; cases hl
  obtain ⟨hle1, hle2⟩ := hle
  have hfl : t.frames = fs.length + 1 := by
    have e := congrArg List.length hdr
    rw [List.length_drop, List.length_cons] at e
    omega
  obtain ⟨g1, k1, hv1, hk1, hm1, hg1⟩ := own_some h.g.fr (by omega)
  subst hv1
  have HFL := Lib.hid hfl
  have HDR := Lib.hid hdr
  have HS := Lib.hid hs'
  clear hfl hdr hs'
  obtain ⟨o2, k2, rfl, hk2, hm2⟩ := own_slice h.g.st
  have e3 := fun j (hj : j < 3) => (ho.cellAt (ts.length * 3 + j) (by omega)).trans (CsTr_get t ts j)
  have q0 : w.cell? ⟨g3, ts.length * 3, none⟩ = some (.int .i64 (t.frames : Int)) := (e3 0 (by omega)).trans rfl
  have q1 : w.cell? ⟨g3, ts.length * 3 + 1, none⟩ = some (.int .i64 t.at_) := (e3 1 (by omega)).trans rfl
  have q2 : w.cell? ⟨g3, ts.length * 3 + 2, none⟩ = some (.int .i64 (t.depth : Int)) := (e3 2 (by omega)).trans rfl
  obtain ⟨c0, c1, c2, c3, _⟩ := h.cells
  have hti : (ts.length : Int) ≤ 1000000000 := by omega
  have H := Lib.hid h
  have hn' : s.trs.length = ts.length + 1 := by rw [ht]; rfl
  have HN := Lib.hid hn'
  clear h ho e3 hn'
  generalize ts.length = n at *
  unfold maxLen at hm1 hm2 hm3
  go_enter Tryd.func62, Tryd.ntmps62
  go_wp2
  have hb1 : Below w.heap.size w (w.alloc (.cells #[.int .i64 (t.frames : Int), .int .i64 t.at_, .int .i64 (t.depth : Int)] 117)) := (Below.refl _ _).alloc (Nat.le_refl _) _
  have hblk := heap_alloc_new w (.cells #[.int .i64 (t.frames : Int), .int .i64 t.at_, .int .i64 (t.depth : Int)] 117)
  have h1 := H.out.below hb1
  obtain ⟨d0, d1, d2, d3, _⟩ := h1.cells
  have f1 := h1.free 1
  have f2 := h1.free 2
  have f3 := h1.free 3
  have cc := fun j => cell_of_row _ w.heap.size j _ _ (0, 0) hblk
  have t0 := (cc 0).trans rfl
  have t1 := (cc 1).trans rfl
  have t2 := (cc 2).trans rfl
  have H1 := Lib.hid h1
  clear h1 hb1 hblk cc H c0 c1 c2 c3 q0 q1 q2
  generalize (w.alloc (.cells #[.int .i64 (t.frames : Int), .int .i64 t.at_, .int .i64 (t.depth : Int)] 117)) = w1 at *
  have b1 : t.frames ≤ k1 := by omega
  have b2 : t.depth ≤ k2 := by omega
  have b3 : n ≤ k3 := by omega
  go_region
  have h2 := tries_mem (b := n) H1.out HN.out (by omega)
  have h3 := frames_mem (b := t.frames) h2 rfl hle1
  have h4 := leave_mem (b := t.depth) h3 hle2
  have h5 := h4.drewN 1
  change RunF C (World.drew _) _ _ _ _ _ _ _ _ at h5
  have e1 : s.trs.drop (n + 1 - n) = ts := by rw [ht, Nat.add_sub_cancel_left]; rfl
  have hdr' : s.frs.drop (s.frs.length - (fs.length + 1)) = f :: fs := by rw [← HFL.out]; exact HDR.out
  simp only [e1, HFL.out, hdr'] at h5
  have hne : C.lo ≠ w.heap.size := by have := hg1.1; have := hg1.2; omega
  have t5 : (World.drew (((w1.setCell ⟨C.lo, 3, none⟩ (.slice (some ⟨g3, 0, none⟩) n k3)).setCell ⟨C.lo, 1, none⟩ (.slice (some ⟨g1, 0, none⟩) t.frames k1)).setCell ⟨C.lo, 2, none⟩ (.slice o2 t.depth k2))).cell? ⟨w.heap.size, 1, none⟩ = some (.int .i64 t.at_) :=
    (World.cell?_setCell_far _ ⟨C.lo, 2, none⟩ ⟨w.heap.size, 1, none⟩ _ hne).trans ((World.cell?_setCell_far _ ⟨C.lo, 1, none⟩ ⟨w.heap.size, 1, none⟩ _ hne).trans ((World.cell?_setCell_far _ ⟨C.lo, 3, none⟩ ⟨w.heap.size, 1, none⟩ _ hne).trans t1))
  rw [HFL.out] at t5
  rw [HFL.out]
  obtain ⟨c0, c1, _⟩ := h5.cells
  have H5 := Lib.hid h5
  clear h5 h2 h3 h4 e1 H1 hl ht hdr' t0 t1 t2 d0 d1 d2 d3 f1 f2 f3
  generalize (World.drew _) = w5 at *
  have hfi : fs.length ≤ 1000000000 := by have := HFL.out; omega
  have hall : ∀ nq, (w5.drewN nq).cell? ⟨w.heap.size, 1, none⟩ = some (.int .i64 t.at_) ∧ (w5.drewN nq).cell? ⟨g1, fs.length * 4 + 3, none⟩ = some (.int .i64 f.at_) ∧ (w5.drewN nq).frozen? ⟨g1, fs.length * 4 + 3, none⟩ = false ∧ RunE C ((w5.drewN nq).setCell ⟨g1, fs.length * 4 + 3, none⟩ (.int .i64 t.at_)) s' := by
    intro nq
    have h6 := H5.out.drewN nq
    obtain ⟨_, _, _, q3, q4⟩ := h6.frame rfl
    rw [HS.out]
    exact ⟨t5, q3, q4 _, _, _, _, _, _, _, _, h6.goto rfl t.at_⟩
  have HA := Lib.hid hall
  clear hall H5 HS
  generalize fs.length = m at *
  go_wp2_with fail
  have c1' : w5.drew.cell? ⟨C.lo, 1, none⟩ = some (.slice (some ⟨g1, 0, none⟩) (m + 1) k1) := c1
  have HT := Lib.hid (top_t C.lo g1 m k1 w5.drew c1' hfi)
  clear c1 c0 c1'
  go_region_law ((go_simp; go_at_call 33; refine HT.out.mono ?_; rintro e w' ⟨rfl, nq, rfl⟩; obtain ⟨y1, y2, y3, y4⟩ := HA.out (1 + nq); have Y4 := Lib.hid y4; clear y4))
  all_goals
    go_wp2_with fail
    go_ret
    exact ⟨rfl, Y4.out⟩
end Go.Proofs.YtpmbdncackneoaaDoor
