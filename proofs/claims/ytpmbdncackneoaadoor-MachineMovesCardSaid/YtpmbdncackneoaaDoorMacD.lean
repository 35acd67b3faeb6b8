/- The next instruction; a function begins, and ends. -/
import Derived.Test.YtpmbdncackneoaaDoorMacC
namespace Go.Proofs.YtpmbdncackneoaaDoor
open Go.RowKit HeaM Ma

theorem CsFr_top (f : Fr) (fs : List Fr) : CsFr (f :: fs).reverse = CsFr fs.reverse ++ frC f := by
  simp [CsFr]
theorem CsFr_get (f : Fr) (fs : List Fr) (j : Nat) : (CsFr (f :: fs).reverse)[fs.length * 4 + j]? = (frC f)[j]? := by
  rw [CsFr_top, List.getElem?_append_right (by rw [CsFr_length, List.length_reverse]; omega), CsFr_length, List.length_reverse, Nat.add_sub_cancel_left]
theorem CsFr_set (f : Fr) (fs : List Fr) (n : Int) : (CsFr (f :: fs).reverse).set (fs.length * 4 + 3) (.int .i64 n) = CsFr ({ f with at_ := n } :: fs).reverse := by
  rw [CsFr_top, CsFr_top, List.set_append_right _ _ (by rw [CsFr_length, List.length_reverse]; omega), CsFr_length, List.length_reverse, Nat.add_sub_cancel_left]
  rfl

/-- The cells of the frame that runs. -/
theorem RunF.frame {C : Cx} {w : World} {s : Ms} {vst vtr vout vdn v1 v2 : Value} {f : Fr} {fs : List Fr} {g cap : Nat} (h : RunF C w s (.slice (some ⟨g, 0, none⟩) (fs.length + 1) cap) vst vtr vout vdn v1 v2) (hs : s.frs = f :: fs) :
    w.cell? ⟨g, fs.length * 4, none⟩ = some (.int .i64 (f.fn : Int)) ∧ w.cell? ⟨g, fs.length * 4 + 1, none⟩ = some (.int .u64 (f.self.word : Int)) ∧ w.cell? ⟨g, fs.length * 4 + 2, none⟩ = some (.int .i64 (f.base : Int)) ∧ w.cell? ⟨g, fs.length * 4 + 3, none⟩ = some (.int .i64 f.at_) ∧ (∀ j, w.frozen? ⟨g, j, none⟩ = false) := by
  have ho := h.g.fr
  rw [hs] at ho
  simp only [List.length_cons] at ho
  have e := fun j (hj : j < 4) => (ho.cellAt (fs.length * 4 + j) (by omega)).trans (CsFr_get f fs j)
  obtain ⟨cur, hcur⟩ := own_tag ho g rfl
  exact ⟨(e 0 (by omega)).trans rfl, (e 1 (by omega)).trans rfl, (e 2 (by omega)).trans rfl, (e 3 (by omega)).trans rfl, fun j => frozen_of_row w g j _ _ hcur⟩

/-- The frame that runs goes on elsewhere. -/
theorem RunF.goto {C : Cx} {w : World} {s : Ms} {vst vtr vout vdn v1 v2 : Value} {f : Fr} {fs : List Fr} {g cap : Nat} (h : RunF C w s (.slice (some ⟨g, 0, none⟩) (fs.length + 1) cap) vst vtr vout vdn v1 v2) (hs : s.frs = f :: fs) (n : Int) :
    RunF C (w.setCell ⟨g, fs.length * 4 + 3, none⟩ (.int .i64 n)) { s with frs := { f with at_ := n } :: fs } (.slice (some ⟨g, 0, none⟩) (fs.length + 1) cap) vst vtr vout vdn v1 v2 := by
  have ho := h.g.fr
  rw [hs] at ho
  simp only [List.length_cons] at ho
  have hst := (ho.stored (fs.length * 4 + 3) (.int .i64 n)).1
  rw [CsFr_set] at hst
  have hne : C.lo ≠ g := by
    intro e
    exact (own_tag ho g rfl).ne (e ▸ h.g.rtag) (by decide)
  refine ⟨h.fit, ?_, h.g.frames (Kept.setCell (S := fun k => (Value.slice (some ⟨g, 0, none⟩) (fs.length + 1) cap).ownBlock = some k) (p := ⟨g, fs.length * 4 + 3, none⟩) (Kept.refl _ _) (.inl rfl) _) hst fun x hx => ?_⟩
  · rw [heap_setCell_other _ _ _ _ hne]
    exact h.cell
  · rcases List.mem_cons.1 hx with rfl | hx
    · exact h.g.rfrs f (by rw [hs]; exact List.mem_cons_self)
    · exact h.g.rfrs x (by rw [hs]; exact List.mem_cons_of_mem _ hx)

/-- An instruction in memory. -/
theorem RunF.code {C : Cx} {w : World} {s : Ms} {vfr vst vtr vout vdn v1 v2 : Value} (h : RunF C w s vfr vst vtr vout vdn v1 v2) {k i : Nat} {gf : CodM.Fun} {x : CodM.Ins} (hg : C.m.funs[k]? = some gf) (hx : gf.code[i]? = some x) :
    ∃ b off c b2 off2 c2, C.vf = .slice (some ⟨b, off, none⟩) C.m.funs.length c ∧ C.m.funs.length ≤ c ∧ c ≤ maxLen ∧ k < C.m.funs.length ∧ w.cell? ⟨b, off + k * 2, none⟩ = some (.int .i64 gf.caps) ∧ w.cell? ⟨b, off + k * 2 + 1, none⟩ = some (.slice (some ⟨b2, off2, none⟩) gf.code.length c2) ∧
      i < gf.code.length ∧ gf.code.length ≤ c2 ∧ c2 ≤ maxLen ∧ w.cell? ⟨b2, off2 + i * 4, none⟩ = some (.int .u8 (x.op : Int)) ∧ w.cell? ⟨b2, off2 + i * 4 + 1, none⟩ = some (.int .i64 x.n) ∧ w.cell? ⟨b2, off2 + i * 4 + 2, none⟩ = some (.int .i64 x.a) ∧ w.cell? ⟨b2, off2 + i * 4 + 3, none⟩ = some (.string x.s) := by
  obtain ⟨hf, _, _⟩ := h.fit.stat w h.g.kept
  have hk := (List.getElem?_eq_some_iff.1 hg).1
  have hi := (List.getElem?_eq_some_iff.1 hx).1
  rcases hf with ⟨o, c, _, hnil⟩ | ⟨b, off, c, e, hl, hc, hm, hC⟩
  · rw [hnil] at hk; simp at hk
  · obtain ⟨h1, v, h2, h3⟩ := hC k gf hg
    rcases h3 with ⟨o, c', _, hnil⟩ | ⟨b2, off2, c2, rfl, hl2, hc2, hm2, hI⟩
    · rw [hnil] at hi; simp at hi
    · obtain ⟨i1, i2, i3, i4⟩ := hI i x hx
      exact ⟨b, off, c, b2, off2, c2, e, hc, hm, hk, h1, h2, hi, hc2, hm2, i1, i2, i3, i4⟩

set_option maxHeartbeats 2000000 in
set_option maxRecDepth 100000 in
theorem next_t {C : Cx} {s : Ms} {f : Fr} {fs : List Fr} {gf : CodM.Fun} {x : CodM.Ins} {i : Nat} {w : World} (h : RunE C w s) (hs : s.frs = f :: fs) (hg : C.m.funs[f.fn]? = some gf) (hx : gf.code[i]? = some x) (hi : f.at_ = (i : Int)) (hn : s.frs.length ≤ 100000000) (hib : i ≤ 100000000) :
    Calls Tryd.prog 21 #[.pointer (some ⟨C.lo, 0, none⟩)] w fun e w' => e = .returned (.agg #[.int .u8 (x.op : Int), .int .i64 x.n, .int .i64 x.a, .string x.s]) ∧ RunE C w' { s with frs := { f with at_ := (i : Int) + 1 } :: fs } := by
  obtain ⟨vfr, vst, vtr, vout, vdn, v1, v2, h⟩ := h
  have ho := h.g.fr
  rw [hs] at ho hn
  simp only [List.length_cons] at ho hn
  obtain ⟨g, cap, rfl, hcap, hmax, _⟩ := own_some ho (by omega)
  have hall : ∀ w1, Below w.heap.size w w1 → ∃ b off c b2 off2 c2, C.vf = .slice (some ⟨b, off, none⟩) C.m.funs.length c ∧ C.m.funs.length ≤ c ∧ c ≤ maxLen ∧ f.fn < C.m.funs.length ∧ gf.code.length ≤ c2 ∧ c2 ≤ maxLen ∧ i < gf.code.length ∧
      w1.cell? ⟨g, fs.length * 4 + 3, none⟩ = some (.int .i64 (i : Int)) ∧ w1.frozen? ⟨g, fs.length * 4 + 3, none⟩ = false ∧
      ∃ W2, W2 = w1.setCell ⟨g, fs.length * 4 + 3, none⟩ (.int .i64 ((i : Int) + 1)) ∧ RunE C W2 { s with frs := { f with at_ := (i : Int) + 1 } :: fs } ∧
      W2.cell? ⟨C.lo, 0, none⟩ = some (.pointer (some ⟨C.M, 0, none⟩)) ∧ W2.cell? ⟨C.M, 1, none⟩ = some C.vf ∧ W2.cell? ⟨g, fs.length * 4, none⟩ = some (.int .i64 (f.fn : Int)) ∧ W2.cell? ⟨g, fs.length * 4 + 3, none⟩ = some (.int .i64 ((i : Int) + 1)) ∧
      W2.cell? ⟨b, off + f.fn * 2 + 1, none⟩ = some (.slice (some ⟨b2, off2, none⟩) gf.code.length c2) ∧ W2.cell? ⟨b2, off2 + i * 4, none⟩ = some (.int .u8 (x.op : Int)) ∧ W2.cell? ⟨b2, off2 + i * 4 + 1, none⟩ = some (.int .i64 x.n) ∧ W2.cell? ⟨b2, off2 + i * 4 + 2, none⟩ = some (.int .i64 x.a) ∧ W2.cell? ⟨b2, off2 + i * 4 + 3, none⟩ = some (.string x.s) := by
    intro w1 hb1
    have h1 := h.below hb1
    obtain ⟨_, _, _, q3, q4⟩ := h1.frame hs
    have h2 := h1.goto hs ((i : Int) + 1)
    obtain ⟨b, off, c, b2, off2, c2, e, a1, a2, a3, _, a5, a6, a7, a8, a9, a10, a11, a12⟩ := h2.code hg hx
    obtain ⟨r0, _, _, r3, _⟩ := h2.frame rfl
    rw [hi] at q3
    exact ⟨b, off, c, b2, off2, c2, e, a1, a2, a3, a7, a8, a6, q3, q4 _, _, rfl, ⟨_, _, _, _, _, _, _, h2⟩, h2.cells.1, h2.mach.2.1, r0, r3, a5, a9, a10, a11, a12⟩
  have HA := Lib.hid hall
  have c1 := h.cells.2.1
  have hfl := h.fit.fl
  have hni : (fs.length : Int) ≤ 100000000 := by omega
  unfold maxLen at hmax
  clear h hall ho hs hg hx
  generalize fs.length = n at *
  have hb0 : Below w.heap.size w (w.alloc (.cells #[.int .u8 0, .int .i64 0, .int .i64 0, .string ⟨#[]⟩] 28)) := (Below.refl _ _).alloc (Nat.le_refl _) _
  have d1 := (hb0.cell (World.block_lt_of_cell? w _ c1)).trans c1
  have HB0 := Lib.hid hb0
  go_enter Tryd.func21, Tryd.ntmps21
  go_wp2_with fail
  refine (top_t C.lo g n cap _ d1 (by omega)).mono ?_
  rintro e w' ⟨rfl, nq, rfl⟩
  obtain ⟨b, off, c, b2, off2, c2, e, a1, a2, a3, a4, a5, a6, q3, q4, W2, hW2, hE, r0, r1, r2, r3, r4, r5, r6, r7, r8⟩ := HA.out _ (HB0.out.trans (below_drewN _ nq _))
  have HE := Lib.hid hE
  clear hE
  rw [e] at r1
  have hii : (i : Int) ≤ 100000000 := by omega
  have e1 : IntKind.i64.wrap ((i : Int) + 1) = (i : Int) + 1 := IntWalk.i64_in _ (by omega)
  have e2 : IntKind.i64.wrap ((i : Int) + 1 - 1) = (i : Int) := IntWalk.i64_in _ (by omega) |>.trans (by omega)
  have e3 : IntKind.i64.wrap (i : Int) = (i : Int) := IntWalk.i64_in _ (by omega)
  have a3i : (f.fn : Int) < (C.m.funs.length : Int) := by omega
  have a6i : (i : Int) < (gf.code.length : Int) := by omega
  unfold maxLen at a2 a5
  clear HA e
  generalize C.m.funs.length = FL at *
  generalize gf.code.length = CL at *
  have hblk : ((w.alloc (.cells #[.int .u8 0, .int .i64 0, .int .i64 0, .string ⟨#[]⟩] 28)).drewN nq).heap[w.heap.size]? = some (.cells #[.int .u8 0, .int .i64 0, .int .i64 0, .string ⟨#[]⟩] 28 (0, 0)) := heap_alloc_new w _
  generalize (w.alloc (.cells #[.int .u8 0, .int .i64 0, .int .i64 0, .string ⟨#[]⟩] 28)).drewN nq = w1 at *
  have HW2 := Lib.hid hW2
  clear hW2
  go_wp2
  rw [← HW2.out]
  obtain ⟨W3, hW3⟩ : ∃ W3, W3 = W2.drew := ⟨_, rfl⟩
  have c3 : ∀ p u, W2.cell? p = some u → W3.cell? p = some u := by intro p u h; rw [hW3]; exact h
  have hblk3 : W3.heap[w.heap.size]? = some (.cells #[.int .u8 0, .int .i64 0, .int .i64 0, .string ⟨#[]⟩] 28 (0, 0)) := by
    rw [hW3]
    show W2.heap[w.heap.size]? = _
    rw [HW2.out, heap_setCell_other _ _ _ _ (by show w.heap.size ≠ g; omega)]
    exact hblk
  have HE3 : Hid (RunE C W3 { s with frs := { f with at_ := (i : Int) + 1 } :: fs }) := by rw [hW3]; exact HE.out.drewN 1
  replace r0 := c3 _ _ r0
  replace r1 := c3 _ _ r1
  replace r2 := c3 _ _ r2
  replace r3 := c3 _ _ r3
  replace r4 := c3 _ _ r4
  replace r5 := c3 _ _ r5
  replace r6 := c3 _ _ r6
  replace r7 := c3 _ _ r7
  replace r8 := c3 _ _ r8
  clear q3 q4 HE HW2 c3
  refine wp_region_still_tail 21 (by kernel_rfl) (by kernel_rfl) ?_
  simp only [List.take_succ_cons, List.take_zero, List.drop_succ_cons, List.drop_zero]
  change wpStill _ _ W2.drew (fun a' => wpList _ _ _ _ a' W2.drew) _ _
  rw [← hW3]
  clear hW3
  repeat still_step
  refine wpStill_nil ?_
  have cc := fun j => cell_of_row W3 w.heap.size j _ _ (0, 0) hblk3
  have ff := fun j => frozen_of_row W3 w.heap.size j _ _ hblk3
  have t0 := (cc 0).trans rfl
  have t1 := (cc 1).trans rfl
  have t2 := (cc 2).trans rfl
  have t3 := (cc 3).trans rfl
  have s0 := ff 0
  have s1 := ff 1
  have s2 := ff 2
  have s3 := ff 3
  clear cc ff
  go_wp2
  refine bodyPost_ret (v := .agg #[.int .u8 (x.op : Int), .int .i64 x.n, .int .i64 x.a, .string x.s]) (by simp [results, Tryd.results21, go_sem, t0, t1, t2, t3]) rfl ⟨rfl, ?_⟩
  obtain ⟨_, _, _, _, _, _, _, hE3⟩ := HE3.out
  have hq : Kept (fun k => k = w.heap.size) W3 ((((W3.setCell ⟨w.heap.size, 0, none⟩ (.int .u8 (x.op : Int))).setCell ⟨w.heap.size, 1, none⟩ (.int .i64 x.n)).setCell ⟨w.heap.size, 2, none⟩ (.int .i64 x.a)).setCell ⟨w.heap.size, 3, none⟩ (.string x.s)) :=
    ((((Kept.refl (fun k => k = w.heap.size) W3).setCell (p := ⟨w.heap.size, 0, none⟩) (.inl rfl) _).setCell (p := ⟨w.heap.size, 1, none⟩) (.inl rfl) _).setCell (p := ⟨w.heap.size, 2, none⟩) (.inl rfl) _).setCell (p := ⟨w.heap.size, 3, none⟩) (.inl rfl) _
  exact ⟨_, _, _, _, _, _, _, hE3.foreign 28 ⟨_, hblk3⟩ hq (by omega) (by decide)⟩
end Go.Proofs.YtpmbdncackneoaaDoor
