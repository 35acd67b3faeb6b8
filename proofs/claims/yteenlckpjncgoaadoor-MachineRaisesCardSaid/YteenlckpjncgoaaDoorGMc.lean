/- MacAA, MacAD, in one text. -/
import Derived.Test.YteenlckpjncgoaaDoorGMb

namespace Go.Proofs.YteenlckpjncgoaaDoor
open Go.RowKit HeaM Ma

set_option maxHeartbeats 1000000 in
set_option maxRecDepth 100000 in
theorem dc_text (C : Cx) (n a : Int) (str : ByteArray) : DoC C ⟨1, n, a, str⟩ := by
  intro w s s' m f fs h hf hw hd
  have hd' : Ma.text C.m s str.data.toList = some (m, s') := hd
  have HP := Lib.hid (text_t' str (h.ins 1 n a str) rfl hd' (by have := hw.1; omega) (by have := hw.2.1; omega) (by have := hw.2.2.1; omega))
  clear h hf hw hd hd'
  go_enter Tryd.func30, Tryd.ntmps30
  go_wp2_with fail
  refine HP.out.mono ?_
  rintro e w' ⟨rfl, hw⟩
  have HW := Lib.hid hw
  clear hw
  go_wp2
  go_ret
  exact ⟨rfl, HW.out⟩

set_option maxHeartbeats 1000000 in
set_option maxRecDepth 100000 in
theorem dc_fail (C : Cx) (n a : Int) (str : ByteArray) : DoC C ⟨26, n, a, str⟩ := by
  intro w s s' m f fs h hf hw hd
  have hd' : Ma.raise C.m s str.data.toList = some (m, s') := hd
  have HP := Lib.hid (raise_t str (h.ins 26 n a str) rfl hd' (by have := hw.1; omega) (by have := hw.2.1; omega) (by have := hw.2.2.1; omega))
  clear h hf hw hd hd'
  go_enter Tryd.func30, Tryd.ntmps30
  go_wp2_with fail
  refine HP.out.mono ?_
  rintro e w' ⟨rfl, hw⟩
  have HW := Lib.hid hw
  clear hw
  go_wp2
  go_ret
  exact ⟨rfl, HW.out⟩

/-- What leads on, or leaves nothing new. -/
theorem do_lead {C : Cx} {s s' : Ms} {w : World} (op : Nat) (n a : Int) (str : ByteArray) (h : RunE C w s) (ho : op = 8 ∨ op = 12 ∨ op = 13 ∨ op = 18 ∨ op = 19 ∨ op = 24 ∨ op = 25)
    (hl : ∀ w, RunE C w s → Calls Tryd.prog 55 #[.pointer (some ⟨C.lo, 0, none⟩), .agg #[.int .u8 (op : Int), .int .i64 n, .int .i64 a, .string str]] w (VoidRun C s')) :
    Calls Tryd.prog 30 #[.pointer (some ⟨C.lo, 0, none⟩), .agg #[.int .u8 (op : Int), .int .i64 n, .int .i64 a, .string str]] w (OkRun C s' 0) := by
  have H1 := Lib.hid (hl _ (h.ins op n a str))
  clear h hl
  rcases ho with rfl | rfl | rfl | rfl | rfl | rfl | rfl
  all_goals
    go_enter Tryd.func30, Tryd.ntmps30
    go_wp2_with fail
    refine H1.out.mono ?_
    rintro e w' ⟨rfl, hw⟩
    have HW := Lib.hid hw
    clear hw
    go_wp2
    go_ret
    exact ⟨rfl, HW.out⟩

set_option maxHeartbeats 1000000 in
set_option maxRecDepth 100000 in
theorem dc_pop (C : Cx) (n a : Int) (str : ByteArray) : DoC C ⟨19, n, a, str⟩ := by
  intro w s s' m f fs h hf hw hd
  have hd' : (match s.stk with | _ :: t => ok { s with stk := t } | [] => none) = some (m, s') := hd
  rcases hs : s.stk with _ | ⟨v, t⟩
  · rw [hs] at hd'; cases hd'
  rw [hs] at hd'
  simp only [ok, Option.some.injEq, Prod.mk.injEq] at hd'
  obtain ⟨rfl, rfl⟩ := hd'
  refine do_lead 19 n a str h (by omega) fun w1 h1 => ?_
  have HP := Lib.hid (pop_t (h1.ins 19 n a str) hs (by have := hw.1; omega))
  clear h1 h hd
  go_enter Tryd.func55, Tryd.ntmps55
  go_wp2_with fail
  refine HP.out.mono ?_
  rintro e w' ⟨rfl, hw'⟩
  have HW := Lib.hid hw'
  clear hw'
  go_wp2
  refine bodyPost_ret (results_none rfl _ _ _) rfl ?_
  exact ⟨rfl, HW.out⟩

/-- A function's own stack. -/
theorem RunF.stkcell {C : Cx} {w : World} {s : Ms} {vfr vtr vout vdn v1 v2 : Value} {o : Option Addr} {k j : Nat} {v : V} (h : RunF C w s vfr (.slice o s.stk.length k) vtr vout vdn v1 v2) (hv : s.stk.reverse[j]? = some v) :
    ∃ g, o = some ⟨g, 0, none⟩ ∧ j < s.stk.length ∧ s.stk.length ≤ k ∧ k ≤ maxLen ∧ w.cell? ⟨g, j, none⟩ = some (.int .u64 (v.word : Int)) ∧ Rep s.W s.F v := by
  have hj : j < s.stk.length := by have := (List.getElem?_eq_some_iff.1 hv).1; rwa [List.length_reverse] at this
  obtain ⟨g, cap, hv1, hc, hm, _⟩ := own_some h.g.st (by omega)
  simp only [Value.slice.injEq, true_and] at hv1
  obtain ⟨rfl, rfl⟩ := hv1
  refine ⟨g, rfl, hj, hc, hm, ?_, h.g.rstk v (List.mem_reverse.1 (List.mem_of_getElem? hv))⟩
  rw [h.g.st.cellAt j (by omega)]
  unfold stkW Ws
  rw [List.getElem?_map, List.getElem?_map, hv]
  rfl

/-- A try begins. -/
theorem try_mem {C : Cx} {s : Ms} {n : Int} {w : World} {vfr vst vtr vout vdn v1 v2 : Value} (h : RunF C w s vfr vst vtr vout vdn v1 v2) (hf : s.trs.length ≤ 1000000000) :
    ∃ o c w2, (Builtin.append_ #[73, 73] 73 #[vtr, .slice (some ⟨w.heap.size, 0, none⟩) 1 1]).run Tryd.prog (w.alloc (.cells #[Value.int .i64 (s.frs.length : Int), .int .i64 n, .int .i64 (s.stk.length : Int)] 126)) = .ok (.slice o (s.trs.length + 1) c) w2 ∧
      w2.cell? ⟨C.lo, 3, none⟩ = some vtr ∧ w2.frozen? ⟨C.lo, 3, none⟩ = false ∧ RunE C (w2.setCell ⟨C.lo, 3, none⟩ (.slice o (s.trs.length + 1) c)) { s with trs := ⟨s.frs.length, n, s.stk.length⟩ :: s.trs } := by
  obtain ⟨v', w2, r2, o2, g2, a2⟩ := append_k (ty := 73) (t := 73) tryInfo Tryd.underlying73 rfl (by decide) (h.g.tr.alloc (.cells [Value.int .i64 (s.frs.length : Int), .int .i64 n, .int .i64 (s.stk.length : Int)].toArray 126)) rfl (cells_new w [Value.int .i64 (s.frs.length : Int), .int .i64 n, .int .i64 (s.stk.length : Int)] 126) (by intro u hu; simp at hu; rcases hu with rfl | rfl | rfl <;> rfl) (by omega) (by omega) (by have := h.g.lt; simp; omega)
  have hk : Kept (fun k => vtr.ownBlock = some k) w w2 := ((Kept.refl _ _).alloc _).grown g2 fun j hj => .inl hj
  have hlo : w2.heap[C.lo]? = w.heap[C.lo]? := hk.block _ h.g.lt (fun a => (own_tag h.g.tr _ a).ne h.g.rtag (by decide))
  have hG := h.g.tries (trs' := ⟨s.frs.length, n, s.stk.length⟩ :: s.trs) hk (by
    have e : CsTr (Tr.mk s.frs.length n s.stk.length :: s.trs).reverse = CsTr s.trs.reverse ++ [Value.int .i64 (s.frs.length : Int), .int .i64 n, .int .i64 (s.stk.length : Int)] := by
      simp [CsTr, trC]
    rw [e]; exact o2)
  have hF : RunE C (w2.setCell ⟨C.lo, 3, none⟩ v') { s with trs := ⟨s.frs.length, n, s.stk.length⟩ :: s.trs } := ⟨_, _, _, _, _, _, _, RunF.setR h.fit ⟨s, _, _, _, _, _, hlo.trans h.cell, rfl⟩ hG⟩
  obtain ⟨o, c, rfl, _⟩ := own_slice o2
  exact ⟨o, c, w2, r2, (World.cell?_of_block hlo).trans h.cells.2.2.2.1, (World.frozen?_of_block hlo).trans (h.free 3), hF⟩
end Go.Proofs.YteenlckpjncgoaaDoor

namespace Go.Proofs.YteenlckpjncgoaaDoor
open Go.RowKit HeaM Ma

theorem RunE.insc {C : Cx} {w : World} {s : Ms} (h : RunE C w s) (op : Int) (n a : Int) (str : ByteArray) : C.lo < w.heap.size ∧ (w.alloc (.cells #[.int .u8 op, .int .i64 n, .int .i64 a, .string str] 33)).cell? ⟨w.heap.size, 1, none⟩ = some (.int .i64 n) :=
  ⟨h.lt, (cell_of_row _ w.heap.size 1 _ _ (0, 0) (heap_alloc_new w _)).trans rfl⟩

set_option maxHeartbeats 2000000 in
set_option maxRecDepth 100000 in
theorem dc_false (C : Cx) (n a : Int) (str : ByteArray) : DoC C ⟨13, n, a, str⟩ := by
  intro w s s' m f fs h hf hw hd
  have hd' : (match s.stk with | v :: t => if v.word = 1 then ok { s with stk := t, frs := { f with at_ := n } :: fs } else ok { s with stk := t } | [] => none) = some (m, s') := hd
  rcases hs : s.stk with _ | ⟨v, t⟩
  · rw [hs] at hd'; cases hd'
  rw [hs] at hd'
  have hm : m = 0 := by
    by_cases h1 : v.word = 1
    · simp only [h1, if_true, ok, Option.some.injEq, Prod.mk.injEq] at hd'; exact hd'.1.symm
    · simp only [if_neg h1, ok, Option.some.injEq, Prod.mk.injEq] at hd'; exact hd'.1.symm
  subst hm
  refine do_lead 13 n a str h (by omega) fun wa0 h1 => ?_
  clear h hd
  obtain ⟨hlt, hx⟩ := h1.insc 13 n a str
  have HP := Lib.hid (pop_k (h1.ins 13 n a str) hs (by have := hw.1; omega))
  have HN0 : Hid (∀ w : World, Calls Tryd.prog 11 #[.int .i64 0] w fun e w' => e = .returned (.int .u64 1) ∧ w = w') := fun w => num_t 0 w
  have hfr : (⟨s.W, s.F, t, s.frs, s.trs, s.fuel, s.room, s.out, s.done, s.raised, s.result⟩ : Ms).frs = f :: fs := hf
  have hfl : s.frs.length = fs.length + 1 := by rw [hf]; rfl
  have hfn : fs.length + 1 ≤ 100000000 := by have := hw.2.1; omega
  by_cases hv : v.word = 1
  · simp only [hv, if_true, ok, Option.some.injEq, Prod.mk.injEq, true_and] at hd'
    subst hd'
    rw [hv] at HP
    clear h1 hw
    go_enter Tryd.func55, Tryd.ntmps55
    go_wp2_with fail
    refine HP.out.mono ?_
    rintro e w1 ⟨rfl, h2, hk2⟩
    have hx2 := (hk2.cell (p := ⟨wa0.heap.size, 1, none⟩) (by simp) (by show wa0.heap.size ≠ C.lo; omega)).trans hx
    have H2 := Lib.hid h2
    clear h2 hk2 hx HP
    go_wp2_with fail
    refine (HN0.out _).mono ?_
    rintro e w' ⟨rfl, rfl⟩
    obtain ⟨vfr, vst, vtr, vout, vdn, v1, v2, h2⟩ := H2.out
    have ho := h2.g.fr
    simp only [hfl] at ho
    obtain ⟨g, cap, rfl, hcap, hmax, _⟩ := own_some ho (by omega)
    have hall : ∀ nq, (w1.drewN nq).cell? ⟨wa0.heap.size, 1, none⟩ = some (.int .i64 n) ∧ (w1.drewN nq).cell? ⟨g, fs.length * 4 + 3, none⟩ = some (.int .i64 f.at_) ∧ (w1.drewN nq).frozen? ⟨g, fs.length * 4 + 3, none⟩ = false ∧ RunE C ((w1.drewN nq).setCell ⟨g, fs.length * 4 + 3, none⟩ (.int .i64 n)) ⟨s.W, s.F, t, { f with at_ := n } :: fs, s.trs, s.fuel, s.room, s.out, s.done, s.raised, s.result⟩ := by
      intro nq
      have h6 := h2.drewN nq
      obtain ⟨_, _, _, q3, q4⟩ := h6.frame hfr
      exact ⟨hx2, q3, q4 _, _, _, _, _, _, _, _, h6.goto hfr n⟩
    have HA := Lib.hid hall
    have c1 := h2.cells.2.1
    have c1' : w1.drew.cell? ⟨C.lo, 1, none⟩ = some (.slice (some ⟨g, 0, none⟩) (fs.length + 1) cap) := c1
    have HT := Lib.hid (top_t C.lo g fs.length cap w1.drew c1' (by omega))
    clear hall H2 h2 ho c1 c1' hs hf hfr hfl HN0
    generalize fs.length = m at *
    go_wp2_with fail
    go_region_law ((go_simp; go_at_call 44; refine HT.out.mono ?_; rintro e w' ⟨rfl, nq, rfl⟩; obtain ⟨y1, y2, y3, y4⟩ := HA.out (1 + nq); have Y4 := Lib.hid y4; clear y4))
    all_goals
      go_wp2_with fail
      refine bodyPost_ret (results_none rfl _ _ _) rfl ?_
      exact ⟨rfl, Y4.out⟩
  · simp only [if_neg hv, ok, Option.some.injEq, Prod.mk.injEq, true_and] at hd'
    subst hd'
    have hvz : ((v.word : Int) == 1) = false := by rw [beq_eq_false_iff_ne]; omega
    clear h1 hw
    generalize v.word = x at *
    go_enter Tryd.func55, Tryd.ntmps55
    go_wp2_with fail
    refine HP.out.mono ?_
    rintro e w1 ⟨rfl, h2, hk2⟩
    have H2 := Lib.hid h2
    clear h2 hk2 hx HP
    go_wp2_with fail
    refine (HN0.out _).mono ?_
    rintro e w' ⟨rfl, rfl⟩
    go_wp2_with fail
    refine bodyPost_ret (results_none rfl _ _ _) rfl ?_
    exact ⟨rfl, H2.out⟩
end Go.Proofs.YteenlckpjncgoaaDoor
