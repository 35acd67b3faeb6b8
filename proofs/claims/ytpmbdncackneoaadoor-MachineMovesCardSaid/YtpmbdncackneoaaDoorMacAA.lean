/- More instructions: texts, exceptions, globals, what leads on. -/
import Derived.Test.YtpmbdncackneoaaDoorMacO
namespace Go.Proofs.YtpmbdncackneoaaDoor
open Go.RowKit HeaM Ma

set_option maxHeartbeats 1000000 in
set_option maxRecDepth 100000 in
theorem dc_text (C : Cx) (n a : Int) (str : ByteArray) : DoC C ⟨1, n, a, str⟩ := by
  intro w s s' m f fs h hf hw hd
  have hd' : Ma.text C.m s str.data.toList = some (m, s') := hd
  have HP := Lib.hid (text_t' str (h.ins 1 n a str) rfl hd' (by have := hw.1; omega) (by have := hw.2.1; omega) (by have := hw.2.2.1; omega))
  clear h hf hw hd hd'
  go_enter Tryd.func20, Tryd.ntmps20
  go_wp2_with fail
  refine HP.out.mono ?_
  rintro e w' ⟨rfl, hw⟩
  have HW := Lib.hid hw
  clear hw
  go_wp2
  go_ret
  exact ⟨rfl, HW.out⟩

set_option maxHeartbeats 1000000 in
set_option maxRecDepth 100000 in
theorem dc_fail (C : Cx) (n a : Int) (str : ByteArray) : DoC C ⟨26, n, a, str⟩ := by
  intro w s s' m f fs h hf hw hd
  have hd' : Ma.raise C.m s str.data.toList = some (m, s') := hd
  have HP := Lib.hid (raise_t str (h.ins 26 n a str) rfl hd' (by have := hw.1; omega) (by have := hw.2.1; omega) (by have := hw.2.2.1; omega))
  clear h hf hw hd hd'
  go_enter Tryd.func20, Tryd.ntmps20
  go_wp2_with fail
  refine HP.out.mono ?_
  rintro e w' ⟨rfl, hw⟩
  have HW := Lib.hid hw
  clear hw
  go_wp2
  go_ret
  exact ⟨rfl, HW.out⟩

/-- What leads on, or leaves nothing new. -/
theorem do_lead {C : Cx} {s s' : Ms} {w : World} (op : Nat) (n a : Int) (str : ByteArray) (h : RunE C w s) (ho : op = 8 ∨ op = 12 ∨ op = 13 ∨ op = 18 ∨ op = 19 ∨ op = 24 ∨ op = 25)
    (hl : ∀ w, RunE C w s → Calls Tryd.prog 44 #[.pointer (some ⟨C.lo, 0, none⟩), .agg #[.int .u8 (op : Int), .int .i64 n, .int .i64 a, .string str]] w (VoidRun C s')) :
    Calls Tryd.prog 20 #[.pointer (some ⟨C.lo, 0, none⟩), .agg #[.int .u8 (op : Int), .int .i64 n, .int .i64 a, .string str]] w (OkRun C s' 0) := by
  have H1 := Lib.hid (hl _ (h.ins op n a str))
  clear h hl
  rcases ho with rfl | rfl | rfl | rfl | rfl | rfl | rfl
  all_goals
    go_enter Tryd.func20, Tryd.ntmps20
    go_wp2_with fail
    refine H1.out.mono ?_
    rintro e w' ⟨rfl, hw⟩
    have HW := Lib.hid hw
    clear hw
    go_wp2
    go_ret
    exact ⟨rfl, HW.out⟩

set_option maxHeartbeats 1000000 in
set_option maxRecDepth 100000 in
theorem dc_pop (C : Cx) (n a : Int) (str : ByteArray) : DoC C ⟨19, n, a, str⟩ := by
  intro w s s' m f fs h hf hw hd
  have hd' : (match s.stk with | _ :: t => ok { s with stk := t } | [] => none) = some (m, s') := hd
  rcases hs : s.stk with _ | ⟨v, t⟩
  · rw [hs] at hd'; cases hd'
  rw [hs] at hd'
  simp only [ok, Option.some.injEq, Prod.mk.injEq] at hd'
  obtain ⟨rfl, rfl⟩ := hd'
  refine do_lead 19 n a str h (by omega) fun w1 h1 => ?_
  have HP := Lib.hid (pop_t (h1.ins 19 n a str) hs (by have := hw.1; omega))
  clear h1 h hd
  go_enter Tryd.func44, Tryd.ntmps44
  go_wp2_with fail
  refine HP.out.mono ?_
  rintro e w' ⟨rfl, hw'⟩
  have HW := Lib.hid hw'
  clear hw'
  go_wp2
  refine bodyPost_ret (results_none rfl _ _ _) rfl ?_
  exact ⟨rfl, HW.out⟩

/-- A function's own stack. -/
theorem RunF.stkcell {C : Cx} {w : World} {s : Ms} {vfr vtr vout vdn v1 v2 : Value} {o : Option Addr} {k j : Nat} {v : V} (h : RunF C w s vfr (.slice o s.stk.length k) vtr vout vdn v1 v2) (hv : s.stk.reverse[j]? = some v) :
    ∃ g, o = some ⟨g, 0, none⟩ ∧ j < s.stk.length ∧ s.stk.length ≤ k ∧ k ≤ maxLen ∧ w.cell? ⟨g, j, none⟩ = some (.int .u64 (v.word : Int)) ∧ Rep s.W s.F v := by
  have hj : j < s.stk.length := by have := (List.getElem?_eq_some_iff.1 hv).1; rwa [List.length_reverse] at this
  obtain ⟨g, cap, hv1, hc, hm, _⟩ := own_some h.g.st (by omega)
  simp only [Value.slice.injEq, true_and] at hv1
  obtain ⟨rfl, rfl⟩ := hv1
  refine ⟨g, rfl, hj, hc, hm, ?_, h.g.rstk v (List.mem_reverse.1 (List.mem_of_getElem? hv))⟩
  rw [h.g.st.cellAt j (by omega)]
  unfold stkW Ws
  rw [List.getElem?_map, List.getElem?_map, hv]
  rfl

/-- A try begins. -/
theorem try_mem {C : Cx} {s : Ms} {n : Int} {w : World} {vfr vst vtr vout vdn v1 v2 : Value} (h : RunF C w s vfr vst vtr vout vdn v1 v2) (hf : s.trs.length ≤ 1000000000) :
    ∃ o c w2, (Builtin.append_ #[63, 63] 63 #[vtr, .slice (some ⟨w.heap.size, 0, none⟩) 1 1]).run Tryd.prog (w.alloc (.cells #[Value.int .i64 (s.frs.length : Int), .int .i64 n, .int .i64 (s.stk.length : Int)] 117)) = .ok (.slice o (s.trs.length + 1) c) w2 ∧
      w2.cell? ⟨C.lo, 3, none⟩ = some vtr ∧ w2.frozen? ⟨C.lo, 3, none⟩ = false ∧ RunE C (w2.setCell ⟨C.lo, 3, none⟩ (.slice o (s.trs.length + 1) c)) { s with trs := ⟨s.frs.length, n, s.stk.length⟩ :: s.trs } := by
  obtain ⟨v', w2, r2, o2, g2, a2⟩ := append_k (ty := 63) (t := 63) tryInfo Tryd.underlying63 rfl (by decide) (h.g.tr.alloc (.cells [Value.int .i64 (s.frs.length : Int), .int .i64 n, .int .i64 (s.stk.length : Int)].toArray 117)) rfl (cells_new w [Value.int .i64 (s.frs.length : Int), .int .i64 n, .int .i64 (s.stk.length : Int)] 117) (by intro u hu; simp at hu; rcases hu with rfl | rfl | rfl <;> rfl) (by omega) (by omega) (by have := h.g.lt; simp; omega)
  have hk : Kept (fun k => vtr.ownBlock = some k) w w2 := ((Kept.refl _ _).alloc _).grown g2 fun j hj => .inl hj
  have hlo : w2.heap[C.lo]? = w.heap[C.lo]? := hk.block _ h.g.lt (fun a => (own_tag h.g.tr _ a).ne h.g.rtag (by decide))
  have hG := h.g.tries (trs' := ⟨s.frs.length, n, s.stk.length⟩ :: s.trs) hk (by
    have e : CsTr (Tr.mk s.frs.length n s.stk.length :: s.trs).reverse = CsTr s.trs.reverse ++ [Value.int .i64 (s.frs.length : Int), .int .i64 n, .int .i64 (s.stk.length : Int)] := by
      simp [CsTr, trC]
    rw [e]; exact o2)
  have hF : RunE C (w2.setCell ⟨C.lo, 3, none⟩ v') { s with trs := ⟨s.frs.length, n, s.stk.length⟩ :: s.trs } := ⟨_, _, _, _, _, _, _, RunF.setR h.fit ⟨s, _, _, _, _, _, hlo.trans h.cell, rfl⟩ hG⟩
  obtain ⟨o, c, rfl, _⟩ := own_slice o2
  exact ⟨o, c, w2, r2, (World.cell?_of_block hlo).trans h.cells.2.2.2.1, (World.frozen?_of_block hlo).trans (h.free 3), hF⟩
end Go.Proofs.YtpmbdncackneoaaDoor
