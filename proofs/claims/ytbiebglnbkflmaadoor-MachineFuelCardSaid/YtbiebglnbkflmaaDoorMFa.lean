/- MachineFuel: MacAA, MacAC, MacAD, MacAG, MacAI. -/
import Derived.Test.YtbiebglnbkflmaaDoorMacO
namespace Go.Proofs.YtbiebglnbkflmaaDoor
open Go.RowKit HeaM Ma

set_option maxHeartbeats 1000000 in
set_option maxRecDepth 100000 in
theorem dc_text (C : Cx) (n a : Int) (str : ByteArray) : DoC C ⟨1, n, a, str⟩ := by
  intro w s s' m f fs h hf hw hd
  have hd' : Ma.text C.m s str.data.toList = some (m, s') := hd
  have HP := Lib.hid (text_t' str (h.ins 1 n a str) rfl hd' (by have := hw.1; omega) (by have := hw.2.1; omega) (by have := hw.2.2.1; omega))
  clear h hf hw hd hd'
  go_enter Tryd.func32, Tryd.ntmps32
  go_wp2_with fail
  refine HP.out.mono ?_
  rintro e w' ⟨rfl, hw⟩
  have HW := Lib.hid hw
  clear hw
  go_wp2
  go_ret
  exact ⟨rfl, HW.out⟩

set_option maxHeartbeats 1000000 in
set_option maxRecDepth 100000 in
theorem dc_fail (C : Cx) (n a : Int) (str : ByteArray) : DoC C ⟨26, n, a, str⟩ := by
  intro w s s' m f fs h hf hw hd
  have hd' : Ma.raise C.m s str.data.toList = some (m, s') := hd
  have HP := Lib.hid (raise_t str (h.ins 26 n a str) rfl hd' (by have := hw.1; omega) (by have := hw.2.1; omega) (by have := hw.2.2.1; omega))
  clear h hf hw hd hd'
  go_enter Tryd.func32, Tryd.ntmps32
  go_wp2_with fail
  refine HP.out.mono ?_
  rintro e w' ⟨rfl, hw⟩
  have HW := Lib.hid hw
  clear hw
  go_wp2
  go_ret
  exact ⟨rfl, HW.out⟩

/-- What leads on, or leaves nothing new. -/
theorem do_lead {C : Cx} {s s' : Ms} {w : World} (op : Nat) (n a : Int) (str : ByteArray) (h : RunE C w s) (ho : op = 8 ∨ op = 12 ∨ op = 13 ∨ op = 18 ∨ op = 19 ∨ op = 24 ∨ op = 25)
    (hl : ∀ w, RunE C w s → Calls Tryd.prog 57 #[.pointer (some ⟨C.lo, 0, none⟩), .agg #[.int .u8 (op : Int), .int .i64 n, .int .i64 a, .string str]] w (VoidRun C s')) :
    Calls Tryd.prog 32 #[.pointer (some ⟨C.lo, 0, none⟩), .agg #[.int .u8 (op : Int), .int .i64 n, .int .i64 a, .string str]] w (OkRun C s' 0) := by
  have H1 := Lib.hid (hl _ (h.ins op n a str))
  clear h hl
  rcases ho with rfl | rfl | rfl | rfl | rfl | rfl | rfl
  all_goals
    go_enter Tryd.func32, Tryd.ntmps32
    go_wp2_with fail
    refine H1.out.mono ?_
    rintro e w' ⟨rfl, hw⟩
    have HW := Lib.hid hw
    clear hw
    go_wp2
    go_ret
    exact ⟨rfl, HW.out⟩

set_option maxHeartbeats 1000000 in
set_option maxRecDepth 100000 in
theorem dc_pop (C : Cx) (n a : Int) (str : ByteArray) : DoC C ⟨19, n, a, str⟩ := by
  intro w s s' m f fs h hf hw hd
  have hd' : (match s.stk with | _ :: t => ok { s with stk := t } | [] => none) = some (m, s') := hd
  rcases hs : s.stk with _ | ⟨v, t⟩
  · rw [hs] at hd'; cases hd'
  rw [hs] at hd'
  simp only [ok, Option.some.injEq, Prod.mk.injEq] at hd'
  obtain ⟨rfl, rfl⟩ := hd'
  refine do_lead 19 n a str h (by omega) fun w1 h1 => ?_
  have HP := Lib.hid (pop_t (h1.ins 19 n a str) hs (by have := hw.1; omega))
  clear h1 h hd
  go_enter Tryd.func57, Tryd.ntmps57
  go_wp2_with fail
  refine HP.out.mono ?_
  rintro e w' ⟨rfl, hw'⟩
  have HW := Lib.hid hw'
  clear hw'
  go_wp2
  refine bodyPost_ret (results_none rfl _ _ _) rfl ?_
  exact ⟨rfl, HW.out⟩

/-- A function's own stack. -/
theorem RunF.stkcell {C : Cx} {w : World} {s : Ms} {vfr vtr vout vdn v1 v2 : Value} {o : Option Addr} {k j : Nat} {v : V} (h : RunF C w s vfr (.slice o s.stk.length k) vtr vout vdn v1 v2) (hv : s.stk.reverse[j]? = some v) :
    ∃ g, o = some ⟨g, 0, none⟩ ∧ j < s.stk.length ∧ s.stk.length ≤ k ∧ k ≤ maxLen ∧ w.cell? ⟨g, j, none⟩ = some (.int .u64 (v.word : Int)) ∧ Rep s.W s.F v := by
  have hj : j < s.stk.length := by have := (List.getElem?_eq_some_iff.1 hv).1; rwa [List.length_reverse] at this
  obtain ⟨g, cap, hv1, hc, hm, _⟩ := own_some h.g.st (by omega)
  simp only [Value.slice.injEq, true_and] at hv1
  obtain ⟨rfl, rfl⟩ := hv1
  refine ⟨g, rfl, hj, hc, hm, ?_, h.g.rstk v (List.mem_reverse.1 (List.mem_of_getElem? hv))⟩
  rw [h.g.st.cellAt j (by omega)]
  unfold stkW Ws
  rw [List.getElem?_map, List.getElem?_map, hv]
  rfl

/-- A try begins. -/
theorem try_mem {C : Cx} {s : Ms} {n : Int} {w : World} {vfr vst vtr vout vdn v1 v2 : Value} (h : RunF C w s vfr vst vtr vout vdn v1 v2) (hf : s.trs.length ≤ 1000000000) :
    ∃ o c w2, (Builtin.append_ #[76, 76] 76 #[vtr, .slice (some ⟨w.heap.size, 0, none⟩) 1 1]).run Tryd.prog (w.alloc (.cells #[Value.int .i64 (s.frs.length : Int), .int .i64 n, .int .i64 (s.stk.length : Int)] 129)) = .ok (.slice o (s.trs.length + 1) c) w2 ∧
      w2.cell? ⟨C.lo, 3, none⟩ = some vtr ∧ w2.frozen? ⟨C.lo, 3, none⟩ = false ∧ RunE C (w2.setCell ⟨C.lo, 3, none⟩ (.slice o (s.trs.length + 1) c)) { s with trs := ⟨s.frs.length, n, s.stk.length⟩ :: s.trs } := by
  obtain ⟨v', w2, r2, o2, g2, a2⟩ := append_k (ty := 76) (t := 76) tryInfo Tryd.underlying76 rfl (by decide) (h.g.tr.alloc (.cells [Value.int .i64 (s.frs.length : Int), .int .i64 n, .int .i64 (s.stk.length : Int)].toArray 129)) rfl (cells_new w [Value.int .i64 (s.frs.length : Int), .int .i64 n, .int .i64 (s.stk.length : Int)] 129) (by intro u hu; simp at hu; rcases hu with rfl | rfl | rfl <;> rfl) (by omega) (by omega) (by have := h.g.lt; simp; omega)
  have hk : Kept (fun k => vtr.ownBlock = some k) w w2 := ((Kept.refl _ _).alloc _).grown g2 fun j hj => .inl hj
  have hlo : w2.heap[C.lo]? = w.heap[C.lo]? := hk.block _ h.g.lt (fun a => (own_tag h.g.tr _ a).ne h.g.rtag (by decide))
  have hG := h.g.tries (trs' := ⟨s.frs.length, n, s.stk.length⟩ :: s.trs) hk (by
    have e : CsTr (Tr.mk s.frs.length n s.stk.length :: s.trs).reverse = CsTr s.trs.reverse ++ [Value.int .i64 (s.frs.length : Int), .int .i64 n, .int .i64 (s.stk.length : Int)] := by
      simp [CsTr, trC]
    rw [e]; exact o2)
  have hF : RunE C (w2.setCell ⟨C.lo, 3, none⟩ v') { s with trs := ⟨s.frs.length, n, s.stk.length⟩ :: s.trs } := ⟨_, _, _, _, _, _, _, RunF.setR h.fit ⟨s, _, _, _, _, _, hlo.trans h.cell, rfl⟩ hG⟩
  obtain ⟨o, c, rfl, _⟩ := own_slice o2
  exact ⟨o, c, w2, r2, (World.cell?_of_block hlo).trans h.cells.2.2.2.1, (World.frozen?_of_block hlo).trans (h.free 3), hF⟩

/-- What is called, without a step left. -/
theorem call_spent {C : Cx} {s : Ms} {v f : V} {t : List V} {w : World} (h : RunE C w s) (hs : s.stk = v :: f :: t) (hn : s.stk.length ≤ 1000000000) (hf : s.fuel = 0) :
    Calls Tryd.prog 50 #[.pointer (some ⟨C.lo, 0, none⟩)] w (OkRun C { s with stk := t } 10) := by
  have H1 := Lib.hid (pop_t h hs hn)
  have H2 := Lib.hid fun (w : World) (h : RunE C w { s with stk := f :: t }) => pop_t h rfl (by show (f :: t).length ≤ _; rw [hs] at hn; simp only [List.length_cons] at hn ⊢; omega)
  have H3 := Lib.hid fun (w : World) (h : RunE C w { s with stk := t }) => step_no h hf
  clear h hs hf
  go_enter Tryd.func50, Tryd.ntmps50
  go_wp2_with fail
  refine H1.out.mono ?_
  rintro e w1 ⟨rfl, h1⟩
  have H4 := Lib.hid (H2.out _ h1)
  clear h1
  go_wp2_with fail
  refine H4.out.mono ?_
  rintro e w2 ⟨rfl, h2⟩
  have H5 := Lib.hid (H3.out _ h2)
  clear h2
  go_wp2_with fail
  refine H5.out.mono ?_
  rintro e w3 ⟨rfl, h3⟩
  have HW := Lib.hid h3
  clear h3
  go_wp2
  go_ret
  exact ⟨rfl, HW.out⟩


set_option maxHeartbeats 2000000 in
set_option maxRecDepth 100000 in
/-- A function of the machine is called. -/
theorem call_fn {C : Cx} {s : Ms} {v : V} {t : List V} {i n : Nat} {g : CodM.Fun} {w : World} (h : RunE C w s) (hs : s.stk = v :: .fn i n :: t) (hn : t.length + 3 * s.trs.length ≤ 67108864) (hfr : s.frs.length ≤ 1000000000) (hf : s.fuel ≠ 0) (hg : C.m.funs[n]? = some g) (hc : g.caps = 0) :
    Calls Tryd.prog 50 #[.pointer (some ⟨C.lo, 0, none⟩)] w (OkRun C { s with stk := v :: t, fuel := s.fuel - 1, frs := ⟨n, .fn i n, t.length, 0⟩ :: s.frs } 0) := by
  have hl : s.stk.length ≤ 1000000000 := by rw [hs]; simp only [List.length_cons]; omega
  have hrep : Rep s.W s.F (.fn i n) ∧ Rep s.W s.F v := by
    obtain ⟨_, _, _, _, _, _, _, h⟩ := h
    exact ⟨h.g.rstk _ (by rw [hs]; simp), h.g.rstk _ (by rw [hs]; simp)⟩
  have H1 := Lib.hid (pop_t h hs hl)
  have H2 := Lib.hid fun (w : World) (h : RunE C w { s with stk := .fn i n :: t }) => pop_t h rfl (by show (V.fn i n :: t).length ≤ _; rw [hs] at hl; simp only [List.length_cons] at hl ⊢; omega)
  have H3 := Lib.hid fun (w : World) (h : RunE C w { s with stk := t }) => step_yes h hf
  have hcells : ∀ w1, RunE C w1 { s with stk := t, fuel := s.fuel - 1 } → w1.cell? ⟨C.lo, 0, none⟩ = some (.pointer (some ⟨C.M, 0, none⟩)) ∧ w1.cell? ⟨C.M, 0, none⟩ = some (.pointer (some ⟨C.H, 0, none⟩)) ∧
      (Calls Tryd.prog 65 #[.pointer (some ⟨C.H, 0, none⟩), .int .u64 ((2 * i : Nat) : Int), .int .i64 0] w1 fun e w' => e = .returned (.tuple #[.int .u64 ((numW (n : Int) : Nat) : Int), .int .i64 0]) ∧ ∃ nq, w' = w1.drewN nq) ∧
      (Calls Tryd.prog 67 #[.pointer (some ⟨C.H, 0, none⟩), .int .u64 ((2 * i : Nat) : Int)] w1 fun e w' => e = .returned (.int .u8 5) ∧ ∃ nq, w' = w1.drewN nq) ∧
      (Calls Tryd.prog 69 #[.pointer (some ⟨C.H, 0, none⟩), .int .u64 ((2 * i : Nat) : Int)] w1 fun e w' => e = .returned (.int .i64 1) ∧ ∃ nq, w' = w1.drewN nq) ∧
      (∃ b off c, C.vf = .slice (some ⟨b, off, none⟩) C.m.funs.length c ∧ C.m.funs.length ≤ c ∧ c ≤ maxLen ∧ n < C.m.funs.length ∧ w1.cell? ⟨C.M, 1, none⟩ = some C.vf ∧ w1.cell? ⟨b, off + n * 2, none⟩ = some (.int .i64 0)) ∧
      (Calls Tryd.prog 31 #[.pointer (some ⟨C.lo, 0, none⟩), .int .i64 (n : Int), .int .u64 ((2 * i : Nat) : Int), .int .u64 (v.word : Int)] w1 (OkRun C { s with stk := v :: t, fuel := s.fuel - 1, frs := ⟨n, .fn i n, t.length, 0⟩ :: s.frs } 0)) := by
    intro w1 hE
    have hE' := hE
    obtain ⟨_, _, _, _, _, _, _, h1⟩ := hE
    have hW : s.W.length ≤ 1048576 := Nat.le_trans h1.g.wl h1.fit.q
    obtain ⟨hf1, _, _⟩ := h1.fit.stat w1 h1.g.kept
    refine ⟨h1.cells.1, h1.mach.1, part_ob w1 h1.g.heap h1.g.len hW hrep.1.1 (by decide) hrep.1.2.1, kind_v w1 h1.g.heap h1.g.len hW hrep.1 (v := .fn i n) rfl, len_v w1 h1.g.heap h1.g.len hW hrep.1 (v := .fn i n) rfl rfl, ?_, enter_t hE' hrep.1 hrep.2 rfl rfl hn hfr⟩
    have hk := (List.getElem?_eq_some_iff.1 hg).1
    rcases hf1 with ⟨o, c, _, hnil⟩ | ⟨b, off, c, e, hl, hc2, hm, hC⟩
    · rw [hnil] at hk; simp at hk
    · exact ⟨b, off, c, e, hc2, hm, hk, h1.mach.2.1, by rw [(hC n g hg).1, hc]⟩
  have HC := Lib.hid hcells
  have hni : n ≤ 1000000 := hrep.1.2.2
  have HNN : Hid (∀ w : World, Calls Tryd.prog 68 #[.int .u64 ((numW (n : Int) : Nat) : Int)] w fun e w' => e = .returned (.int .i64 (n : Int)) ∧ w = w') := fun w => n_v (n : Int) (numW (n : Int)) w rfl (by omega) (by omega)
  have HNI : Hid (∀ w : World, Calls Tryd.prog 58 #[.int .u64 ((numW (n : Int) : Nat) : Int)] w fun e w' => e = .returned (.bool true) ∧ w = w') := fun w => isnum_v (.num (n : Int)) (numW (n : Int)) w rfl (numW_lt _)
  have hwf : (V.fn i n).word = 2 * i := rfl
  rw [hwf] at H2
  clear h hs hcells hrep hg hc hwf hf
  generalize numW (n : Int) = X at *
  generalize v.word = Y at *
  go_enter Tryd.func50, Tryd.ntmps50
  go_wp2_with fail
  refine H1.out.mono ?_
  rintro e w1 ⟨rfl, h1⟩
  have H4 := Lib.hid (H2.out _ h1)
  clear h1
  go_wp2_with fail
  refine H4.out.mono ?_
  rintro e w2 ⟨rfl, h2⟩
  have H5 := Lib.hid (H3.out _ h2)
  clear h2
  go_wp2_with fail
  refine H5.out.mono ?_
  rintro e w3 ⟨rfl, h3⟩
  have HE3 := Lib.hid h3
  clear h3
  obtain ⟨x0, x1, hPa, hKi, hLe, ⟨b, off, c, e5, hc5, hm5, hn5, x5, x6⟩, hEn⟩ := HC.out _ HE3.out
  have HPA := Lib.hid hPa
  clear hPa hKi hLe hEn
  go_wp2_with fail
  refine HPA.out.mono ?_
  rintro e w4 ⟨rfl, nq, rfl⟩
  have HE4 : Hid (RunE C (w3.drewN nq) { s with stk := t, fuel := s.fuel - 1 }) := HE3.out.drewN nq
  clear x0 x1 x5 x6 HPA HE3
  generalize w3.drewN nq = w4 at *
  obtain ⟨x0, x1, hPa, hKi, hLe, ⟨b', off', c', e5', hc5', hm5', hn5', x5, x6⟩, hEn⟩ := HC.out _ HE4.out
  rw [e5'] at x5
  have HKI := Lib.hid hKi
  clear hPa hKi hLe hEn e5
  go_wp2_with fail
  refine (HNI.out _).mono ?_
  rintro e w5 ⟨rfl, rfl⟩
  go_wp2_with fail
  refine HKI.out.mono ?_
  rintro e w5 ⟨rfl, nq5, rfl⟩
  have HE5 : Hid (RunE C (w4.drewN nq5) { s with stk := t, fuel := s.fuel - 1 }) := HE4.out.drewN nq5
  clear x0 x1 x5 x6 HKI HE4
  generalize w4.drewN nq5 = w5 at *
  obtain ⟨x0, x1, hPa, hKi, hLe, ⟨b6, off6, c6, e6, hc6, hm6, hn6, x5, x6⟩, hEn⟩ := HC.out _ HE5.out
  rw [e6] at x5
  have HLQ : Hid (∀ nq, Calls Tryd.prog 69 #[.pointer (some ⟨C.H, 0, none⟩), .int .u64 (2 * (i : Int))] (w5.drewN nq) fun e w' => e = .returned (.int .i64 1) ∧ ∃ mq, w' = w5.drewN mq) := fun nq => (HC.out _ (HE5.out.drewN nq)).2.2.2.2.1.mono fun e w' ⟨h1, mq, h2⟩ => ⟨h1, nq + mq, by rw [h2]; simp [World.drewN, Nat.add_assoc]⟩
  have hn7 : (n : Int) < (C.m.funs.length : Int) := by omega
  have hn8 : ¬ (n : Int) < 0 := by omega
  have w00 : (IntKind.i64.wrap 0 != 0) = false := by decide
  have hnl : ¬ C.m.funs.length ≤ n := by omega
  have d7 : decide ((C.m.funs.length : Int) ≤ (n : Int)) = false := by rw [decide_eq_false_iff_not]; omega
  have d8 : decide ((n : Int) < 0) = false := by rw [decide_eq_false_iff_not]; omega
  unfold maxLen at hm6
  clear hPa hKi hLe hEn e5' hc5' hm5' hn5'
  go_wp2_with fail
  go_quiet (first
    | (go_at_call 68; exact Calls.quiet_of_same ((HNN.out _).mono fun _ _ h => ⟨h.1, h.2.symm⟩))
    | (go_at_call 69; exact HLQ.out _))
  have HEN := Lib.hid (HC.out _ (HE5.out.drewN nq)).2.2.2.2.2.2
  generalize w5.drewN nq = w6 at *
  go_wp2_with fail
  refine (HNN.out _).mono ?_
  rintro e w7 ⟨rfl, rfl⟩
  go_wp2_with fail
  refine HEN.out.mono ?_
  rintro e w' ⟨rfl, hw⟩
  have HW := Lib.hid hw
  clear hw
  go_wp2
  go_ret
  exact ⟨rfl, HW.out⟩

theorem RunE.insc {C : Cx} {w : World} {s : Ms} (h : RunE C w s) (op : Int) (n a : Int) (str : ByteArray) : C.lo < w.heap.size ∧ (w.alloc (.cells #[.int .u8 op, .int .i64 n, .int .i64 a, .string str] 34)).cell? ⟨w.heap.size, 1, none⟩ = some (.int .i64 n) :=
  ⟨h.lt, (cell_of_row _ w.heap.size 1 _ _ (0, 0) (heap_alloc_new w _)).trans rfl⟩

set_option maxHeartbeats 2000000 in
set_option maxRecDepth 100000 in
theorem dc_false (C : Cx) (n a : Int) (str : ByteArray) : DoC C ⟨13, n, a, str⟩ := by
  intro w s s' m f fs h hf hw hd
  have hd' : (match s.stk with | v :: t => if v.word = 1 then ok { s with stk := t, frs := { f with at_ := n } :: fs } else ok { s with stk := t } | [] => none) = some (m, s') := hd
  rcases hs : s.stk with _ | ⟨v, t⟩
  · rw [hs] at hd'; cases hd'
  rw [hs] at hd'
  have hm : m = 0 := by
    by_cases h1 : v.word = 1
    · simp only [h1, if_true, ok, Option.some.injEq, Prod.mk.injEq] at hd'; exact hd'.1.symm
    · simp only [if_neg h1, ok, Option.some.injEq, Prod.mk.injEq] at hd'; exact hd'.1.symm
  subst hm
  refine do_lead 13 n a str h (by omega) fun wa0 h1 => ?_
  clear h hd
  obtain ⟨hlt, hx⟩ := h1.insc 13 n a str
  have HP := Lib.hid (pop_k (h1.ins 13 n a str) hs (by have := hw.1; omega))
  have HN0 : Hid (∀ w : World, Calls Tryd.prog 12 #[.int .i64 0] w fun e w' => e = .returned (.int .u64 1) ∧ w = w') := fun w => num_t 0 w
  have hfr : (⟨s.W, s.F, t, s.frs, s.trs, s.fuel, s.room, s.out, s.done, s.raised, s.result⟩ : Ms).frs = f :: fs := hf
  have hfl : s.frs.length = fs.length + 1 := by rw [hf]; rfl
  have hfn : fs.length + 1 ≤ 100000000 := by have := hw.2.1; omega
  by_cases hv : v.word = 1
  · simp only [hv, if_true, ok, Option.some.injEq, Prod.mk.injEq, true_and] at hd'
    subst hd'
    rw [hv] at HP
    clear h1 hw
    go_enter Tryd.func57, Tryd.ntmps57
    go_wp2_with fail
    refine HP.out.mono ?_
    rintro e w1 ⟨rfl, h2, hk2⟩
    have hx2 := (hk2.cell (p := ⟨wa0.heap.size, 1, none⟩) (by simp) (by show wa0.heap.size ≠ C.lo; omega)).trans hx
    have H2 := Lib.hid h2
    clear h2 hk2 hx HP
    go_wp2_with fail
    refine (HN0.out _).mono ?_
    rintro e w' ⟨rfl, rfl⟩
    obtain ⟨vfr, vst, vtr, vout, vdn, v1, v2, h2⟩ := H2.out
    have ho := h2.g.fr
    simp only [hfl] at ho
    obtain ⟨g, cap, rfl, hcap, hmax, _⟩ := own_some ho (by omega)
    have hall : ∀ nq, (w1.drewN nq).cell? ⟨wa0.heap.size, 1, none⟩ = some (.int .i64 n) ∧ (w1.drewN nq).cell? ⟨g, fs.length * 4 + 3, none⟩ = some (.int .i64 f.at_) ∧ (w1.drewN nq).frozen? ⟨g, fs.length * 4 + 3, none⟩ = false ∧ RunE C ((w1.drewN nq).setCell ⟨g, fs.length * 4 + 3, none⟩ (.int .i64 n)) ⟨s.W, s.F, t, { f with at_ := n } :: fs, s.trs, s.fuel, s.room, s.out, s.done, s.raised, s.result⟩ := by
      intro nq
      have h6 := h2.drewN nq
      obtain ⟨_, _, _, q3, q4⟩ := h6.frame hfr
      exact ⟨hx2, q3, q4 _, _, _, _, _, _, _, _, h6.goto hfr n⟩
    have HA := Lib.hid hall
    have c1 := h2.cells.2.1
    have c1' : w1.drew.cell? ⟨C.lo, 1, none⟩ = some (.slice (some ⟨g, 0, none⟩) (fs.length + 1) cap) := c1
    have HT := Lib.hid (top_t C.lo g fs.length cap w1.drew c1' (by omega))
    clear hall H2 h2 ho c1 c1' hs hf hfr hfl HN0
    generalize fs.length = m at *
    go_wp2_with fail
    go_region_law ((go_simp; go_at_call 46; refine HT.out.mono ?_; rintro e w' ⟨rfl, nq, rfl⟩; obtain ⟨y1, y2, y3, y4⟩ := HA.out (1 + nq); have Y4 := Lib.hid y4; clear y4))
    all_goals
      go_wp2_with fail
      refine bodyPost_ret (results_none rfl _ _ _) rfl ?_
      exact ⟨rfl, Y4.out⟩
  · simp only [if_neg hv, ok, Option.some.injEq, Prod.mk.injEq, true_and] at hd'
    subst hd'
    have hvz : ((v.word : Int) == 1) = false := by rw [beq_eq_false_iff_ne]; omega
    clear h1 hw
    generalize v.word = x at *
    go_enter Tryd.func57, Tryd.ntmps57
    go_wp2_with fail
    refine HP.out.mono ?_
    rintro e w1 ⟨rfl, h2, hk2⟩
    have H2 := Lib.hid h2
    clear h2 hk2 hx HP
    go_wp2_with fail
    refine (HN0.out _).mono ?_
    rintro e w' ⟨rfl, rfl⟩
    go_wp2_with fail
    refine bodyPost_ret (results_none rfl _ _ _) rfl ?_
    exact ⟨rfl, H2.out⟩

set_option maxHeartbeats 2000000 in
set_option maxRecDepth 100000 in
theorem dc_local (C : Cx) (n a : Int) (str : ByteArray) : DoC C ⟨2, n, a, str⟩ := by
  intro w s s' m f fs h hf hw hd
  have hd' : (if 0 ≤ n ∧ n ≤ 100000000 then match s.stk.reverse[f.base + n.toNat]? with | some v => ok (push s v) | none => none else none) = some (m, s') := hd
  by_cases hn : 0 ≤ n ∧ n ≤ 100000000
  case neg => rw [if_neg hn] at hd'; cases hd'
  rw [if_pos hn] at hd'
  rcases hv : s.stk.reverse[f.base + n.toNat]? with _ | v
  · rw [hv] at hd'; cases hd'
  rw [hv] at hd'
  simp only [ok, Option.some.injEq, Prod.mk.injEq] at hd'
  obtain ⟨rfl, rfl⟩ := hd'
  have h0 := h.ins 2 n a str
  obtain ⟨k, rfl⟩ : ∃ k : Nat, n = (k : Int) := ⟨n.toNat, by omega⟩
  rw [Int.toNat_natCast] at hv
  obtain ⟨vfr, vst, vtr, vout, vdn, v1, v2, h1⟩ := h0
  have ho := h1.g.fr
  have hfl : s.frs.length = fs.length + 1 := by rw [hf]; rfl
  simp only [hfl] at ho
  obtain ⟨g, cap, rfl, hcap, hmax, _⟩ := own_some ho (by omega)
  obtain ⟨o2, k2, rfl, hk2, hm2⟩ := own_slice h1.g.st
  obtain ⟨g2, rfl, hj, hj2, hj3, hx, hrep⟩ := h1.stkcell hv
  have hP := fun (W : World) (hW : RunE C W s) => push_t (v := v) hW hrep (Lib.hid rfl) (by have := hw.1; omega)
  have HP := Lib.hid hP
  have hfn : fs.length + 1 ≤ 100000000 := by have := hw.2.1; omega
  have hsl := hw.1
  have hall : ∀ nq, ((w.alloc (.cells #[.int .u8 2, .int .i64 (k : Int), .int .i64 a, .string str] 34)).drewN nq).cell? ⟨g, fs.length * 4 + 2, none⟩ = some (.int .i64 (f.base : Int)) ∧ ((w.alloc (.cells #[.int .u8 2, .int .i64 (k : Int), .int .i64 a, .string str] 34)).drewN nq).cell? ⟨C.lo, 2, none⟩ = some (.slice (some ⟨g2, 0, none⟩) s.stk.length k2) ∧ ((w.alloc (.cells #[.int .u8 2, .int .i64 (k : Int), .int .i64 a, .string str] 34)).drewN nq).cell? ⟨g2, f.base + k, none⟩ = some (.int .u64 (v.word : Int)) ∧ RunE C ((w.alloc (.cells #[.int .u8 2, .int .i64 (k : Int), .int .i64 a, .string str] 34)).drewN nq) s ∧
      Calls Tryd.prog 46 #[.pointer (some ⟨C.lo, 0, none⟩)] ((w.alloc (.cells #[.int .u8 2, .int .i64 (k : Int), .int .i64 a, .string str] 34)).drewN nq) fun e w' => e = .returned (.pointer (some ⟨g, fs.length * 4, none⟩)) ∧ ∃ mq, w' = ((w.alloc (.cells #[.int .u8 2, .int .i64 (k : Int), .int .i64 a, .string str] 34)).drewN nq).drewN mq := by
    intro nq
    have h6 := h1.drewN nq
    obtain ⟨_, _, q2, _, _⟩ := h6.frame hf
    exact ⟨q2, h6.cells.2.2.1, hx, ⟨_, _, _, _, _, _, _, h6⟩, top_t C.lo g fs.length cap _ h6.cells.2.1 (by omega)⟩
  have HA := Lib.hid hall
  have HX : Hid ((w.alloc (.cells #[.int .u8 2, .int .i64 (k : Int), .int .i64 a, .string str] 34)).cell? ⟨w.heap.size, 1, none⟩ = some (.int .i64 (k : Int))) := (cell_of_row _ w.heap.size 1 _ _ (0, 0) (heap_alloc_new w _)).trans rfl
  clear hall h h1 ho hd hv hf hP hx hrep hw
  unfold maxLen at hj3 hmax
  generalize fs.length = m at *
  generalize s.stk.length = L at *
  generalize f.base = B at *
  go_enter Tryd.func32, Tryd.ntmps32
  go_wp2_with fail
  generalize (w.alloc (.cells #[.int .u8 2, .int .i64 (k : Int), .int .i64 a, .string str] 34)) = w0 at *
  have hx1 : ∀ nq, (w0.drewN nq).cell? ⟨w.heap.size, 1, none⟩ = some (.int .i64 (k : Int)) := fun nq => HX.out
  have hki : (k : Int) ≤ 100000000 := hn.2
  have hBk : (B : Int) + (k : Int) < (L : Int) := by omega
  have hLi : (L : Int) ≤ 100000000 := by omega
  have hb0 : (0 : Int) ≤ (B : Int) + (k : Int) := by omega
  have ht0 : ((B : Int) + (k : Int)).toNat = B + k := by omega
  have ew : IntKind.i64.wrap ((B : Int) + (k : Int)) = (B : Int) + (k : Int) := IntWalk.i64_in _ (by omega)
  have ew2 : IntKind.i64.wrap (k : Int) = (k : Int) := IntWalk.i64_in _ (by omega)
  obtain ⟨z1, z2, z3, _, _⟩ := HA.out 0
  have z6 := hx1 0
  change w0.cell? _ = _ at z1 z2 z3 z6
  have HT : Hid (Calls Tryd.prog 46 #[.pointer (some ⟨C.lo, 0, none⟩)] w0.drew fun e w' => e = .returned (.pointer (some ⟨g, m * 4, none⟩)) ∧ ∃ mq, w' = w0.drew.drewN mq) := (HA.out 1).2.2.2.2
  clear hx1 HX
  go_region_law ((go_simp; first | (go_at_call 46; refine HT.out.mono ?_; rintro e w' ⟨rfl, nq, rfl⟩; have Y4 := Lib.hid (HA.out (1 + nq)).2.2.2.1) | (go_at_call 43; refine (HP.out _ Y4.out).mono ?_; rintro e w' ⟨rfl, hw⟩; have HW := Lib.hid hw; clear hw)))
  all_goals
    go_wp2_with fail
    go_ret
    exact ⟨rfl, HW.out⟩

set_option maxHeartbeats 2000000 in
set_option maxRecDepth 100000 in
theorem self_t {C : Cx} {s : Ms} {f : Fr} {fs : List Fr} {w : World} (h : RunE C w s) (hs : s.frs = f :: fs) (hv : f.self.isNum = false) (hn : s.stk.length ≤ 1000000000) (hfn : s.frs.length ≤ 100000000) :
    Calls Tryd.prog 48 #[.pointer (some ⟨C.lo, 0, none⟩)] w (OkRun C (push s f.self) 0) := by
  have hE := h
  obtain ⟨vfr, vst, vtr, vout, vdn, v1, v2, h⟩ := h
  have ho := h.g.fr
  have hfl : s.frs.length = fs.length + 1 := by rw [hs]; rfl
  simp only [hfl] at ho
  obtain ⟨g, cap, rfl, hcap, hmax, _⟩ := own_some ho (by omega)
  obtain ⟨_, q1, _, _, _⟩ := h.frame hs
  have hrep : Rep s.W s.F f.self := h.g.rfrs f (by rw [hs]; exact List.mem_cons_self)
  have HP := Lib.hid fun (W : World) (hW : RunE C W s) => push_t (v := f.self) hW hrep (Lib.hid rfl) hn
  have HT := Lib.hid (top_t C.lo g fs.length cap w h.cells.2.1 (by omega))
  have HI : Hid (∀ W : World, Calls Tryd.prog 58 #[.int .u64 (f.self.word : Int)] W fun e w' => e = .returned (.bool false) ∧ W = w') := fun W => (isnum_v f.self f.self.word W rfl (word_lt hrep (Nat.le_trans h.g.wl h.fit.q))).mono fun e w' ⟨h1, h2⟩ => ⟨by rw [h1, hv], h2⟩
  have HE := Lib.hid fun nq => RunE.drewN hE nq
  clear h hE hs hrep ho hv
  generalize f.self.word = X at *
  generalize fs.length = m at *
  go_enter Tryd.func48, Tryd.ntmps48
  go_wp2_with fail
  refine HT.out.mono ?_
  rintro e w' ⟨rfl, nq, rfl⟩
  have HEQ := Lib.hid (HE.out nq)
  have q1' : (w.drewN nq).cell? ⟨g, m * 4 + 1, none⟩ = some (.int .u64 (X : Int)) := q1
  clear q1
  generalize w.drewN nq = w2 at *
  go_wp2_with fail
  refine (HI.out _).mono ?_
  rintro e w' ⟨rfl, rfl⟩
  go_wp2_with fail
  refine (HP.out _ HEQ.out).mono ?_
  rintro e w' ⟨rfl, hw⟩
  have HW := Lib.hid hw
  clear hw
  go_wp2
  go_ret
  exact ⟨rfl, HW.out⟩

set_option maxHeartbeats 2000000 in
set_option maxRecDepth 100000 in
theorem dc_self (C : Cx) (n a : Int) (str : ByteArray) : DoC C ⟨4, n, a, str⟩ := by
  intro w s s' m f fs h hf hw hd
  have hd' : (match f.self with | .num _ => none | v => ok (push s v)) = some (m, s') := hd
  have hv : f.self.isNum = false ∧ s' = push s f.self ∧ m = 0 := by
    rcases hx : f.self with x | ⟨i, l⟩ | ⟨i, g⟩ | ⟨i, p⟩
    · rw [hx] at hd'; cases hd'
    all_goals
      rw [hx] at hd'
      simp only [ok, Option.some.injEq, Prod.mk.injEq] at hd'
      exact ⟨rfl, hd'.2.symm, hd'.1.symm⟩
  obtain ⟨hv, rfl, rfl⟩ := hv
  have HP := Lib.hid (self_t (h.ins 4 n a str) hf hv (by have := hw.1; omega) (by have := hw.2.1; omega))
  clear h hf hw hd hd' hv
  go_enter Tryd.func32, Tryd.ntmps32
  go_wp2_with fail
  refine HP.out.mono ?_
  rintro e w' ⟨rfl, hw⟩
  have HW := Lib.hid hw
  clear hw
  go_wp2
  go_ret
  exact ⟨rfl, HW.out⟩
end Go.Proofs.YtbiebglnbkflmaaDoor
