/- The small calls of an execution: push, pop, top, answer, truth, step. -/
import Derived.Test.YtpmbdncackneoaaDoorMacA
import Derived.Test.YtpmbdncackneoaaDoorMacB
namespace Go.Proofs.YtpmbdncackneoaaDoor
open Go.RowKit HeaM Ma

def VoidRun (C : Cx) (s : Ms) (e : Ending) (w' : World) : Prop := e = .returned (.tuple #[]) ∧ RunE C w' s
def OkRun (C : Cx) (s : Ms) (n : Nat) (e : Ending) (w' : World) : Prop := e = .returned (.int .i64 (n : Int)) ∧ RunE C w' s

set_option maxHeartbeats 1000000 in
set_option maxRecDepth 100000 in
theorem push_t {C : Cx} {s : Ms} {v : V} {x : Nat} {w : World} (h : RunE C w s) (hv : Rep s.W s.F v) (hx : Hid (v.word = x)) (hn : s.stk.length ≤ 1000000000) :
    Calls Tryd.prog 30 #[.pointer (some ⟨C.lo, 0, none⟩), .int .u64 (x : Int)] w (VoidRun C (push s v)) := by
  obtain ⟨vfr, vst, vtr, vout, vdn, v1, v2, h⟩ := h
  obtain ⟨v', w2, r2, o2, g2, a2⟩ := append_one (ty := 52) (t := 52) wordInfo Tryd.underlying52 rfl (h.g.st.alloc (.cells #[.int .u64 (x : Int)] 31)) (RdV.lit w (.int .u64 (x : Int)) 31) (by intro u hu; simp at hu; subst hu; rfl) (by simp; omega) (by simp; omega) (by have := h.g.lt; simp; omega)
  simp only [List.length_singleton] at r2 o2 a2
  have hk : Kept (fun k => vst.ownBlock = some k) w w2 := ((Kept.refl _ _).alloc _).grown g2 fun j hj => .inl hj
  have hlo : w2.heap[C.lo]? = w.heap[C.lo]? := hk.block _ h.g.lt (fun a => (own_tag h.g.st _ a).ne h.g.rtag (by decide))
  have hG := h.g.stack (stk' := v :: s.stk) hk (by rw [stkW_cons, hx.out]; exact o2) (fun k hk => by
    rcases a2 with a2 | a2
    · exact .inl (a2 ▸ hk)
    · rw [a2] at hk; injection hk with hk; right; rw [← hk]; simp) (fun u hu => by
    rcases List.mem_cons.1 hu with rfl | hu
    · exact hv
    · exact h.g.rstk u hu)
  have hF : RunE C (w2.setCell ⟨C.lo, 2, none⟩ v') (push s v) := ⟨_, _, _, _, _, _, _, RunF.setR h.fit ⟨s, _, _, _, _, _, hlo.trans h.cell, rfl⟩ hG⟩
  have FIN := Lib.hid hF
  have c2 := h.cells.2.2.1
  have d2 : w2.cell? ⟨C.lo, 2, none⟩ = some vst := (World.cell?_of_block hlo).trans c2
  have f2 : w2.frozen? ⟨C.lo, 2, none⟩ = false := (World.frozen?_of_block hlo).trans (h.free 2)
  obtain ⟨o, c, rfl, _⟩ := own_slice o2
  obtain ⟨o', c', rfl, _⟩ := own_slice h.g.st
  have R2 := Lib.hid r2
  clear h r2 o2 g2 a2 hk hG hF hlo hv hx
  go_enter Tryd.func30, Tryd.ntmps30
  go_wp2_with (at_builtin; refine wpList_append_known rfl (.tmp 8) (.tmp 10) 52 52 (by rfl) _ _ _ (by rfl) (by rfl) R2.out ?_)
  refine bodyPost_ret (results_none rfl _ _ _) rfl ?_
  exact ⟨rfl, FIN.out⟩

set_option maxHeartbeats 1000000 in
set_option maxRecDepth 100000 in
theorem pop_k {C : Cx} {s : Ms} {v : V} {t : List V} {w : World} (h : RunE C w s) (hs : s.stk = v :: t) (hn : s.stk.length ≤ 1000000000) :
    Calls Tryd.prog 38 #[.pointer (some ⟨C.lo, 0, none⟩)] w fun e w' => e = .returned (.int .u64 (v.word : Int)) ∧ RunE C w' { s with stk := t } ∧ Kept (fun k => k = C.lo) w w' := by
  obtain ⟨vfr, vst, vtr, vout, vdn, v1, v2, h⟩ := h
  have ho := h.g.st
  rw [hs] at ho hn
  simp only [List.length_cons] at ho hn
  obtain ⟨g, cap, rfl, hcap, hmax, _⟩ := own_some ho (by omega)
  have hcell : w.cell? ⟨g, t.length, none⟩ = some (.int .u64 (v.word : Int)) := by
    rw [ho.cellAt t.length (by omega), stkW_cons, List.getElem?_append_right (by rw [stkW_length]; exact Nat.le_refl _), stkW_length, Nat.sub_self]
    rfl
  have hcut := own_cut ho (m := t.length) (ys := stkW t) (by omega) (by rw [stkW_cons, Nat.mul_one, List.take_append_of_le_length (by rw [stkW_length]; exact Nat.le_refl _), List.take_of_length_le (by rw [stkW_length]; exact Nat.le_refl _)])
  have hG := h.g.stack (stk' := t) (Kept.refl _ _) hcut (fun k hk => .inl hk) (fun u hu => h.g.rstk u (by rw [hs]; exact List.mem_cons_of_mem _ hu))
  have hF : RunE C (w.setCell ⟨C.lo, 2, none⟩ (.slice (some ⟨g, 0, none⟩) t.length cap)) { s with stk := t } := ⟨_, _, _, _, _, _, _, RunF.setR h.fit ⟨s, _, _, _, _, _, h.cell, rfl⟩ hG⟩
  have FIN := Lib.hid hF
  have c2 := h.cells.2.2.1
  have f2 := h.free 2
  generalize v.word = x at *
  have hni : (t.length : Int) ≤ 1000000000 := by omega
  unfold maxLen at hmax
  clear h hcut hG hF hs ho
  generalize t.length = n at *
  go_enter Tryd.func38, Tryd.ntmps38
  go_wp2
  go_ret
  exact ⟨rfl, FIN.out, Kept.setCell (S := fun k => k = C.lo) (p := ⟨C.lo, 2, none⟩) (Kept.refl _ _) (.inl rfl) _⟩
theorem pop_t {C : Cx} {s : Ms} {v : V} {t : List V} {w : World} (h : RunE C w s) (hs : s.stk = v :: t) (hn : s.stk.length ≤ 1000000000) :
    Calls Tryd.prog 38 #[.pointer (some ⟨C.lo, 0, none⟩)] w fun e w' => e = .returned (.int .u64 (v.word : Int)) ∧ RunE C w' { s with stk := t } :=
  (pop_k h hs hn).mono fun _ _ h => ⟨h.1, h.2.1⟩
theorem RunE.lt {C : Cx} {s : Ms} {w : World} (h : RunE C w s) : C.lo < w.heap.size := by
  obtain ⟨_, _, _, _, _, _, _, h⟩ := h
  exact h.g.lt

set_option maxHeartbeats 1000000 in
set_option maxRecDepth 100000 in
theorem top_t (R g n cap : Nat) (w : World) (hc : w.cell? ⟨R, 1, none⟩ = some (.slice (some ⟨g, 0, none⟩) (n + 1) cap)) (hn : n ≤ 1000000000) :
    Calls Tryd.prog 33 #[.pointer (some ⟨R, 0, none⟩)] w fun e w' => e = .returned (.pointer (some ⟨g, n * 4, none⟩)) ∧ ∃ nq, w' = w.drewN nq := by
  have hni : (n : Int) ≤ 1000000000 := by omega
  go_enter Tryd.func33, Tryd.ntmps33
  go_wp2
  go_quiet (fail)
  go_wp2
  go_ret
  exact ⟨rfl, _, rfl⟩

set_option maxHeartbeats 1000000 in
theorem answer_t {C : Cx} {s : Ms} {w : World} (n : Int) (h : RunE C w s) (hn : s.stk.length ≤ 1000000000) :
    Calls Tryd.prog 31 #[.pointer (some ⟨C.lo, 0, none⟩), .int .i64 n] w (OkRun C (push s (.num (cut n))) 0) := by
  have HP := Lib.hid (push_t (v := .num (cut n)) h (cut_rep n) (Lib.hid rfl) hn)
  clear h
  go_enter Tryd.func31, Tryd.ntmps31
  go_wp2_with fail
  refine (num_v n _).mono ?_
  rintro e w' ⟨rfl, rfl⟩
  go_wp2_with fail
  refine HP.out.mono ?_
  rintro e w' ⟨rfl, hw⟩
  have HW := Lib.hid hw
  clear hw
  go_wp2
  go_ret
  exact ⟨rfl, HW.out⟩

set_option maxHeartbeats 1000000 in
theorem truth_t {C : Cx} {s : Ms} {w : World} (b : Bool) (h : RunE C w s) (hn : s.stk.length ≤ 1000000000) :
    Calls Tryd.prog 42 #[.pointer (some ⟨C.lo, 0, none⟩), .bool b] w (OkRun C (push s (.num (if b then 1 else 0))) 0) := by
  have HP := Lib.hid (answer_t (if b then 1 else 0) h hn)
  clear h
  cases b with
  | true =>
    go_enter Tryd.func42, Tryd.ntmps42
    go_wp2_with fail
    refine HP.out.mono ?_
    rintro e w' ⟨rfl, hw⟩
    have HW := Lib.hid hw
    clear hw
    go_wp2
    go_ret
    exact ⟨rfl, HW.out⟩
  | false =>
    go_enter Tryd.func42, Tryd.ntmps42
    go_wp2_with fail
    refine HP.out.mono ?_
    rintro e w' ⟨rfl, hw⟩
    have HW := Lib.hid hw
    clear hw
    go_wp2
    go_ret
    exact ⟨rfl, HW.out⟩

set_option maxHeartbeats 1000000 in
theorem step_no {C : Cx} {s : Ms} {w : World} (h : RunE C w s) (hf : s.fuel = 0) :
    Calls Tryd.prog 53 #[.pointer (some ⟨C.lo, 0, none⟩)] w fun e w' => e = .returned (.bool false) ∧ RunE C w' s := by
  have HE := Lib.hid h
  obtain ⟨vfr, vst, vtr, vout, vdn, v1, v2, h⟩ := h
  have c4 := h.cells.2.2.2.2.1
  rw [hf] at c4
  clear h hf
  go_enter Tryd.func53, Tryd.ntmps53
  go_wp2
  go_ret
  exact ⟨rfl, HE.out⟩
set_option maxHeartbeats 1000000 in
theorem step_yes {C : Cx} {s : Ms} {w : World} (h : RunE C w s) (hf : s.fuel ≠ 0) :
    Calls Tryd.prog 53 #[.pointer (some ⟨C.lo, 0, none⟩)] w fun e w' => e = .returned (.bool true) ∧ RunE C w' { s with fuel := s.fuel - 1 } := by
  obtain ⟨vfr, vst, vtr, vout, vdn, v1, v2, h⟩ := h
  have c4 := h.cells.2.2.2.2.1
  have f4 := h.free 4
  obtain ⟨m, hm⟩ : ∃ m, s.fuel = m + 1 := ⟨s.fuel - 1, by omega⟩
  have hle := h.g.fuel
  have hG : RunG C w { s with fuel := s.fuel - 1 } vfr vst vtr vout vdn v1 v2 := { h.g with fuel := by show s.fuel - 1 ≤ _; omega }
  have hF : RunE C (w.setCell ⟨C.lo, 4, none⟩ (.int .i64 (m : Int))) { s with fuel := s.fuel - 1 } := ⟨_, _, _, _, _, _, _, RunF.setR h.fit ⟨s, _, _, _, _, _, h.cell, by simp only [runC, hm, Nat.add_sub_cancel]; rfl⟩ hG⟩
  have FIN := Lib.hid hF
  rw [hm] at c4 hle
  have hmi : (m : Int) ≤ 1000000 := by omega
  have h0 : (((m + 1 : Nat) : Int) == 0) = false := by rw [beq_eq_false_iff_ne]; omega
  have e1 : (((m + 1 : Nat) : Int) - 1) = (m : Int) := by omega
  clear h hf hG hF
  go_enter Tryd.func53, Tryd.ntmps53
  go_wp2
  go_ret
  exact ⟨rfl, FIN.out⟩
end Go.Proofs.YtpmbdncackneoaaDoor
