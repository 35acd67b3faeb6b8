/- A function is called. -/
import Derived.Test.YteenlckpjncgoaaDoorGMc
namespace Go.Proofs.YteenlckpjncgoaaDoor
open Go.RowKit HeaM Ma

/-- What is called, without a step left. -/
theorem call_spent {C : Cx} {s : Ms} {v f : V} {t : List V} {w : World} (h : RunE C w s) (hs : s.stk = v :: f :: t) (hn : s.stk.length ≤ 1000000000) (hf : s.fuel = 0) :
    Calls Tryd.prog 48 #[.pointer (some ⟨C.lo, 0, none⟩)] w (OkRun C { s with stk := t } 10) := by
  have H1 := Lib.hid (pop_t h hs hn)
  have H2 := Lib.hid fun (w : World) (h : RunE C w { s with stk := f :: t }) => pop_t h rfl (by show (f :: t).length ≤ _; rw [hs] at hn; simp only [List.length_cons] at hn ⊢; omega)
  have H3 := Lib.hid fun (w : World) (h : RunE C w { s with stk := t }) => step_no h hf
  clear h hs hf
  go_enter Tryd.func48, Tryd.ntmps48
  go_wp2_with fail
  refine H1.out.mono ?_
  rintro e w1 ⟨rfl, h1⟩
  have H4 := Lib.hid (H2.out _ h1)
  clear h1
  go_wp2_with fail
  refine H4.out.mono ?_
  rintro e w2 ⟨rfl, h2⟩
  have H5 := Lib.hid (H3.out _ h2)
  clear h2
  go_wp2_with fail
  refine H5.out.mono ?_
  rintro e w3 ⟨rfl, h3⟩
  have HW := Lib.hid h3
  clear h3
  go_wp2
  go_ret
  exact ⟨rfl, HW.out⟩


set_option maxHeartbeats 2000000 in
set_option maxRecDepth 100000 in
/-- A function of the machine is called. -/
theorem call_fn {C : Cx} {s : Ms} {v : V} {t : List V} {i n : Nat} {g : CodM.Fun} {w : World} (h : RunE C w s) (hs : s.stk = v :: .fn i n :: t) (hn : t.length + 3 * s.trs.length ≤ 67108864) (hfr : s.frs.length ≤ 1000000000) (hf : s.fuel ≠ 0) (hg : C.m.funs[n]? = some g) (hc : g.caps = 0) :
    Calls Tryd.prog 48 #[.pointer (some ⟨C.lo, 0, none⟩)] w (OkRun C { s with stk := v :: t, fuel := s.fuel - 1, frs := ⟨n, .fn i n, t.length, 0⟩ :: s.frs } 0) := by
  have hl : s.stk.length ≤ 1000000000 := by rw [hs]; simp only [List.length_cons]; omega
  have hrep : Rep s.W s.F (.fn i n) ∧ Rep s.W s.F v := by
    obtain ⟨_, _, _, _, _, _, _, h⟩ := h
    exact ⟨h.g.rstk _ (by rw [hs]; simp), h.g.rstk _ (by rw [hs]; simp)⟩
  have H1 := Lib.hid (pop_t h hs hl)
  have H2 := Lib.hid fun (w : World) (h : RunE C w { s with stk := .fn i n :: t }) => pop_t h rfl (by show (V.fn i n :: t).length ≤ _; rw [hs] at hl; simp only [List.length_cons] at hl ⊢; omega)
  have H3 := Lib.hid fun (w : World) (h : RunE C w { s with stk := t }) => step_yes h hf
  have hcells : ∀ w1, RunE C w1 { s with stk := t, fuel := s.fuel - 1 } → w1.cell? ⟨C.lo, 0, none⟩ = some (.pointer (some ⟨C.M, 0, none⟩)) ∧ w1.cell? ⟨C.M, 0, none⟩ = some (.pointer (some ⟨C.H, 0, none⟩)) ∧
      (Calls Tryd.prog 63 #[.pointer (some ⟨C.H, 0, none⟩), .int .u64 ((2 * i : Nat) : Int), .int .i64 0] w1 fun e w' => e = .returned (.tuple #[.int .u64 ((numW (n : Int) : Nat) : Int), .int .i64 0]) ∧ ∃ nq, w' = w1.drewN nq) ∧
      (Calls Tryd.prog 65 #[.pointer (some ⟨C.H, 0, none⟩), .int .u64 ((2 * i : Nat) : Int)] w1 fun e w' => e = .returned (.int .u8 5) ∧ ∃ nq, w' = w1.drewN nq) ∧
      (Calls Tryd.prog 67 #[.pointer (some ⟨C.H, 0, none⟩), .int .u64 ((2 * i : Nat) : Int)] w1 fun e w' => e = .returned (.int .i64 1) ∧ ∃ nq, w' = w1.drewN nq) ∧
      (∃ b off c, C.vf = .slice (some ⟨b, off, none⟩) C.m.funs.length c ∧ C.m.funs.length ≤ c ∧ c ≤ maxLen ∧ n < C.m.funs.length ∧ w1.cell? ⟨C.M, 1, none⟩ = some C.vf ∧ w1.cell? ⟨b, off + n * 2, none⟩ = some (.int .i64 0)) ∧
      (Calls Tryd.prog 29 #[.pointer (some ⟨C.lo, 0, none⟩), .int .i64 (n : Int), .int .u64 ((2 * i : Nat) : Int), .int .u64 (v.word : Int)] w1 (OkRun C { s with stk := v :: t, fuel := s.fuel - 1, frs := ⟨n, .fn i n, t.length, 0⟩ :: s.frs } 0)) := by
    intro w1 hE
    have hE' := hE
    obtain ⟨_, _, _, _, _, _, _, h1⟩ := hE
    have hW : s.W.length ≤ 1048576 := Nat.le_trans h1.g.wl h1.fit.q
    obtain ⟨hf1, _, _⟩ := h1.fit.stat w1 h1.g.kept
    refine ⟨h1.cells.1, h1.mach.1, part_ob w1 h1.g.heap h1.g.len hW hrep.1.1 (by decide) hrep.1.2.1, kind_v w1 h1.g.heap h1.g.len hW hrep.1 (v := .fn i n) rfl, len_v w1 h1.g.heap h1.g.len hW hrep.1 (v := .fn i n) rfl rfl, ?_, enter_t hE' hrep.1 hrep.2 rfl rfl hn hfr⟩
    have hk := (List.getElem?_eq_some_iff.1 hg).1
    rcases hf1 with ⟨o, c, _, hnil⟩ | ⟨b, off, c, e, hl, hc2, hm, hC⟩
    · rw [hnil] at hk; simp at hk
    · exact ⟨b, off, c, e, hc2, hm, hk, h1.mach.2.1, by rw [(hC n g hg).1, hc]⟩
  have HC := Lib.hid hcells
  have hni : n ≤ 1000000 := hrep.1.2.2
  have HNN : Hid (∀ w : World, Calls Tryd.prog 66 #[.int .u64 ((numW (n : Int) : Nat) : Int)] w fun e w' => e = .returned (.int .i64 (n : Int)) ∧ w = w') := fun w => n_v (n : Int) (numW (n : Int)) w rfl (by omega) (by omega)
  have HNI : Hid (∀ w : World, Calls Tryd.prog 56 #[.int .u64 ((numW (n : Int) : Nat) : Int)] w fun e w' => e = .returned (.bool true) ∧ w = w') := fun w => isnum_v (.num (n : Int)) (numW (n : Int)) w rfl (numW_lt _)
  have hwf : (V.fn i n).word = 2 * i := rfl
  rw [hwf] at H2
  clear h hs hcells hrep hg hc hwf hf
  generalize numW (n : Int) = X at *
  generalize v.word = Y at *
  go_enter Tryd.func48, Tryd.ntmps48
  go_wp2_with fail
  refine H1.out.mono ?_
  rintro e w1 ⟨rfl, h1⟩
  have H4 := Lib.hid (H2.out _ h1)
  clear h1
  go_wp2_with fail
  refine H4.out.mono ?_
  rintro e w2 ⟨rfl, h2⟩
  have H5 := Lib.hid (H3.out _ h2)
  clear h2
  go_wp2_with fail
  refine H5.out.mono ?_
  rintro e w3 ⟨rfl, h3⟩
  have HE3 := Lib.hid h3
  clear h3
  obtain ⟨x0, x1, hPa, hKi, hLe, ⟨b, off, c, e5, hc5, hm5, hn5, x5, x6⟩, hEn⟩ := HC.out _ HE3.out
  have HPA := Lib.hid hPa
  clear hPa hKi hLe hEn
  go_wp2_with fail
  refine HPA.out.mono ?_
  rintro e w4 ⟨rfl, nq, rfl⟩
  have HE4 : Hid (RunE C (w3.drewN nq) { s with stk := t, fuel := s.fuel - 1 }) := HE3.out.drewN nq
  clear x0 x1 x5 x6 HPA HE3
  generalize w3.drewN nq = w4 at *
  obtain ⟨x0, x1, hPa, hKi, hLe, ⟨b', off', c', e5', hc5', hm5', hn5', x5, x6⟩, hEn⟩ := HC.out _ HE4.out
  rw [e5'] at x5
  have HKI := Lib.hid hKi
  clear hPa hKi hLe hEn e5
  go_wp2_with fail
  refine (HNI.out _).mono ?_
  rintro e w5 ⟨rfl, rfl⟩
  go_wp2_with fail
  refine HKI.out.mono ?_
  rintro e w5 ⟨rfl, nq5, rfl⟩
  have HE5 : Hid (RunE C (w4.drewN nq5) { s with stk := t, fuel := s.fuel - 1 }) := HE4.out.drewN nq5
  clear x0 x1 x5 x6 HKI HE4
  generalize w4.drewN nq5 = w5 at *
  obtain ⟨x0, x1, hPa, hKi, hLe, ⟨b6, off6, c6, e6, hc6, hm6, hn6, x5, x6⟩, hEn⟩ := HC.out _ HE5.out
  rw [e6] at x5
  have HLQ : Hid (∀ nq, Calls Tryd.prog 67 #[.pointer (some ⟨C.H, 0, none⟩), .int .u64 (2 * (i : Int))] (w5.drewN nq) fun e w' => e = .returned (.int .i64 1) ∧ ∃ mq, w' = w5.drewN mq) := fun nq => (HC.out _ (HE5.out.drewN nq)).2.2.2.2.1.mono fun e w' ⟨h1, mq, h2⟩ => ⟨h1, nq + mq, by rw [h2]; simp [World.drewN, Nat.add_assoc]⟩
  have hn7 : (n : Int) < (C.m.funs.length : Int) := by omega
  have hn8 : ¬ (n : Int) < 0 := by omega
  have w00 : (IntKind.i64.wrap 0 != 0) = false := by decide
  have hnl : ¬ C.m.funs.length ≤ n := by omega
  have d7 : decide ((C.m.funs.length : Int) ≤ (n : Int)) = false := by rw [decide_eq_false_iff_not]; omega
  have d8 : decide ((n : Int) < 0) = false := by rw [decide_eq_false_iff_not]; omega
  unfold maxLen at hm6
  clear hPa hKi hLe hEn e5' hc5' hm5' hn5'
  go_wp2_with fail
  go_quiet (first
    | (go_at_call 66; exact Calls.quiet_of_same ((HNN.out _).mono fun _ _ h => ⟨h.1, h.2.symm⟩))
    | (go_at_call 67; exact HLQ.out _))
  have HEN := Lib.hid (HC.out _ (HE5.out.drewN nq)).2.2.2.2.2.2
  generalize w5.drewN nq = w6 at *
  go_wp2_with fail
  refine (HNN.out _).mono ?_
  rintro e w7 ⟨rfl, rfl⟩
  go_wp2_with fail
  refine HEN.out.mono ?_
  rintro e w' ⟨rfl, hw⟩
  have HW := Lib.hid hw
  clear hw
  go_wp2
  go_ret
  exact ⟨rfl, HW.out⟩
end Go.Proofs.YteenlckpjncgoaaDoor
