/- MacN, MacO, in one text. -/
import Derived.Test.YteenlckpjncgoaaDoorGMa
import Derived.Test.YteenlckpjncgoaaDoorMacH

namespace Go.Proofs.YteenlckpjncgoaaDoor
open Go.RowKit HeaM Ma

set_option maxHeartbeats 2000000 in
set_option maxRecDepth 100000 in
theorem operate_num {C : Cx} {s s' : Ms} {n : Nat} {sign x y : Int} {a b : Nat} {w : World} (h : RunE C w s) (hx : Rep s.W s.F (.num x)) (hy : Rep s.W s.F (.num y)) (ha : Hid ((V.num x).word = a)) (hb : Hid ((V.num y).word = b)) (hr : operate C.m s sign (.num x) (.num y) = some (n, s')) (hn : s.stk.length ≤ 1000000000) (hf : s.frs.length ≤ 1000000000) (htn : s.trs.length ≤ 1000000000) :
    Calls Tryd.prog 50 #[.pointer (some ⟨C.lo, 0, none⟩), .int .i64 sign, .int .u64 (a : Int), .int .u64 (b : Int)] w (OkRun C s' n) := by
  have hlt : a < 18446744073709551616 := by
    obtain ⟨_, _, _, _, _, _, _, h⟩ := h
    rw [← ha.out]
    exact word_lt hx (by have := h.g.wl; have := h.fit.q; omega)
  have hlt2 : b < 18446744073709551616 := by
    obtain ⟨_, _, _, _, _, _, _, h⟩ := h
    rw [← hb.out]
    exact word_lt hy (by have := h.g.wl; have := h.fit.q; omega)
  unfold operate at hr
  by_cases h5 : sign = 5 ∨ sign = 6
  · rw [if_pos h5] at hr
    have HE : Hid (Calls Tryd.prog 69 #[.pointer (some ⟨C.lo, 0, none⟩), .int .i64 sign, .int .u64 (a : Int), .int .u64 (b : Int)] w (OkRun C s' n)) := by
      by_cases hfu : s.fuel = 0
      · rw [if_pos hfu] at hr
        simp only [Option.some.injEq, Prod.mk.injEq] at hr
        obtain ⟨rfl, rfl⟩ := hr
        exact equal_no h hfu
      · rw [if_neg hfu] at hr
        simp only [truth, ok, Option.some.injEq, Prod.mk.injEq] at hr
        obtain ⟨rfl, rfl⟩ := hr
        exact equal_yes h5 hn (examine_num h hfu hx hy ha hb)
    clear h hr
    rcases h5 with rfl | rfl
    all_goals
      go_enter Tryd.func50, Tryd.ntmps50
      go_wp2_with fail
      refine HE.out.mono ?_
      rintro e w' ⟨rfl, hw⟩
      have HW := Lib.hid hw
      clear hw
      go_wp2
      go_ret
      exact ⟨rfl, HW.out⟩
  · rw [if_neg h5] at hr
    have h5a : sign ≠ 5 := fun e => h5 (.inl e)
    have h5b : sign ≠ 6 := fun e => h5 (.inr e)
    by_cases h9 : sign = 9
    · rw [if_pos h9] at hr; simp at hr
    rw [if_neg h9] at hr
    have h10 : sign ≠ 10 := by
      rintro rfl
      simp [reckon] at hr
    have HC := Lib.hid fun (w : World) (h : RunE C w s) => calculate_t h hr hx hy hn hf htn
    have HI : Hid (∀ w, Calls Tryd.prog 56 #[.int .u64 (a : Int)] w fun e w' => e = .returned (.bool true) ∧ w = w') := fun w => isnum_v (.num x) a w ha hlt
    have HJ : Hid (∀ w, Calls Tryd.prog 56 #[.int .u64 (b : Int)] w fun e w' => e = .returned (.bool true) ∧ w = w') := fun w => isnum_v (.num y) b w hb hlt2
    have HNA := Lib.hid fun w => n_v x a w ha hx.1 hx.2
    have HNB := Lib.hid fun w => n_v y b w hb hy.1 hy.2
    have HE := Lib.hid h
    clear h hr
    have e5 : (sign == 5) = false := by rw [beq_eq_false_iff_ne]; exact h5a
    have e6 : (sign == 6) = false := by rw [beq_eq_false_iff_ne]; exact h5b
    have e9 : (sign == 9) = false := by rw [beq_eq_false_iff_ne]; exact h9
    have e10 : (sign == 10) = false := by rw [beq_eq_false_iff_ne]; exact h10
    go_enter Tryd.func50, Tryd.ntmps50
    go_wp2_with fail
    refine (HI.out _).mono ?_
    rintro e w' ⟨rfl, rfl⟩
    go_wp2_with fail
    refine (HJ.out _).mono ?_
    rintro e w' ⟨rfl, rfl⟩
    go_wp2_with fail
    refine (HNA.out _).mono ?_
    rintro e w' ⟨rfl, rfl⟩
    go_wp2_with fail
    refine (HNB.out _).mono ?_
    rintro e w' ⟨rfl, rfl⟩
    go_wp2_with fail
    refine (HC.out _ HE.out).mono ?_
    rintro e w' ⟨rfl, hw⟩
    have HW := Lib.hid hw
    clear hw
    go_wp2
    go_ret
    exact ⟨rfl, HW.out⟩

set_option maxHeartbeats 1000000 in
set_option maxRecDepth 100000 in
theorem do_ret {C : Cx} {s s' : Ms} {v : V} {t : List V} {f : Fr} {fs : List Fr} {w : World} (n a : Int) (str : ByteArray) (h : RunE C w s) (hs : s.stk = v :: t) (hf : s.frs = f :: fs) (hn : s.stk.length ≤ 1000000000) (hfn : s.frs.length ≤ 1000000000) (hl : leave s = some (0, s')) :
    Calls Tryd.prog 30 #[.pointer (some ⟨C.lo, 0, none⟩), .agg #[.int .u8 8, .int .i64 n, .int .i64 a, .string str]] w (OkRun C s' 0) := by
  have HL := Lib.hid fun (w : World) (h : RunE C w s) => leave_t h hs hf hn hfn hl
  have HLD : ∀ w, RunE C w s → Calls Tryd.prog 55 #[.pointer (some ⟨C.lo, 0, none⟩), .agg #[.int .u8 8, .int .i64 n, .int .i64 a, .string str]] w (VoidRun C s') := by
    intro w h
    have H1 := Lib.hid (HL.out _ (h.ins 8 n a str))
    clear h
    go_enter Tryd.func55, Tryd.ntmps55
    go_wp2_with fail
    refine H1.out.mono ?_
    rintro e w' ⟨rfl, hw⟩
    have HW := Lib.hid hw
    clear hw
    go_wp2
    refine bodyPost_ret (results_none rfl _ _ _) rfl ?_
    exact ⟨rfl, HW.out⟩
  have H1 := Lib.hid (HLD _ (h.ins 8 n a str))
  clear h HLD HL
  go_enter Tryd.func30, Tryd.ntmps30
  go_wp2_with fail
  refine H1.out.mono ?_
  rintro e w' ⟨rfl, hw⟩
  have HW := Lib.hid hw
  clear hw
  go_wp2
  go_ret
  exact ⟨rfl, HW.out⟩
end Go.Proofs.YteenlckpjncgoaaDoor

namespace Go.Proofs.YteenlckpjncgoaaDoor
open Go.RowKit HeaM Ma

/-- What is known of an instruction. -/
def DoC (C : Cx) (x : CodM.Ins) : Prop := ∀ (w : World) (s s' : Ms) (n : Nat) (f : Fr) (fs : List Fr), RunE C w s → s.frs = f :: fs → few s → doI C.m s f fs x = some (n, s') →
  Calls Tryd.prog 30 #[.pointer (some ⟨C.lo, 0, none⟩), .agg #[.int .u8 (x.op : Int), .int .i64 x.n, .int .i64 x.a, .string x.s]] w (OkRun C s' n)

theorem dc_int (C : Cx) (n a : Int) (str : ByteArray) : DoC C ⟨0, n, a, str⟩ := by
  intro w s s' m f fs h hf hw hd
  simp only [doI, if_true, answer, ok, Option.some.injEq, Prod.mk.injEq] at hd
  obtain ⟨rfl, rfl⟩ := hd
  exact do_int n a str h (by have := hw.1; omega)
theorem dc_ret (C : Cx) (n a : Int) (str : ByteArray) : DoC C ⟨8, n, a, str⟩ := by
  intro w s s' m f fs h hf hw hd
  have hl : leave s = some (m, s') := hd
  have hs : ∃ v t, s.stk = v :: t := by
    unfold leave at hl
    rcases hs : s.stk with _ | ⟨v, t⟩
    · simp only [hs] at hl; cases hl
    · exact ⟨v, t, rfl⟩
  obtain ⟨v, t, hs⟩ := hs
  have hm : m = 0 := by
    unfold leave at hl
    simp only [hs, hf] at hl
    split at hl
    · split at hl <;> (simp only [ok, Option.some.injEq, Prod.mk.injEq] at hl; exact hl.1.symm)
    · cases hl
  subst hm
  exact do_ret n a str h hs hf (by have := hw.1; omega) (by have := hw.2.1; omega) hl

set_option maxHeartbeats 1000000 in
set_option maxRecDepth 100000 in
theorem do_op {C : Cx} {s s' : Ms} {m : Nat} {va vb : V} {t : List V} {w : World} (n a : Int) (str : ByteArray) (h : RunE C w s) (hs : s.stk = vb :: va :: t) (hn : s.stk.length ≤ 1000000000)
    (hO : ∀ w, RunE C w { s with stk := t } → Calls Tryd.prog 50 #[.pointer (some ⟨C.lo, 0, none⟩), .int .i64 n, .int .u64 (va.word : Int), .int .u64 (vb.word : Int)] w (OkRun C s' m)) :
    Calls Tryd.prog 30 #[.pointer (some ⟨C.lo, 0, none⟩), .agg #[.int .u8 20, .int .i64 n, .int .i64 a, .string str]] w (OkRun C s' m) := by
  have H1 := Lib.hid (pop_k (h.ins 20 n a str) hs hn)
  have hlt := h.lt
  have H2 := Lib.hid fun (w : World) (h : RunE C w { s with stk := va :: t }) => pop_k h rfl (by show (va :: t).length ≤ _; rw [hs] at hn; simp only [List.length_cons] at hn ⊢; omega)
  have HO := Lib.hid hO
  have hblk := cell_of_row _ w.heap.size 1 _ _ (0, 0) (heap_alloc_new w (.cells #[.int .u8 (20 : Nat), .int .i64 n, .int .i64 a, .string str] 33))
  clear h hs hO
  generalize va.word = x at *
  generalize vb.word = y at *
  go_enter Tryd.func30, Tryd.ntmps30
  go_wp2_with fail
  refine H1.out.mono ?_
  rintro e w1 ⟨rfl, h1, hk1⟩
  have H3 := Lib.hid (H2.out w1.drew (h1.drewN 1))
  have hx := (hk1.cell (p := ⟨w.heap.size, 1, none⟩) (by simp) (by show w.heap.size ≠ C.lo; omega)).trans hblk
  simp only [List.getElem?_toArray, List.getElem?_cons_succ, List.getElem?_cons_zero] at hx
  have hxd : w1.drew.cell? ⟨w.heap.size, 1, none⟩ = some (.int .i64 n) := hx
  have hsz := World.block_lt_of_cell? w1.drew ⟨w.heap.size, 1, none⟩ hxd
  clear h1 hk1 hblk H2
  go_wp2_with fail
  go_region_law (first
    | (go_simp; go_at_call 49; refine H3.out.mono ?_; rintro e w2 ⟨rfl, h2, hk2⟩; have hx2 := (hk2.cell (p := ⟨w.heap.size, 1, none⟩) hsz (by show w.heap.size ≠ C.lo; omega)).trans hxd; have HO2 := Lib.hid (HO.out _ h2); clear h2 hk2)
    | (go_simp; go_at_call 50; refine HO2.out.mono ?_; rintro e w3 ⟨rfl, hw⟩; have HW := Lib.hid hw; clear hw))
  all_goals
    go_wp2_with fail
    go_ret
    exact ⟨rfl, HW.out⟩

theorem operate_shape {c : Mc} {s : Ms} {sign : Int} {va vb : V} {r : Nat × Ms} (hf : s.fuel ≠ 0 ∨ ¬ (sign = 5 ∨ sign = 6)) (h : operate c s sign va vb = some r) : (∃ x y, va = .num x ∧ vb = .num y) ∨ ∃ i l j m, va = .txt i l ∧ vb = .txt j m ∧ (sign = 5 ∨ sign = 6 ∨ sign = 9) := by
  unfold operate at h
  by_cases h5 : sign = 5 ∨ sign = 6
  · rw [if_pos h5] at h
    have hf0 : s.fuel ≠ 0 := hf.elim id fun g => absurd h5 g
    rw [if_neg hf0] at h
    cases va <;> cases vb <;> first | exact .inl ⟨_, _, rfl, rfl⟩ | exact .inr ⟨_, _, _, _, rfl, rfl, by omega⟩ | (simp at h)
  · rw [if_neg h5] at h
    by_cases h9 : sign = 9
    · rw [if_pos h9] at h
      cases va <;> cases vb <;> first | exact .inr ⟨_, _, _, _, rfl, rfl, by omega⟩ | (simp at h)
    rw [if_neg h9] at h
    cases va <;> cases vb <;> first | exact .inl ⟨_, _, rfl, rfl⟩ | (simp at h)

set_option maxHeartbeats 1000000 in
set_option maxRecDepth 100000 in
theorem operate_spent {C : Cx} {s : Ms} {sign : Int} {a b : Int} {w : World} (hs : sign = 5 ∨ sign = 6) (hf : s.fuel = 0) (h : RunE C w s) :
    Calls Tryd.prog 50 #[.pointer (some ⟨C.lo, 0, none⟩), .int .i64 sign, .int .u64 a, .int .u64 b] w (OkRun C s 10) := by
  have HE := Lib.hid (equal_no (a := a) (b := b) (sign := sign) h hf)
  clear h hf
  rcases hs with rfl | rfl
  all_goals
    go_enter Tryd.func50, Tryd.ntmps50
    go_wp2_with fail
    refine HE.out.mono ?_
    rintro e w' ⟨rfl, hw⟩
    have HW := Lib.hid hw
    clear hw
    go_wp2
    go_ret
    exact ⟨rfl, HW.out⟩
end Go.Proofs.YteenlckpjncgoaaDoor
