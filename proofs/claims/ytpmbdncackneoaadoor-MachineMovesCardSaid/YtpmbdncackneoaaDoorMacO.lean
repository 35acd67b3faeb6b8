/- An operator, as an instruction; what an instruction's contract is. -/
import Derived.Test.YtpmbdncackneoaaDoorMacN
namespace Go.Proofs.YtpmbdncackneoaaDoor
open Go.RowKit HeaM Ma

/-- What is known of an instruction. -/
def DoC (C : Cx) (x : CodM.Ins) : Prop := ∀ (w : World) (s s' : Ms) (n : Nat) (f : Fr) (fs : List Fr), RunE C w s → s.frs = f :: fs → few s → doI C.m s f fs x = some (n, s') →
  Calls Tryd.prog 20 #[.pointer (some ⟨C.lo, 0, none⟩), .agg #[.int .u8 (x.op : Int), .int .i64 x.n, .int .i64 x.a, .string x.s]] w (OkRun C s' n)

theorem dc_int (C : Cx) (n a : Int) (str : ByteArray) : DoC C ⟨0, n, a, str⟩ := by
  intro w s s' m f fs h hf hw hd
  simp only [doI, if_true, answer, ok, Option.some.injEq, Prod.mk.injEq] at hd
  obtain ⟨rfl, rfl⟩ := hd
  exact do_int n a str h (by have := hw.1; omega)
theorem dc_ret (C : Cx) (n a : Int) (str : ByteArray) : DoC C ⟨8, n, a, str⟩ := by
  intro w s s' m f fs h hf hw hd
  have hl : leave s = some (m, s') := hd
  have hs : ∃ v t, s.stk = v :: t := by
    unfold leave at hl
    rcases hs : s.stk with _ | ⟨v, t⟩
    · simp only [hs] at hl; cases hl
    · exact ⟨v, t, rfl⟩
  obtain ⟨v, t, hs⟩ := hs
  have hm : m = 0 := by
    unfold leave at hl
    simp only [hs, hf] at hl
    split at hl
    · split at hl <;> (simp only [ok, Option.some.injEq, Prod.mk.injEq] at hl; exact hl.1.symm)
    · cases hl
  subst hm
  exact do_ret n a str h hs hf (by have := hw.1; omega) (by have := hw.2.1; omega) hl

set_option maxHeartbeats 1000000 in
set_option maxRecDepth 100000 in
theorem do_op {C : Cx} {s s' : Ms} {m : Nat} {va vb : V} {t : List V} {w : World} (n a : Int) (str : ByteArray) (h : RunE C w s) (hs : s.stk = vb :: va :: t) (hn : s.stk.length ≤ 1000000000)
    (hO : ∀ w, RunE C w { s with stk := t } → Calls Tryd.prog 39 #[.pointer (some ⟨C.lo, 0, none⟩), .int .i64 n, .int .u64 (va.word : Int), .int .u64 (vb.word : Int)] w (OkRun C s' m)) :
    Calls Tryd.prog 20 #[.pointer (some ⟨C.lo, 0, none⟩), .agg #[.int .u8 20, .int .i64 n, .int .i64 a, .string str]] w (OkRun C s' m) := by
  have H1 := Lib.hid (pop_k (h.ins 20 n a str) hs hn)
  have hlt := h.lt
  have H2 := Lib.hid fun (w : World) (h : RunE C w { s with stk := va :: t }) => pop_k h rfl (by show (va :: t).length ≤ _; rw [hs] at hn; simp only [List.length_cons] at hn ⊢; omega)
  have HO := Lib.hid hO
  have hblk := cell_of_row _ w.heap.size 1 _ _ (0, 0) (heap_alloc_new w (.cells #[.int .u8 (20 : Nat), .int .i64 n, .int .i64 a, .string str] 28))
  clear h hs hO
  generalize va.word = x at *
  generalize vb.word = y at *
  go_enter Tryd.func20, Tryd.ntmps20
  go_wp2_with fail
  refine H1.out.mono ?_
  rintro e w1 ⟨rfl, h1, hk1⟩
  have H3 := Lib.hid (H2.out w1.drew (h1.drewN 1))
  have hx := (hk1.cell (p := ⟨w.heap.size, 1, none⟩) (by simp) (by show w.heap.size ≠ C.lo; omega)).trans hblk
  simp only [List.getElem?_toArray, List.getElem?_cons_succ, List.getElem?_cons_zero] at hx
  have hxd : w1.drew.cell? ⟨w.heap.size, 1, none⟩ = some (.int .i64 n) := hx
  have hsz := World.block_lt_of_cell? w1.drew ⟨w.heap.size, 1, none⟩ hxd
  clear h1 hk1 hblk H2
  go_wp2_with fail
  go_region_law (first
    | (go_simp; go_at_call 38; refine H3.out.mono ?_; rintro e w2 ⟨rfl, h2, hk2⟩; have hx2 := (hk2.cell (p := ⟨w.heap.size, 1, none⟩) hsz (by show w.heap.size ≠ C.lo; omega)).trans hxd; have HO2 := Lib.hid (HO.out _ h2); clear h2 hk2)
    | (go_simp; go_at_call 39; refine HO2.out.mono ?_; rintro e w3 ⟨rfl, hw⟩; have HW := Lib.hid hw; clear hw))
  all_goals
    go_wp2_with fail
    go_ret
    exact ⟨rfl, HW.out⟩

theorem operate_shape {c : Mc} {s : Ms} {sign : Int} {va vb : V} {r : Nat × Ms} (hf : s.fuel ≠ 0 ∨ ¬ (sign = 5 ∨ sign = 6)) (h : operate c s sign va vb = some r) : (∃ x y, va = .num x ∧ vb = .num y) ∨ ∃ i l j m, va = .txt i l ∧ vb = .txt j m ∧ (sign = 5 ∨ sign = 6 ∨ sign = 9) := by
  unfold operate at h
  by_cases h5 : sign = 5 ∨ sign = 6
  · rw [if_pos h5] at h
    have hf0 : s.fuel ≠ 0 := hf.elim id fun g => absurd h5 g
    rw [if_neg hf0] at h
    cases va <;> cases vb <;> first | exact .inl ⟨_, _, rfl, rfl⟩ | exact .inr ⟨_, _, _, _, rfl, rfl, by omega⟩ | (simp at h)
  · rw [if_neg h5] at h
    by_cases h9 : sign = 9
    · rw [if_pos h9] at h
      cases va <;> cases vb <;> first | exact .inr ⟨_, _, _, _, rfl, rfl, by omega⟩ | (simp at h)
    rw [if_neg h9] at h
    cases va <;> cases vb <;> first | exact .inl ⟨_, _, rfl, rfl⟩ | (simp at h)

set_option maxHeartbeats 1000000 in
set_option maxRecDepth 100000 in
theorem operate_spent {C : Cx} {s : Ms} {sign : Int} {a b : Int} {w : World} (hs : sign = 5 ∨ sign = 6) (hf : s.fuel = 0) (h : RunE C w s) :
    Calls Tryd.prog 39 #[.pointer (some ⟨C.lo, 0, none⟩), .int .i64 sign, .int .u64 a, .int .u64 b] w (OkRun C s 10) := by
  have HE := Lib.hid (equal_no (a := a) (b := b) (sign := sign) h hf)
  clear h hf
  rcases hs with rfl | rfl
  all_goals
    go_enter Tryd.func39, Tryd.ntmps39
    go_wp2_with fail
    refine HE.out.mono ?_
    rintro e w' ⟨rfl, hw⟩
    have HW := Lib.hid hw
    clear hw
    go_wp2
    go_ret
    exact ⟨rfl, HW.out⟩
end Go.Proofs.YtpmbdncackneoaaDoor
