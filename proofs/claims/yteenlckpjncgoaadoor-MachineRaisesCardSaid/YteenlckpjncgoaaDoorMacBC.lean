/- What is below goes; a try begins; is it a text? -/
import Derived.Test.YteenlckpjncgoaaDoorGMd
import Derived.Test.YteenlckpjncgoaaDoorGMc
import Derived.BigRegion
import Derived.IntWalk
import Derived.Laws.Slices
namespace Go.Proofs.YteenlckpjncgoaaDoor
open Go.RowKit HeaM Ma

theorem sizeWord (W : World) : (sizeOf (Tryd.prog.elem 54)).run Tryd.prog W = .ok 1 W := by kernel_rfl
theorem cutW (o : Option Addr) (n c k : Nat) (x : Int) (hx : x = (k : Int)) (hk : k ≤ c) (ho : o = none ∨ ∃ g, o = some ⟨g, 0, none⟩) (W : World) :
    (Instr.slice 54 (.slice o n c) none (some (.int .i64 x)) none).run Tryd.prog W = .ok (.slice o k c) W := by
  subst hx
  have ht : Tryd.prog.underlying 54 = some (.slice (Tryd.prog.elem 54)) := by kernel_rfl
  rw [run_slice_h W _ o _ c ht .i64 k (by omega) (by omega), sizeWord]
  show Result.ok (sliced o 0 (k : Int).toNat c 1) W = _
  rw [Int.toNat_natCast]
  unfold sliced
  rcases ho with rfl | ⟨g, rfl⟩
  · simp
  · simp [add_none]
theorem own_at0 {w : World} {base : Nat} {e : TypeId} {size n c m : Nat} {o : Option Addr} {xs : List Value} (h : w.ownsRow base e size (.slice o n c) m xs) : o = none ∨ ∃ g, o = some ⟨g, 0, none⟩ := by
  rcases h.2 with ⟨h1, _⟩ | ⟨g, cap, cur, h1, _⟩
  · injection h1 with h1 _ _
    exact .inl h1
  · injection h1 with h1 _ _
    exact .inr ⟨g, h1⟩
theorem own_cut0 {w : World} {base : Nat} {e : TypeId} {size cap n m : Nat} {o : Option Addr} {xs ys : List Value} (h : w.ownsRow base e size (.slice o n cap) n xs) (hm : m ≤ n) (hy : xs.take (m * size) = ys) : w.ownsRow base e size (.slice o m cap) m ys := by
  rcases own_at0 h with rfl | ⟨g, rfl⟩
  · rcases h.2 with ⟨h1, h2⟩ | ⟨g, cap', cur, h1, _⟩
    · injection h1 with _ _ h3
      subst h2 h3
      obtain rfl : m = 0 := by omega
      have h0 := h.1
      rw [Nat.zero_mul] at h0
      have : xs = [] := List.eq_nil_of_length_eq_zero h0
      subst this
      subst hy
      exact ⟨by simp, .inl ⟨rfl, rfl⟩⟩
    · injection h1 with h1 _ _
      cases h1
  · exact own_cut h hm hy
theorem ownBlock_len (o : Option Addr) (n c n' c' : Nat) : (Value.slice o n c).ownBlock = (Value.slice o n' c').ownBlock := by cases o <;> rfl

set_option maxHeartbeats 4000000 in
set_option maxRecDepth 100000 in
theorem dc_slide (C : Cx) (n a : Int) (str : ByteArray) : DoC C ⟨18, n, a, str⟩ := by
  intro w s s' m f fs h hf hw hd
  have hd' : (match s.stk with | v :: t => if 0 ≤ n ∧ n ≤ t.length then ok { s with stk := v :: t.drop n.toNat } else none | [] => none) = some (m, s') := hd
  rcases hs : s.stk with _ | ⟨v, t⟩
  · rw [hs] at hd'; cases hd'
  rw [hs] at hd'
  simp only at hd'
  by_cases hn : 0 ≤ n ∧ n ≤ t.length
  · rw [if_pos hn] at hd'
    simp only [ok, Option.some.injEq, Prod.mk.injEq] at hd'
    obtain ⟨rfl, rfl⟩ := hd'
    obtain ⟨k, rfl⟩ : ∃ k : Nat, n = (k : Int) := ⟨n.toNat, by omega⟩
    rw [Int.toNat_natCast]
    have hkt : k ≤ t.length := by omega
    have htl : t.length ≤ 100000000 := by have := hw.1; rw [hs] at this; simp only [List.length_cons] at this; omega
    refine do_lead 18 (k : Int) a str h (by omega) fun wa0 h1 => ?_
    clear h hd
    obtain ⟨hlt, hx⟩ := h1.insc 18 (k : Int) a str
    have HP := Lib.hid (pop_k (h1.ins 18 (k : Int) a str) hs (by have := hw.1; omega))
    have hrep : Rep s.W s.F v := by
      obtain ⟨_, _, _, _, _, _, _, h3⟩ := h1
      exact h3.g.rstk v (by rw [hs]; simp)
    clear h1 hw
    go_enter Tryd.func55, Tryd.ntmps55
    go_wp2_with fail
    refine HP.out.mono ?_
    rintro e w1 ⟨rfl, h2, hk2⟩
    have hx2 := (hk2.cell (p := ⟨wa0.heap.size, 1, none⟩) (by simp) (by show wa0.heap.size ≠ C.lo; omega)).trans hx
    obtain ⟨vfr, vst, vtr, vout, vdn, v1, v2, h3⟩ := h2
    have ho := h3.g.st
    obtain ⟨o, cap, rfl, hcap, hmax⟩ := own_slice ho
    change w1.ownsRow C.lo 25 1 (.slice o t.length cap) t.length (stkW t) at ho
    change t.length ≤ cap at hcap
    have hcut := own_cut0 ho (m := t.length - k) (ys := stkW (t.drop k)) (by omega) (by
      have := stkW_drop t (t.length - k)
      rw [show t.length - (t.length - k) = k by omega] at this
      rw [Nat.mul_one]
      exact this.symm)
    have hlen : (t.drop k).length = t.length - k := List.length_drop
    have hG := h3.g.stack (stk' := t.drop k) (Kept.refl _ _) (by rw [hlen]; exact hcut) (fun q hq => .inl ((ownBlock_len _ _ _ _ _).trans hq)) (fun u hu => h3.g.rstk u (List.mem_of_mem_drop hu))
    have hF : ∀ nq, RunE C ((w1.drewN nq).setCell ⟨C.lo, 2, none⟩ (.slice o (t.length - k) cap)) { s with stk := t.drop k } := fun nq => by
      have h4 := h3.drewN nq
      have hG4 := h4.g.stack (stk' := t.drop k) (Kept.refl _ _) (by rw [hlen]; exact hcut) (fun q hq => .inl ((ownBlock_len _ _ _ _ _).trans hq)) (fun u hu => h3.g.rstk u (List.mem_of_mem_drop hu))
      exact ⟨_, _, _, _, _, _, _, RunF.setR h4.fit ⟨_, _, _, _, _, _, h4.cell, rfl⟩ hG4⟩
    have HF := Lib.hid hF
    have c2 := h3.cells.2.2.1
    have f2 := h3.free 2
    have hct := cutW o t.length cap (t.length - k) ((t.length : Int) - (k : Int)) (by omega) (by omega) (own_at0 ho)
    have hw1 : IntKind.i64.wrap ((t.length : Int) - (k : Int)) = (t.length : Int) - (k : Int) := IntWalk.i64_in _ (by omega)
    have HPU : Hid (∀ W, RunE C W { s with stk := t.drop k } → Calls Tryd.prog 41 #[.pointer (some ⟨C.lo, 0, none⟩), .int .u64 (v.word : Int)] W (VoidRun C { s with stk := v :: t.drop k })) := fun W hW => push_t (s := { s with stk := t.drop k }) hW hrep (Lib.hid rfl) (by show (t.drop k).length ≤ _; omega)
    have c2' : w1.cell? ⟨C.lo, 2, none⟩ = some (.slice o t.length cap) := c2
    have hti : (t.length : Int) ≤ 100000000 := by omega
    have hki : (k : Int) ≤ (t.length : Int) := by omega
    clear h3 ho hcut hG hF c2 hk2 hx HP hs hf hrep hn
    generalize t.length = TL at *
    generalize v.word = x at *
    go_wp2_with fail
    go_region
    go_wp2_with fail
    refine (HPU.out _ (HF.out 1)).mono ?_
    rintro e w' ⟨rfl, hw'⟩
    have HW := Lib.hid hw'
    clear hw'
    go_wp2
    refine bodyPost_ret (results_none rfl _ _ _) rfl ?_
    exact ⟨rfl, HW.out⟩
  · rw [if_neg hn] at hd'; cases hd'
end Go.Proofs.YteenlckpjncgoaaDoor
