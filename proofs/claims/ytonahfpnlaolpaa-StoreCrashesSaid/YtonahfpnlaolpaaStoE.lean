/- A drawn region within a round; bytes in pieces (slices.Chunk). -/
import Derived.Test.YtonahfpnlaolpaaStoD
import Derived.RangeFuncNested
import Derived.RangeFuncBound
import Derived.RangeFuncCalls
import Derived.RangeFuncLeaves
import Derived.Shelf.Abstract
import Derived.Shelf.RegionOpen
import Derived.OwnWalkIn
import Derived.TacticsInMore
import Derived.LoopNIn
import Derived.LoopIn
namespace Go.Proofs.Ytonahfpnlaolpaa
open Go.RowKit OctM

/-! ### A drawn region within a round is walked as one outside of it -/
theorem rows_wide {n : Nat} {P : Program} {row : String} {args : Array Value} {w : World} {R : Value → World → Prop} (h : Rows P row args w R) : RowsIn Fence.wide n P row args w R :=
  fun c cs _ => let ⟨v, w', r, s⟩ := h c cs; ⟨v, w', r, stepsIn_wide.2 s⟩

theorem operIn_of_wp {l n : Nat} {P : Program} {o : Oper} {a : Act} {w : World} {K : Act → World → Prop} {Q : Exit → Act → World → Prop} (hd : ∀ c : Call, o.op ≠ Op.defer c) (h : o.wp P a w K Q) : o.wpIn (Fence.wide.inRound l) n P a w K Q := by
  unfold Oper.wpIn
  refine ⟨fun _ _ => trivial, ?_⟩
  rw [show (Fence.wide.inRound l).round = some l from rfl, Oper.semAt_some l _ _ hd]
  unfold Oper.wp at h
  generalize (execOp a.eval o).run P w = r at *
  cases r with
  | ok x w' =>
    cases x <;> simp only [Oper.upon, Oper.uponIn] at h ⊢
    case value => exact h
    case skip => exact h
    case defer => exact h
    case enter f args => exact ⟨fun hh => (by cases hh), (CallsIn.inRound l (callsIn_wide.2 h)).mono fun e w'' he => by cases e <;> exact he⟩
    case row row args => exact ⟨fun hh => (by cases hh), rows_wide h⟩
  | halt x w' => cases x <;> simp only [Oper.upon, Oper.uponIn] at h ⊢ <;> exact h

theorem wpAnyIn_of_wpAny {l n : Nat} {P : Program} {md : Region.Mode} {ops : Array Oper} {Q : Exit → Act → World → Prop} (hd : ∀ (i : Nat) (o : Oper), ops[i]? = some o → ∀ c : Call, o.op ≠ Op.defer c) (hQ : ¬ LetsOut Q) :
    ∀ (fuel : Nat) (listed : Array Bool) (a : Act) (w : World), wpAny P md ops Q fuel listed a w → wpAnyIn (Fence.wide.inRound l) n P md ops Q fuel listed a w
  | 0, _, _, _, h => h
  | fuel + 1, listed, a, w, h => ⟨h.1, fun i hi => by
      have h1 := wpOp_mono (fun a' w' h' => wpAnyIn_of_wpAny (l := l) (n := n) hd hQ fuel _ a' w' h') (h.2 i hi)
      unfold wpOp at h1
      unfold wpOpIn
      cases ho : ops[i]? with
      | none => simp only [ho] at h1 ⊢; exact h1
      | some o =>
        simp only [ho] at h1 ⊢
        split
        · next hw =>
          simp only [hw, if_true] at h1
          rcases h1 with h1 | h1
          · exact operIn_of_wp (hd i o ho) h1
          · exact absurd h1.2 hQ
        · next hw =>
          simp only [hw] at h1
          exact ⟨fun _ _ => trivial, h1⟩⟩

/-- The beginning, within a round. -/
theorem wpIn_region_round {l n : Nat} {P : Program} {ops : Array Oper} {Q : Exit → Act → World → Prop} {id : Nat} {a : Act} {w : World} {S : World → Prop} (hm : P.follows .mixedOrders = true)
    (hd : ops.all (fun o : Oper => match o.op with | Op.defer _ => false | _ => true) = true) (hQ : ∀ a w, ¬ Q .outgrown a w) (hS : S w.drew)
    (h : S w.drew → wpAnyH P .any ops Q S ops.size (Array.replicate ops.size false) a w.drew) : (Code.region id ops true).wpIn (Fence.wide.inRound l) n P Q a w :=
  wpIn_region_any hm (wpAnyIn_of_wpAny (fun i o ho c e => by
    have h1 := (Array.all_eq_true'.1 hd) o (Array.mem_of_getElem? ho)
    rw [e] at h1
    cases h1) (fun ⟨a, w, hh⟩ => hQ a w hh) _ _ _ _ (wpAny_of_held _ _ _ _ (h hS)))

/-! ### Bytes in pieces -/
/-- How many pieces; how long the k-th one is; it. -/
def pcs (n : Nat) : Nat := (n + 499) / 500
def pl (n k : Nat) : Nat := min 500 (n - 500 * k)
def pcV (g n k : Nat) : Value := .slice (some ⟨g, 500 * k, none⟩) (pl n k) (pl n k)

/-- These blocks are as they were. -/
def Keep (K : Nat → Prop) (W W' : World) : Prop := ∀ k, K k → W'.heap[k]? = W.heap[k]?
theorem Keep.refl (K : Nat → Prop) (W : World) : Keep K W W := fun _ _ => rfl
theorem Keep.trans {K : Nat → Prop} {A B C : World} (h : Keep K A B) (k : Keep K B C) : Keep K A C := fun i hi => (k i hi).trans (h i hi)
theorem keep_b {K : Nat → Prop} {w : World} (hK : ∀ k, K k → k < w.heap.size) (W : World) (l : Nat) (o o' : Obj) (hl : w.heap.size ≤ l) (_ : W.heap[l]? = some o) (_ : o.isCells = false) (_ : o.isWalk = false) : Keep K W (W.putObj l o') :=
  fun k hk => World.putObj_heap_other (fun e => by have := hK k hk; omega)

set_option maxHeartbeats 1000000 in
theorem chunk_any (o : Option Addr) (n c : Nat) (w : World) : Calls Try.prog 64 #[.slice o n c, .int .i64 500] w fun e w' =>
    e = .returned (.func (.func 76) #[] #[.pointer (some ⟨w.heap.size, 0, none⟩), .pointer (some ⟨w.heap.size + 1, 0, none⟩)]) ∧ w' = (w.alloc (.cells #[.slice o n c] 22)).alloc (.cells #[.int .i64 500] 3) := by
  go_enter Try.func64, Try.ntmps64
  go_wp2_with fail
  go_ret
  exact ⟨rfl, rfl⟩

theorem cutLo (g n c i : Nat) (hi : i < n) (hn : n ≤ c) (W : World) :
    (Instr.slice 22 (.slice (some ⟨g, 0, none⟩) n c) (some (.int .i64 (i : Int))) none none).run Try.prog W = .ok (.slice (some ⟨g, i, none⟩) (n - i) (c - i)) W := by
  have ht : Try.prog.underlying 22 = some (.slice (Try.prog.elem 22)) := by kernel_rfl
  rw [run_slice_l W _ (some ⟨g, 0, none⟩) n c ht .i64 (i : Int) (by omega) (by omega), sizeByteD]
  show Result.ok (sliced (some ⟨g, 0, none⟩) (i : Int).toNat n c 1) W = _
  rw [Int.toNat_natCast]
  unfold sliced
  rw [if_neg (by omega)]
  simp [add_none]

theorem cut3 (g n c i e : Nat) (hi : i + e ≤ n) (he : 0 < e) (hn : n ≤ c) (W : World) :
    (Instr.slice 22 (.slice (some ⟨g, 0, none⟩) n c) (some (.int .i64 (i : Int))) (some (.int .i64 ((i : Int) + (e : Int)))) (some (.int .i64 ((i : Int) + (e : Int))))).run Try.prog W = .ok (.slice (some ⟨g, i, none⟩) e e) W := by
  have ht : Try.prog.underlying 22 = some (.slice (Try.prog.elem 22)) := by kernel_rfl
  rw [run_slice_lhm W _ (some ⟨g, 0, none⟩) n c ht .i64 .i64 .i64 (i : Int) ((i : Int) + (e : Int)) ((i : Int) + (e : Int)) (by omega) (by omega) (by omega) (by omega), sizeByteD]
  show Result.ok (sliced (some ⟨g, 0, none⟩) (i : Int).toNat ((i : Int) + (e : Int)).toNat ((i : Int) + (e : Int)).toNat 1) W = _
  have e1 : ((i : Int) + (e : Int)).toNat = i + e := by omega
  rw [Int.toNat_natCast, e1]
  unfold sliced
  rw [if_neg (by omega)]
  simp [add_none]


set_option maxRecDepth 100000 in
set_option maxHeartbeats 4000000 in
theorem chunk1_in (n : Nat) (hn : 1 ≤ n) (l b1 b2 g len cap : Nat) (K0 : Nat → Prop) (k1 : K0 b1) (k2 : K0 b2) (hl : len ≤ 1000000000) (hc : len ≤ cap) (J Jx : List Nat → World → Prop) (hJd : ∀ pre W, J pre W → J pre W.drew)
    (hY : ∀ pre x W, J pre W → pre.length < pcs len → YieldAt Fence.wide (n - 1) Try.prog l #[pcV g len x] W fun e W' =>
      (e = .returned (.bool true) ∧ J (pre ++ [x]) W' ∧ Keep K0 W W') ∨ (e = .returned (.bool false) ∧ Jx (pre ++ [x]) W'))
    (W : World) (h1 : W.heap[b1]? = some (.cells #[.slice (some ⟨g, 0, none⟩) len cap] 22 (0, 0))) (h2 : W.heap[b2]? = some (.cells #[.int .i64 500] 3 (0, 0))) (h0 : J [] W) :
    CallsIn Fence.wide n Try.prog 76 #[.func (.yield l) #[] #[], .pointer (some ⟨b1, 0, none⟩), .pointer (some ⟨b2, 0, none⟩)] W fun e W' => (∃ v, e = .returned v) ∧
      ((∃ ys, ys = List.range (pcs len) ∧ J ys W') ∨ (∃ pre, True ∧ Jx pre W')) := by
  refine callsIn_of_wp Try.func76 rfl trivial ?_ rfl
  simp only [Try.ntmps76, List.size_toArray, List.length_cons, List.length_nil, Nat.reduceAdd, Nat.reduceSub, Array.replicate_succ, Array.replicate_zero, List.push_toArray, List.append_toArray, List.nil_append, List.cons_append]
  have H1 := Lib.hid h1
  have H2 := Lib.hid h2
  clear h1 h2
  gi_wp2
  gi_loopw [4] (fun i wr => ∃ k : Nat, k ≤ pcs len ∧ i = .int .i64 ((500 * k : Nat) : Int) ∧ J (List.range k) wr ∧ Hid (Keep K0 W wr))
    (fun i _ => len + 500 - (intOf i).toNat)
  case atStart => exact ⟨0, Nat.zero_le _, rfl, h0, Keep.refl _ _⟩
  case round =>
    obtain ⟨k, hk, rfl, hJs, hnx⟩ := hrel
    have c1 := cell_of_one ((hnx.out b1 k1).trans H1.out)
    have c2 := cell_of_one ((hnx.out b2 k2).trans H2.out)
    by_cases hlt : 500 * k < len
    · have hkp : k < pcs len := by unfold pcs; omega
      obtain ⟨fn, tmps, assign, body, hy, hR⟩ := hY _ k wr.drew (hJd _ _ hJs) (by rw [List.length_range]; exact hkp)
      have hple : 0 < pl len k ∧ 500 * k + pl len k ≤ len := by unfold pl; omega
      have hi0 : ((500 * k : Nat) : Int) < (len : Int) := by omega
      have hcl := cutLo g len cap (500 * k) hlt hc
      have hmn := min_at Try.prog 500 ((len - 500 * k : Nat) : Int) (pl len k : Int) (by unfold pl; split <;> omega)
      have hc3 := cut3 g len cap (500 * k) (pl len k) hple.2 hple.1 hc
      have w1 : IntKind.i64.wrap (((500 * k : Nat) : Int) + (pl len k : Int)) = ((500 * k : Nat) : Int) + (pl len k : Int) := IntWalk.i64_in _ (by omega)
      have w2 : IntKind.i64.wrap (((500 * k : Nat) : Int) + 500) = ((500 * k : Nat) : Int) + 500 := IntWalk.i64_in _ (by omega)
      unfold pcV at hy
      have HP := Lib.hid hple
      generalize hQ : 500 * k = q at *
      generalize len - q = r at *
      generalize hE : pl len k = e at *
      clear hple
      gi_wp2
      refine wpIn_wide.2 ?_
      refine wp_region_held_drew (S := fun w' => w' = wr.drew) (by kernel_rfl) rfl ?_
      intro hHeld
      refine wpAnyH_take (i := 0) (v := ?_) (by simp only [List.getElem?_toArray, List.getElem?_cons_zero]; rfl) (by kernel_rfl) (by kernel_rfl) (by kernel_rfl) (by intro _ _ _ h; exact h) (Or.inl ⟨by rfl, ?_⟩) (by assumption) ?_
      rotate_left
      · (intro W hSw; subst hSw; go_simp; try with_reducible rfl)
      try simp only [Act.put, List.setIfInBounds_toArray, List.set_cons_zero, List.set_cons_succ]
      refine wpAnyH_take (i := 1) (v := ?_) (by simp only [List.getElem?_toArray, List.getElem?_cons_succ, List.getElem?_cons_zero]; rfl) (by kernel_rfl) (by kernel_rfl) (by kernel_rfl) (by intro _ _ _ h; exact h) (Or.inl ⟨by rfl, ?_⟩) (by assumption) ?_
      rotate_left
      · (intro W hSw; subst hSw; go_simp; try with_reducible rfl)
      try simp only [Act.put, List.setIfInBounds_toArray, List.set_cons_zero, List.set_cons_succ]
      refine wpAnyH_take (i := 2) (v := ?_) (by simp only [List.getElem?_toArray, List.getElem?_cons_succ, List.getElem?_cons_zero]; rfl) (by kernel_rfl) (by kernel_rfl) (by kernel_rfl) (by intro _ _ _ h; exact h) (Or.inl ⟨by rfl, ?_⟩) (by assumption) ?_
      rotate_left
      · (intro W hSw; subst hSw; go_simp; try with_reducible rfl)
      try simp only [Act.put, List.setIfInBounds_toArray, List.set_cons_zero, List.set_cons_succ]
      refine wpAnyH_take (i := 3) (v := ?_) (by simp only [List.getElem?_toArray, List.getElem?_cons_succ, List.getElem?_cons_zero]; rfl) (by kernel_rfl) (by kernel_rfl) (by kernel_rfl) (by intro _ _ _ h; exact h) (Or.inl ⟨by rfl, ?_⟩) (by assumption) ?_
      rotate_left
      · (intro W hSw; subst hSw; go_simp; try with_reducible rfl)
      try simp only [Act.put, List.setIfInBounds_toArray, List.set_cons_zero, List.set_cons_succ]
      refine wpAnyH_take (i := 4) (v := ?_) (by simp only [List.getElem?_toArray, List.getElem?_cons_succ, List.getElem?_cons_zero]; rfl) (by kernel_rfl) (by kernel_rfl) (by kernel_rfl) (by intro _ _ _ h; exact h) (Or.inl ⟨by rfl, ?_⟩) (by assumption) ?_
      rotate_left
      · (intro W hSw; subst hSw; go_simp; try with_reducible rfl)
      try simp only [Act.put, List.setIfInBounds_toArray, List.set_cons_zero, List.set_cons_succ]
      refine wpAnyH_take (i := 5) (v := ?_) (by simp only [List.getElem?_toArray, List.getElem?_cons_succ, List.getElem?_cons_zero]; rfl) (by kernel_rfl) (by kernel_rfl) (by kernel_rfl) (by intro _ _ _ h; exact h) (Or.inl ⟨by rfl, ?_⟩) (by assumption) ?_
      rotate_left
      · (intro W hSw; subst hSw; go_simp; try with_reducible rfl)
      try simp only [Act.put, List.setIfInBounds_toArray, List.set_cons_zero, List.set_cons_succ]
      refine wpAnyH_take (i := 6) (v := ?_) (by simp only [List.getElem?_toArray, List.getElem?_cons_succ, List.getElem?_cons_zero]; rfl) (by kernel_rfl) (by kernel_rfl) (by kernel_rfl) (by intro _ _ _ h; exact h) (Or.inl ⟨by rfl, ?_⟩) (by assumption) ?_
      rotate_left
      · (intro W hSw; subst hSw; go_simp; try with_reducible rfl)
      try simp only [Act.put, List.setIfInBounds_toArray, List.set_cons_zero, List.set_cons_succ]
      refine wpAnyH_done (by kernel_rfl) ?_ _
      gi_wp2
      refine hR.mono ?_
      rintro e' W3 (⟨rfl, hJ3, hk3⟩ | ⟨rfl, hJx3⟩)
      · have hnx3 := (show Keep K0 W wr.drew from hnx.out).trans hk3
        have c2' := cell_of_one ((hnx3 b2 k2).trans H2.out)
        gi_wp2
        go_roundw
        case rel => exact ⟨k + 1, by omega, by rw [← hQ]; congr 1, by rw [List.range_succ]; exact hJ3, hnx3⟩
        case measure => simp [intOf]; omega
      · gi_wp2
        refine bodyPost_ret (results_none rfl _ _ _) rfl ?_
        exact ⟨⟨_, rfl⟩, .inr ⟨_, trivial, hJx3⟩⟩
    · obtain rfl : k = pcs len := by unfold pcs at hk ⊢; omega
      have hi0 : ¬ ((500 * pcs len : Nat) : Int) < (len : Int) := by omega
      generalize 500 * pcs len = q at *
      gi_wp2
      go_end0
      exact ⟨⟨_, rfl⟩, .inl (by first | exact hJs | exact ⟨_, rfl, hJs⟩)⟩
end Go.Proofs.Ytonahfpnlaolpaa
