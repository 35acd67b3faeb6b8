/- A drawn region within a round; bytes in pieces (slices.Chunk). -/
import Derived.Test.YtdckcjcddibglaaStoD
import Derived.RangeFuncNested
import Derived.RangeFuncBound
import Derived.RangeFuncCalls
import Derived.RangeFuncLeaves
import Derived.Shelf.Abstract
import Derived.Shelf.RegionOpen
import Derived.OwnWalkIn
import Derived.TacticsInMore
import Derived.LoopNIn
import Derived.LoopIn
namespace Go.Proofs.Ytdckcjcddibglaa
open Go.RowKit OctM

/-! ### A drawn region within a round is walked as one outside of it -/
theorem rows_wide {n : Nat} {P : Program} {row : String} {args : Array Value} {w : World} {R : Value → World → Prop} (h : Rows P row args w R) : RowsIn Fence.wide n P row args w R :=
  fun c cs _ => let ⟨v, w', r, s⟩ := h c cs; ⟨v, w', r, stepsIn_wide.2 s⟩

theorem operIn_of_wp {l n : Nat} {P : Program} {o : Oper} {a : Act} {w : World} {K : Act → World → Prop} {Q : Exit → Act → World → Prop} (hd : ∀ c : Call, o.op ≠ Op.defer c) (h : o.wp P a w K Q) : o.wpIn (Fence.wide.inRound l) n P a w K Q := by
  unfold Oper.wpIn
  refine ⟨fun _ _ => trivial, ?_⟩
  rw [show (Fence.wide.inRound l).round = some l from rfl, Oper.semAt_some l _ _ hd]
  unfold Oper.wp at h
  generalize (execOp a.eval o).run P w = r at *
  cases r with
  | ok x w' =>
    cases x <;> simp only [Oper.upon, Oper.uponIn] at h ⊢
    case value => exact h
    case skip => exact h
    case defer => exact h
    case enter f args => exact ⟨fun hh => (by cases hh), (CallsIn.inRound l (callsIn_wide.2 h)).mono fun e w'' he => by cases e <;> exact he⟩
    case row row args => exact ⟨fun hh => (by cases hh), rows_wide h⟩
  | halt x w' => cases x <;> simp only [Oper.upon, Oper.uponIn] at h ⊢ <;> exact h

theorem wpAnyIn_of_wpAny {l n : Nat} {P : Program} {md : Region.Mode} {ops : Array Oper} {Q : Exit → Act → World → Prop} (hd : ∀ (i : Nat) (o : Oper), ops[i]? = some o → ∀ c : Call, o.op ≠ Op.defer c) (hQ : ¬ LetsOut Q) :
    ∀ (fuel : Nat) (listed : Array Bool) (a : Act) (w : World), wpAny P md ops Q fuel listed a w → wpAnyIn (Fence.wide.inRound l) n P md ops Q fuel listed a w
  | 0, _, _, _, h => h
  | fuel + 1, listed, a, w, h => ⟨h.1, fun i hi => by
      have h1 := wpOp_mono (fun a' w' h' => wpAnyIn_of_wpAny (l := l) (n := n) hd hQ fuel _ a' w' h') (h.2 i hi)
      unfold wpOp at h1
      unfold wpOpIn
      cases ho : ops[i]? with
      | none => simp only [ho] at h1 ⊢; exact h1
      | some o =>
        simp only [ho] at h1 ⊢
        split
        · next hw =>
          simp only [hw, if_true] at h1
          rcases h1 with h1 | h1
          · exact operIn_of_wp (hd i o ho) h1
          · exact absurd h1.2 hQ
        · next hw =>
          simp only [hw] at h1
          exact ⟨fun _ _ => trivial, h1⟩⟩

/-- The beginning, within a round. -/
theorem wpIn_region_round {l n : Nat} {P : Program} {ops : Array Oper} {Q : Exit → Act → World → Prop} {id : Nat} {a : Act} {w : World} {S : World → Prop} (hm : P.follows .mixedOrders = true)
    (hd : ops.all (fun o : Oper => match o.op with | Op.defer _ => false | _ => true) = true) (hQ : ∀ a w, ¬ Q .outgrown a w) (hS : S w.drew)
    (h : S w.drew → wpAnyH P .any ops Q S ops.size (Array.replicate ops.size false) a w.drew) : (Code.region id ops true).wpIn (Fence.wide.inRound l) n P Q a w :=
  wpIn_region_any hm (wpAnyIn_of_wpAny (fun i o ho c e => by
    have h1 := (Array.all_eq_true'.1 hd) o (Array.mem_of_getElem? ho)
    rw [e] at h1
    cases h1) (fun ⟨a, w, hh⟩ => hQ a w hh) _ _ _ _ (wpAny_of_held _ _ _ _ (h hS)))

/-! ### Bytes in pieces -/
/-- How many pieces; how long the k-th one is; it. -/
def pcs (n : Nat) : Nat := (n + 499) / 500
def pl (n k : Nat) : Nat := min 500 (n - 500 * k)
def pcV (g n k : Nat) : Value := .slice (some ⟨g, 500 * k, none⟩) (pl n k) (pl n k)

/-- These blocks are as they were. -/
def Keep (K : Nat → Prop) (W W' : World) : Prop := ∀ k, K k → W'.heap[k]? = W.heap[k]?
theorem Keep.refl (K : Nat → Prop) (W : World) : Keep K W W := fun _ _ => rfl
theorem Keep.trans {K : Nat → Prop} {A B C : World} (h : Keep K A B) (k : Keep K B C) : Keep K A C := fun i hi => (k i hi).trans (h i hi)
theorem keep_b {K : Nat → Prop} {w : World} (hK : ∀ k, K k → k < w.heap.size) (W : World) (l : Nat) (o o' : Obj) (hl : w.heap.size ≤ l) (_ : W.heap[l]? = some o) (_ : o.isCells = false) (_ : o.isWalk = false) : Keep K W (W.putObj l o') :=
  fun k hk => World.putObj_heap_other (fun e => by have := hK k hk; omega)

theorem cutLo (g n c i : Nat) (hi : i < n) (hn : n ≤ c) (W : World) :
    (Instr.slice 22 (.slice (some ⟨g, 0, none⟩) n c) (some (.int .i64 (i : Int))) none none).run Try.prog W = .ok (.slice (some ⟨g, i, none⟩) (n - i) (c - i)) W := by
  have ht : Try.prog.underlying 22 = some (.slice (Try.prog.elem 22)) := by kernel_rfl
  rw [run_slice_l W _ (some ⟨g, 0, none⟩) n c ht .i64 (i : Int) (by omega) (by omega), sizeByteD]
  show Result.ok (sliced (some ⟨g, 0, none⟩) (i : Int).toNat n c 1) W = _
  rw [Int.toNat_natCast]
  unfold sliced
  rw [if_neg (by omega)]
  simp [add_none]

theorem cut3 (g n c i e : Nat) (hi : i + e ≤ n) (he : 0 < e) (hn : n ≤ c) (W : World) :
    (Instr.slice 22 (.slice (some ⟨g, 0, none⟩) n c) (some (.int .i64 (i : Int))) (some (.int .i64 ((i : Int) + (e : Int)))) (some (.int .i64 ((i : Int) + (e : Int))))).run Try.prog W = .ok (.slice (some ⟨g, i, none⟩) e e) W := by
  have ht : Try.prog.underlying 22 = some (.slice (Try.prog.elem 22)) := by kernel_rfl
  rw [run_slice_lhm W _ (some ⟨g, 0, none⟩) n c ht .i64 .i64 .i64 (i : Int) ((i : Int) + (e : Int)) ((i : Int) + (e : Int)) (by omega) (by omega) (by omega) (by omega), sizeByteD]
  show Result.ok (sliced (some ⟨g, 0, none⟩) (i : Int).toNat ((i : Int) + (e : Int)).toNat ((i : Int) + (e : Int)).toNat 1) W = _
  have e1 : ((i : Int) + (e : Int)).toNat = i + e := by omega
  rw [Int.toNat_natCast, e1]
  unfold sliced
  rw [if_neg (by omega)]
  simp [add_none]


end Go.Proofs.Ytdckcjcddibglaa
