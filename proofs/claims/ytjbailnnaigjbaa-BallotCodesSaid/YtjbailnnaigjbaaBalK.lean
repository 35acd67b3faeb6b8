/- One node of one: a tick goes by. -/
import Derived.Test.YtjbailnnaigjbaaBalJ
namespace Go.Proofs.Ytjbailnnaigjbaa
open Go.RowKit OctM

/-- A node without what it sends. -/
def zsN : List Value := [.int .i64 0, .int .i64 0, .int .i64 0, .int .u64 0, .int .i64 0, .int .u64 0, .int .u64 0, .slice none 0 0, .slice none 0 0, .int .u64 0, .int .u8 0, .int .i64 0, .int .i64 0, .slice none 0 0, .slice none 0 0, .slice none 0 0, .slice none 0 0]

/-- At work on a copy: the state that came in lies in its box, the result's block is there, the node. -/
structure Wk (w W : World) (X : Nat) (p p' : Sc) (d l v n m d' l' v' n' m' o : Value) : Prop where
  box : W.heap[w.heap.size]? = some (.cells (stC p d l v n m).toArray 41 (0, 0))
  res : W.heap[w.heap.size + 1]? = some (.cells zsC.toArray 41 (0, 0))
  nd : NdAt W X p' d' l' v' n' m' o
  bel : Below w.heap.size w W
  lt : w.heap.size + 1 < X

theorem Wk.kept {S : Nat → Prop} {w W W' : World} {X : Nat} {p p' p2 : Sc} {d l v n m d' l' v' n' m' o l2 o2 : Value} (h : Wk w W X p p' d l v n m d' l' v' n' m' o) (hk : Kept S W W') (hS : ∀ k, S k → w.heap.size + 1 < k) (hn : NdAt W' X p2 d' l2 v' n' m' o2) : Wk w W' X p p2 d l v n m d' l2 v' n' m' o2 :=
  ⟨(hk.block _ (lt_of_block h.box) (fun e => by have := hS _ e; omega)).trans h.box, (hk.block _ (lt_of_block h.res) (fun e => by have := hS _ e; omega)).trans h.res, hn, h.bel.trans (hk.below h.bel.size (fun k hk => by have := hS k hk; omega)), h.lt⟩
theorem Wk.below {w W W' : World} {X : Nat} {p p' : Sc} {d l v n m d' l' v' n' m' o : Value} (h : Wk w W X p p' d l v n m d' l' v' n' m' o) (hb : Below W.heap.size W W') : Wk w W' X p p' d l v n m d' l' v' n' m' o :=
  ⟨(hb.block _ (lt_of_block h.box)).trans h.box, (hb.block _ (lt_of_block h.res)).trans h.res, h.nd.below hb, h.bel.trans (hb.mono h.bel.size), h.lt⟩

/-- What a tick leaves. -/
def TickP (p : Sc) (ps : List En) (vs ns ms : List Value) (w : World) (e : Ending) (w' : World) : Prop :=
  ∃ d l v n m qs, e = .returned (.tuple #[stV p d l v n m, .slice none 0 0]) ∧ qs.map Prod.fst = ps ∧ StO w' w.heap.size [] qs vs ns ms d l v n m ∧ Below w.heap.size w w'

set_option maxRecDepth 100000 in
theorem tick_ret {p : Sc} {ps : List En} {vs ns ms : List Value} {d l v n m : Value} {qs : List (En × Value)} {w W : World} {R : Nat} {tm : Array Value} (hf : W.heap[R]? = some (.cells (stC p d l v n m).toArray 41 (0, 0))) (hq : qs.map Prod.fst = ps) (hst : StO W w.heap.size [] qs vs ns ms d l v n m) (hbl : Below w.heap.size w W)
    (h6 : tm.getD 4 undef = .pointer (some ⟨R, 0, none⟩)) (h7 : tm.getD 5 undef = .slice none 0 0) : bodyPost Try.prog Try.f17 (TickP p ps vs ns ms w) .ret { tmps := tm, defers := [] } W := by
  have g6 : tm[4]?.getD undef = .pointer (some ⟨R, 0, none⟩) := by simpa using h6
  have g7 : tm[5]?.getD undef = .slice none 0 0 := by simpa using h7
  have r0 : W.cell? ⟨R, 0, none⟩ = some (.int .i64 p.n) := cellk hf rfl
  have r1 : W.cell? ⟨R, 1, none⟩ = some (.int .i64 p.s) := cellk hf rfl
  have r2 : W.cell? ⟨R, 2, none⟩ = some (.int .i64 p.k) := cellk hf rfl
  have r3 : W.cell? ⟨R, 3, none⟩ = some (.int .u64 (p.tm : Int)) := cellk hf rfl
  have r4 : W.cell? ⟨R, 4, none⟩ = some (.int .i64 p.vt) := cellk hf rfl
  have r5 : W.cell? ⟨R, 5, none⟩ = some (.int .u64 (p.bs : Int)) := cellk hf rfl
  have r6 : W.cell? ⟨R, 6, none⟩ = some (.int .u64 (p.bt : Int)) := cellk hf rfl
  have r7 : W.cell? ⟨R, 7, none⟩ = some (d) := cellk hf rfl
  have r8 : W.cell? ⟨R, 8, none⟩ = some (l) := cellk hf rfl
  have r9 : W.cell? ⟨R, 9, none⟩ = some (.int .u64 (p.cm : Int)) := cellk hf rfl
  have r10 : W.cell? ⟨R, 10, none⟩ = some (.int .u8 (p.rl : Int)) := cellk hf rfl
  have r11 : W.cell? ⟨R, 11, none⟩ = some (.int .i64 p.ld) := cellk hf rfl
  have r12 : W.cell? ⟨R, 12, none⟩ = some (.int .i64 p.lf) := cellk hf rfl
  have r13 : W.cell? ⟨R, 13, none⟩ = some (v) := cellk hf rfl
  have r14 : W.cell? ⟨R, 14, none⟩ = some (n) := cellk hf rfl
  have r15 : W.cell? ⟨R, 15, none⟩ = some (m) := cellk hf rfl
  refine bodyPost_ret (v := .tuple #[.agg #[.int .i64 p.n, .int .i64 p.s, .int .i64 p.k, .int .u64 (p.tm : Int), .int .i64 p.vt, .int .u64 (p.bs : Int), .int .u64 (p.bt : Int), d, l, .int .u64 (p.cm : Int), .int .u8 (p.rl : Int), .int .i64 p.ld, .int .i64 p.lf, v, n, m], .slice none 0 0]) (by simp [results, Try.results17, go_sem, g6, g7, r0, r1, r2, r3, r4, r5, r6, r7, r8, r9, r10, r11, r12, r13, r14, r15]) rfl ⟨_, _, _, _, _, qs, rfl, hq, hst, hbl⟩

end Go.Proofs.Ytjbailnnaigjbaa
