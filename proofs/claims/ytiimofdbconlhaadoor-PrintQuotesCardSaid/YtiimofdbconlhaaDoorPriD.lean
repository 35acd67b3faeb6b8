/- A stack with a row on it, the first part on top. -/
import Derived.Test.YtiimofdbconlhaaDoorPriC
namespace Go.Proofs.YtiimofdbconlhaaDoor
open Go.RowKit Go.Shelf PriM

attribute [local go_sem] Oper.semAt_some

/-- A block of two cells: a part's own. -/
def Box2 (W : World) (B : Nat) (p : Pv) : Prop := W.heap[B]? = some (.cells #[.string p.s, fnV p.f] 51 (0, 0))
theorem Box2.kept {W W' : World} {row : Option Nat} {B : Nat} {p : Pv} (h : Box2 W B p) (hg : W.grownBy W' row) (hne : some B ≠ row) : Box2 W' B p := (hg.block B (Array.getElem?_eq_some_iff.1 h).1 hne).trans h
theorem Box2.own {β : Type} {B : Nat} {p : Pv} : Go.Own (fun (_ : β) W => Box2 W B p) := fun _ X Y row hs hg hrow =>
  hs.kept hg (fun e' => by obtain ⟨o, ho, hc⟩ := hrow B e'.symm; rw [show X.heap[B]? = _ from hs] at ho; cases ho; cases hc)
theorem Box2.c0 {W : World} {B : Nat} {p : Pv} (h : Box2 W B p) : W.cell? ⟨B, 0, none⟩ = some (.string p.s) := by simp [World.cell?, show W.heap[B]? = _ from h]
theorem Box2.c1 {W : World} {B : Nat} {p : Pv} (h : Box2 W B p) : W.cell? ⟨B, 1, none⟩ = some (fnV p.f) := by simp [World.cell?, show W.heap[B]? = _ from h]
theorem cells_two_new (w : World) (x y : Value) (t : TypeId) : ∀ j u, [x, y][j]? = some u → (w.alloc (.cells #[x, y] t)).cell? ((⟨w.heap.size, 0, none⟩ : Addr).add j) = some u := by
  intro j u hj
  exact World.news_of_block (w := w.alloc (.cells #[x, y] t)) (heap_alloc_new w _) j u (by simpa using hj)

/-- Which blocks the row of a stack may lie in. -/
def RowOf (todo : Value) (n : Nat) (v : Value) : Prop := ∀ g, v.ownBlock = some g → todo.ownBlock = some g ∨ n ≤ g

theorem pushed_step {w W w1 : World} {todo row v v' : Value} {base : Nat} {ts : List Pv} {pre : List (Nat × Pv)} {x : Nat × Pv} {tmp : Obj}
    (hg : w.grownBy W todo.ownBlock) (hr : RowOf todo w.heap.size v) (hb : base ≤ w.heap.size)
    (hv : Boxed W w.heap.size 53 v) (hv2 : Boxed W (w.heap.size + 1) 53 row) (hrow : W.ownsRow base 51 2 v (ts.length + pre.length) (Cs (ts ++ pre.map (·.2))))
    (hown : w1.ownsRow base 51 2 v' (ts.length + pre.length + 1) (Cs (ts ++ pre.map (·.2)) ++ [.string x.2.s, fnV x.2.f])) (hgr : (W.alloc tmp).grownBy w1 v.ownBlock)
    (hnew : ∀ g, v'.ownBlock = some g → v.ownBlock = some g ∨ W.heap.size ≤ g) :
    Boxed w1 w.heap.size 53 v ∧ KeepsOthers W (w1.setCell ⟨w.heap.size, 0, none⟩ v') ∧ KeptB (w.heap.size + 2) (fun k => todo.ownBlock = some k ∨ k = w.heap.size) W (w1.setCell ⟨w.heap.size, 0, none⟩ v') ∧
    ((∃ u, Boxed (w1.setCell ⟨w.heap.size, 0, none⟩ v') w.heap.size 53 u ∧ (w1.setCell ⟨w.heap.size, 0, none⟩ v').ownsRow base 51 2 u (ts.length + (pre ++ [x]).length) (Cs (ts ++ (pre ++ [x]).map (·.2))) ∧ RowOf todo w.heap.size u) ∧ Boxed (w1.setCell ⟨w.heap.size, 0, none⟩ v') (w.heap.size + 1) 53 row ∧ w.grownBy (w1.setCell ⟨w.heap.size, 0, none⟩ v') todo.ownBlock) := by
  obtain ⟨h1, h2, h3, h4, _⟩ := hv.appended (n₀ := base) (by decide) hrow (Nat.le_trans hb hg.size) hb hown hgr
  have hw1 : w.grownBy w1 todo.ownBlock := grownBy_trans (grownBy_trans hg (World.grownBy_alloc W tmp none) (fun g e => by cases e)) hgr (fun g e => by
    rcases hr g e with h | h
    · exact .inl (by rw [e, h])
    · exact .inr h)
  have hne := hv2.not_row (e := 51) (by decide) hrow
  have hlt := hv2.lt
  refine ⟨h1, h4, ((((KeptB.refl _ _ W).alloc (by omega) tmp).grown (by simp; omega) hgr fun g e => ?_)).setCell (.inl (.inr rfl)) _, ⟨v', h2, ?_, ?_⟩, ((hv2.alloc tmp).kept hgr hne).other (by omega) _, grownBy_trans hw1 (grownBy_setCell' w1 _ _) (fun g e => by cases e; exact .inr (Nat.le_refl _))⟩
  · rcases hr g e with h | h
    · exact .inl (.inl h)
    · by_cases hh : g = w.heap.size
      · exact .inl (.inr hh)
      · by_cases hh2 : g = w.heap.size + 1
        · exact absurd (by rw [e, hh2]) hne
        · exact .inr (by omega)
  · rw [List.length_append, List.map_append, ← List.append_assoc, Cs_append]
    exact h3
  · intro g e
    rcases hnew g e with h | h
    · exact hr g h
    · exact .inr (Nat.le_trans hg.size h)
end Go.Proofs.YtiimofdbconlhaaDoor
