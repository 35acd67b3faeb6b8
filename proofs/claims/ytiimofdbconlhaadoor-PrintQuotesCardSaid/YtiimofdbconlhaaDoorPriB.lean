/- Parts in memory; a stack with a row on it. -/
import Derived.Test.YtiimofdbconlhaaDoorRows
import Derived.Test.YtiimofdbconlhaaDoorChecked
import Derived.Test.YtiimofdbconlhaaDoorPriA
import Derived.WalkKit
import Derived.WalkLawsBesides
import Derived.WalkSpells
import Derived.Outline
import Derived.Lib.Hide
import Derived.OwnWalk
import Derived.OneCell
import Derived.Deep.DeepFit
import Derived.Laws.Rows
import Derived.Laws.EntriesVeiled
import Derived.Laws.AppendOwn
import Derived.Laws.AppendOwnNone
import Derived.Deep.AppendLies
import Derived.Laws.Pointers
import Derived.RangeFuncNested
import Derived.RangeFuncBound
import Derived.RangeFuncCalls
import Derived.RangeFuncLeaves
import Derived.Shelf.Abstract
import Derived.Shelf.RegionOpen
import Derived.OwnWalkIn
import Derived.TacticsInMore
import Derived.LoopNIn
import Derived.LoopIn
import Derived.Maps.AppendAt
namespace Go.Proofs.YtiimofdbconlhaaDoor
open Go.RowKit Go.Shelf PriM

/-- A part as a value: its text, and what makes more of it: which function, over which box. -/
structure Pv where
  s : ByteArray
  f : Option (Nat × Nat)

def fnV : Option (Nat × Nat) → Value
  | none => .nilFunc
  | some (k, b) => .func (.func k) #[] #[.pointer (some ⟨b, 0, none⟩)]

def Pv.agg (p : Pv) : Value := .agg #[.string p.s, fnV p.f]

/-- Parts as cells. -/
def Cs : List Pv → List Value
  | [] => []
  | p :: l => .string p.s :: fnV p.f :: Cs l

theorem Cs_length (l : List Pv) : (Cs l).length = l.length * 2 := by
  induction l with
  | nil => rfl
  | cons p l ih => simp only [Cs, List.length_cons, ih]; omega
theorem Cs_append (a b : List Pv) : Cs (a ++ b) = Cs a ++ Cs b := by
  induction a with
  | nil => rfl
  | cons p l ih => simp only [List.cons_append, Cs, ih]
theorem fnV_one (f : Option (Nat × Nat)) : (fnV f).oneCell' = true := by
  rcases f with _ | ⟨k, b⟩ <;> rfl
theorem Cs_one (l : List Pv) : ∀ u ∈ Cs l, u.oneCell' = true := by
  induction l with
  | nil => simp [Cs]
  | cons p l ih =>
    intro u hu
    simp only [Cs, List.mem_cons] at hu
    rcases hu with rfl | rfl | hu
    · rfl
    · exact fnV_one _
    · exact ih u hu
theorem Cs_get (l : List Pv) : ∀ j p, l[j]? = some p → (Cs l)[j * 2]? = some (.string p.s) ∧ (Cs l)[j * 2 + 1]? = some (fnV p.f) := by
  induction l with
  | nil => intro j p h; simp at h
  | cons q l ih =>
    intro j p h
    cases j with
    | zero => simp at h; subst h; exact ⟨rfl, rfl⟩
    | succ j =>
      have := ih j p (by simpa using h)
      rw [show (j + 1) * 2 = j * 2 + 1 + 1 by omega]
      simp only [Cs, List.getElem?_cons_succ]
      exact this
theorem Cs_take (l : List Pv) (k : Nat) : (Cs l).take (k * 2) = Cs (l.take k) := by
  induction l generalizing k with
  | nil => simp [Cs]
  | cons p l ih =>
    cases k with
    | zero => simp [Cs]
    | succ k =>
      rw [show (k + 1) * 2 = k * 2 + 1 + 1 by omega]
      simp only [Cs, List.take_succ_cons, ih]

theorem partInfo : (Tryd.prog.info? 51).map (fun i => (i.zero, i.size, i.bytes)) = some (some (.agg #[.string ⟨#[]⟩, .nilFunc]), 2, 24) := by kernel_rfl

/-- A row of parts of the call's own. -/
def OwnP (w : World) (base : Nat) (v : Value) (l : List Pv) : Prop := w.ownsRow base 51 2 v l.length (Cs l)

/-- Parts that lie at a place. -/
def CellsP (w : World) (b off : Nat) (l : List Pv) : Prop :=
  ∀ j p, l[j]? = some p → w.cell? ⟨b, off + j * 2, none⟩ = some (.string p.s) ∧ w.cell? ⟨b, off + j * 2 + 1, none⟩ = some (fnV p.f)

/-- A slice that reads as parts. -/
def RdP (w : World) (v : Value) (l : List Pv) : Prop :=
  (∃ o c, v = .slice o 0 c ∧ l = []) ∨
  ∃ b off c, v = .slice (some ⟨b, off, none⟩) l.length c ∧ 0 < l.length ∧ l.length ≤ c ∧ c ≤ maxLen ∧ CellsP w b off l

theorem OwnP.rd {w : World} {base : Nat} {v : Value} {l : List Pv} (h : OwnP w base v l) : RdP w v l := by
  have hc := h
  rcases h.2 with ⟨rfl, hn⟩ | ⟨g, cap, cur, rfl, hb, hg, hn, hm, _⟩
  · exact .inl ⟨_, _, rfl, List.eq_nil_of_length_eq_zero hn⟩
  · rcases l with _ | ⟨p, l⟩
    · exact .inl ⟨_, _, rfl, rfl⟩
    · refine .inr ⟨g, 0, cap, rfl, by simp, hn, hm, fun j m hj => ?_⟩
      obtain ⟨h1, h2⟩ := Cs_get _ j m hj
      have c1 := World.ownsRow.cells hc (g := g) rfl _ _ h1
      have c2 := World.ownsRow.cells hc (g := g) rfl _ _ h2
      rw [add_none] at c1 c2
      rw [← Nat.add_assoc] at c2
      exact ⟨c1, c2⟩

/-- All but some blocks, and what is new, lies as it lay. -/
def KeptB (n : Nat) (Z : Nat → Prop) (w w' : World) : Prop := ∀ k, k < n → ¬ Z k → w'.heap[k]? = w.heap[k]?
theorem KeptB.trans {n : Nat} {Z : Nat → Prop} {a b c : World} (h : KeptB n Z a b) (k : KeptB n Z b c) : KeptB n Z a c := fun i hi hr => (k i hi hr).trans (h i hi hr)
theorem KeptB.refl (n : Nat) (Z : Nat → Prop) (a : World) : KeptB n Z a a := fun _ _ _ => rfl
theorem KeptB.cell {n : Nat} {Z : Nat → Prop} {a b : World} (h : KeptB n Z a b) {p : Addr} (hp : p.block < n) (hr : ¬ Z p.block) : b.cell? p = a.cell? p := World.cell?_of_block (h _ hp hr)
theorem keptB_b {n : Nat} {Z : Nat → Prop} {w : World} (hn : n ≤ w.heap.size) (W : World) (l : Nat) (o o' : Obj) (hl : w.heap.size ≤ l) (_ : W.heap[l]? = some o) (_ : o.isCells = false) (_ : o.isWalk = false) : KeptB n Z W (W.putObj l o') :=
  fun _ hk _ => World.putObj_heap_other (by omega)
theorem KeptB.alloc {n : Nat} {Z : Nat → Prop} {a b : World} (h : KeptB n Z a b) (hn : n ≤ b.heap.size) (o : Obj) : KeptB n Z a (b.alloc o) := fun k hk hz => (Below.heap_alloc _ _ _ (by omega)).trans (h k hk hz)
theorem KeptB.setCell {n : Nat} {Z : Nat → Prop} {a b : World} (h : KeptB n Z a b) {p : Addr} (hp : Z p.block ∨ n ≤ p.block) (u : Value) : KeptB n Z a (b.setCell p u) := fun k hk hz => (Below.heap_setCell _ _ _ _ (by
  rintro rfl
  rcases hp with hp | hp
  · exact hz hp
  · omega)).trans (h k hk hz)
theorem KeptB.grown {n : Nat} {Z : Nat → Prop} {a b c : World} {row : Option Nat} (h : KeptB n Z a b) (hn : n ≤ b.heap.size) (hg : b.grownBy c row) (hr : ∀ g, row = some g → Z g ∨ n ≤ g) : KeptB n Z a c := fun k hk hz => (hg.block k (by omega) (fun e => by
  rcases hr k e.symm with h' | h'
  · exact hz h'
  · omega)).trans (h k hk hz)
theorem grownBy_refl (w : World) (r : Option Nat) : w.grownBy w r := ⟨rfl, rfl, rfl, Nat.le_refl _, fun _ _ _ => rfl⟩
theorem grownBy_trans {a b c : World} {r row : Option Nat} (h : a.grownBy b r) (k : b.grownBy c row) (hr : ∀ g, row = some g → row = r ∨ a.heap.size ≤ g) : a.grownBy c r :=
  ⟨k.os.trans h.os, k.tape.trans h.tape, k.output.trans h.output, Nat.le_trans h.size k.size, fun i hi hne => (k.block i (Nat.lt_of_lt_of_le hi h.size) (fun e => by
    rcases hr i e.symm with h' | h'
    · exact hne (e.trans h')
    · omega)).trans (h.block i hi hne)⟩
theorem grownBy_of_below {a b : World} {n : Nat} (h : Below n a b) (hn : a.heap.size ≤ n) (r : Option Nat) : a.grownBy b r := ⟨h.os, h.tape, h.output, h.size, fun k hk _ => h.block k (by omega)⟩
theorem below_of_grownBy {a b : World} {n : Nat} {r : Option Nat} (h : a.grownBy b r) (hn : n ≤ a.heap.size) (hr : ∀ g, r = some g → n ≤ g) : Below n a b :=
  ⟨h.os, h.tape, h.output, h.size, fun k hk => h.block k (by omega) (fun e => by have := hr k e.symm; omega)⟩
end Go.Proofs.YtiimofdbconlhaaDoor
