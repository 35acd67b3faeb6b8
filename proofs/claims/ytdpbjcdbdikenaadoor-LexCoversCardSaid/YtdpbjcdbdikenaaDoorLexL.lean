/- Tokens in memory. -/
import Derived.Test.YtdpbjcdbdikenaaDoorLexK
import Derived.Laws.AppendOwnNone
namespace Go.Proofs.YtdpbjcdbdikenaaDoor
open Go.RowKit LexM

def tkS (t : Tk) : Value := .string ⟨t.text.toArray⟩
def tkV (t : Tk) : Value := .agg #[.int .u8 (t.kind : Int), tkS t, .int .i64 (t.at_ : Int)]

/-- Tokens as values. -/
def CsT : List Tk → List Value
  | [] => []
  | p :: ps => .int .u8 (p.kind : Int) :: tkS p :: .int .i64 (p.at_ : Int) :: CsT ps
theorem CsT_length (ps : List Tk) : (CsT ps).length = ps.length * 3 := by
  induction ps with
  | nil => rfl
  | cons p ps ih => simp only [CsT, List.length_cons, ih]; omega
theorem CsT_append (a b : List Tk) : CsT (a ++ b) = CsT a ++ CsT b := by
  induction a with
  | nil => rfl
  | cons p ps ih => simp only [List.cons_append, CsT, ih]
theorem CsT_one (ps : List Tk) : ∀ u ∈ CsT ps, u.oneCell' = true := by
  induction ps with
  | nil => simp [CsT]
  | cons p ps ih =>
    intro u hu
    simp only [CsT, List.mem_cons] at hu
    rcases hu with rfl | rfl | rfl | hu
    · rfl
    · rfl
    · rfl
    · exact ih u hu
theorem CsT_get (ps : List Tk) : ∀ j p, ps[j]? = some p → (CsT ps)[j * 3]? = some (.int .u8 (p.kind : Int)) ∧ (CsT ps)[j * 3 + 1]? = some (tkS p) ∧ (CsT ps)[j * 3 + 2]? = some (.int .i64 (p.at_ : Int)) := by
  induction ps with
  | nil => intro j p h; simp at h
  | cons q ps ih =>
    intro j p h
    cases j with
    | zero => simp at h; subst h; exact ⟨rfl, rfl, rfl⟩
    | succ j =>
      have := ih j p (by simpa using h)
      rw [show (j + 1) * 3 = j * 3 + 1 + 1 + 1 by omega]
      simp only [CsT, List.getElem?_cons_succ]
      exact this
theorem CsT_at (ps : List Tk) : ∀ j u, (CsT ps)[j]? = some u → ∃ p, ps[j / 3]? = some p ∧ ((j % 3 = 0 ∧ u = .int .u8 (p.kind : Int)) ∨ (j % 3 = 1 ∧ u = tkS p) ∨ (j % 3 = 2 ∧ u = .int .i64 (p.at_ : Int))) := by
  intro j u h
  have hl : j < ps.length * 3 := by have := (List.getElem?_eq_some_iff.1 h).1; rw [CsT_length] at this; exact this
  have hp : ps[j / 3]? = some ps[j / 3] := List.getElem?_eq_getElem (by omega)
  obtain ⟨h1, h2, h3⟩ := CsT_get ps _ _ hp
  refine ⟨_, hp, ?_⟩
  have h0 : j % 3 = 0 ∨ j % 3 = 1 ∨ j % 3 = 2 := by omega
  rcases h0 with h0 | h0 | h0
  · left
    rw [show j / 3 * 3 = j by omega, h] at h1
    exact ⟨h0, by simpa using h1⟩
  · right; left
    rw [show j / 3 * 3 + 1 = j by omega, h] at h2
    exact ⟨h0, by simpa using h2⟩
  · right; right
    rw [show j / 3 * 3 + 2 = j by omega, h] at h3
    exact ⟨h0, by simpa using h3⟩

theorem tokInfo : (Tryd.prog.info? 33).map (fun i => (i.zero, i.size, i.bytes)) = some (some (.agg #[.int .u8 0, .string ⟨#[]⟩, .int .i64 0]), 3, 32) := by kernel_rfl

/-- A slice of tokens of the call's own. -/
def OwnT (w : World) (base : Nat) (v : Value) (ps : List Tk) : Prop := w.ownsRow base 33 3 v ps.length (CsT ps)

/-- Tokens that lie at a place. -/
def CellsT (w : World) (b off : Nat) (ps : List Tk) : Prop :=
  ∀ j t, ps[j]? = some t → w.cell? ⟨b, off + j * 3, none⟩ = some (.int .u8 (t.kind : Int)) ∧ w.cell? ⟨b, off + j * 3 + 1, none⟩ = some (tkS t) ∧ w.cell? ⟨b, off + j * 3 + 2, none⟩ = some (.int .i64 (t.at_ : Int))

/-- A slice that reads as tokens. -/
def RdT (w : World) (v : Value) (ps : List Tk) : Prop :=
  (∃ o c, (o = none → c = 0) ∧ v = .slice o 0 c ∧ ps = []) ∨
  ∃ b off c, v = .slice (some ⟨b, off, none⟩) ps.length c ∧ 0 < ps.length ∧ ps.length ≤ c ∧ c ≤ maxLen ∧ CellsT w b off ps

theorem OwnT.rd {w : World} {base : Nat} {v : Value} {ps : List Tk} (h : OwnT w base v ps) : RdT w v ps := by
  have hc := h
  rcases h.2 with ⟨rfl, hn⟩ | ⟨g, cap, cur, rfl, hb, hg, hn, hm, _⟩
  · exact .inl ⟨_, _, fun _ => rfl, rfl, List.eq_nil_of_length_eq_zero hn⟩
  · rcases ps with _ | ⟨p, ps⟩
    · exact .inl ⟨_, _, (by simp), rfl, rfl⟩
    · refine .inr ⟨g, 0, cap, rfl, by simp, hn, hm, fun j m hj => ?_⟩
      obtain ⟨h1, h2, h3⟩ := CsT_get _ j m hj
      have c1 := World.ownsRow.cells hc (g := g) rfl _ _ h1
      have c2 := World.ownsRow.cells hc (g := g) rfl _ _ h2
      have c3 := World.ownsRow.cells hc (g := g) rfl _ _ h3
      rw [add_none] at c1 c2 c3
      rw [← Nat.add_assoc] at c2 c3
      exact ⟨c1, c2, c3⟩

theorem CellsT.below {w w' : World} {b off n : Nat} {ps : List Tk} (h : CellsT w b off ps) (hb : Below n w w') (hn : w.heap.size ≤ n) : CellsT w' b off ps := fun j t ht => by
  obtain ⟨h1, h2, h3⟩ := h j t ht
  have l1 := World.block_lt_of_cell? w _ h1
  simp only at l1
  exact ⟨(hb.cell (by simp only; omega)).trans h1, (hb.cell (by simp only; omega)).trans h2, (hb.cell (by simp only; omega)).trans h3⟩
theorem RdT.below {w w' : World} {n : Nat} {v : Value} {ps : List Tk} (h : RdT w v ps) (hb : Below n w w') (hn : w.heap.size ≤ n) : RdT w' v ps := by
  rcases h with h | ⟨b, off, c, h1, h2, h3, h4, h5⟩
  · exact .inl h
  · exact .inr ⟨b, off, c, h1, h2, h3, h4, h5.below hb hn⟩
theorem OwnT.below {w w' : World} {base k : Nat} {v : Value} {ps : List Tk} (h : OwnT w base v ps) (hb : Below k w w') (hk : w.heap.size ≤ k) : OwnT w' base v ps :=
  own_kept h (S := fun k' => k ≤ k') (Below.kept hb fun _ h _ => h) (fun k' hk' => by have := (h.lt k' hk').2; omega)
theorem OwnT.alloc {w : World} {base : Nat} {v : Value} {ps : List Tk} (h : OwnT w base v ps) (o : Obj) : OwnT (w.alloc o) base v ps := World.ownsRow.alloc h o
theorem ownT_base {w : World} {b b' : Nat} {v : Value} {ps : List Tk} (h : OwnT w b v ps) (hb : b' ≤ b) : OwnT w b' v ps := own_base h hb

theorem cells_three_new (w : World) (x y z : Value) (t : TypeId) : ∀ j u, [x, y, z][j]? = some u → (w.alloc (.cells #[x, y, z] t)).cell? ((⟨w.heap.size, 0, none⟩ : Addr).add j) = some u := by
  intro j u hj
  exact World.news_of_block (w := w.alloc (.cells #[x, y, z] t)) (heap_alloc_new w _) j u (by simpa using hj)

/-- The whole of a text, as what is read so far, and what is left. -/
def app (o : List Tk) (r : Nat × Nat × List Tk) : Nat × Nat × List Tk := if r.1 = 0 then (0, r.2.1, o ++ r.2.2) else r

theorem app_pre (o : List Tk) (t : Tk) (r : Nat × Nat × List Tk) : app o (pre t r) = app (o ++ [t]) r := by
  unfold app pre
  split <;> simp_all
theorem app_nil (r : Nat × Nat × List Tk) : app [] r = r := by
  unfold app
  split
  · rename_i h; rw [← h]; rfl
  · rfl

/-- What holds at the head of a round. -/
structure TI (w w' : World) (s : ByteArray) (v : Value) (o : List Tk) (p : Nat) : Prop where
  own : OwnT w' w.heap.size v o
  bel : Below w.heap.size w w'
  le : p ≤ s.size
  len : o.length ≤ p
  eq : toks 0 (bs s) = app o (toks p ((bs s).drop p))

/-- What Tokens leaves. -/
def TPost (w : World) (r : Nat × Nat × List Tk) (e : Ending) (w' : World) : Prop :=
  ∃ v, e = .returned (.tuple #[v, .int .i64 (r.2.1 : Int), .int .i64 (r.1 : Int)]) ∧ OwnT w' w.heap.size v r.2.2 ∧ Below w.heap.size w w'
end Go.Proofs.YtdpbjcdbdikenaaDoor
