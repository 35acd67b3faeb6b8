/- Appending moves; places compared. -/
import Derived.Test.YtjmfgpklemhomabTurH
import Derived.Laws.AppendOwnNone
namespace Go.Proofs.Ytjmfgpklemhomab
open Go.RowKit TurF TurP

theorem append_rdM {w : World} {base : Nat} {v s : Value} {l k : List Mv} (hown : OwnM w base v l) (hs : RdM w s k) (hb : l.length + k.length ≤ 1000000) (hbase : base ≤ w.heap.size) (ty : TypeId) :
    ∃ v' w', (Builtin.append_ #[22, 22] ty #[v, s]).run Try.prog w = .ok v' w' ∧ OwnM w' base v' (l ++ k) ∧ w.grownBy w' v.ownBlock := by
  obtain ⟨i0, hi0, hz0, hz1, hz2⟩ := info_parts moveInfo
  have key : ∀ (a : Addr) (c : Nat), (∀ j u, (CsM k)[j]? = some u → w.cell? (a.add j) = some u) → ∃ v' w', (Builtin.append_ #[22, 22] ty #[v, .slice (some a) k.length c]).run Try.prog w = .ok v' w' ∧ OwnM w' base v' (l ++ k) ∧ w.grownBy w' v.ownBlock := by
    intro a c hc
    obtain ⟨v', w', hr, h2, h3, _⟩ := run_append_own_at (P := Try.prog) w base 22 ty 43 i0 _ 2 16 Try.underlying22 hi0 hz0 hz1 hz2 rfl (by decide) v l.length (CsM l) hown a k.length c (CsM k)
      (CsM_length k) hc (CsM_one k) (by unfold maxLen; omega) (by omega) hbase
    exact ⟨v', w', hr, by unfold OwnM; rw [List.length_append, CsM_append]; exact h2, h3⟩
  rcases hs with ⟨o, c, ho, rfl, rfl⟩ | ⟨b, off, c, rfl, h0, hn, hm, hc⟩
  · rcases o with _ | a
    · obtain rfl := ho rfl
      refine ⟨v, w, ?_, by simpa [OwnM] using hown, World.grownBy.refl w _⟩
      have := run_append_owned_none (P := Try.prog) (w := w) base 22 ty 43 i0 2 Try.underlying22 hi0 _ _ _ hown
      exact this
    · exact key a c (by intro j u h; simp [CsM] at h)
  · refine key ⟨b, off, none⟩ c fun j u hu => ?_
    obtain ⟨p, hp, h1⟩ := CsM_at k j u hu
    obtain ⟨c1, c2⟩ := hc _ _ hp
    rw [add_none]
    rcases h1 with ⟨h1, rfl⟩ | ⟨h1, rfl⟩
    · rw [show off + j = off + j / 2 * 2 by omega]; exact c1
    · rw [show off + j = off + j / 2 * 2 + 1 by omega]; exact c2

/-- An append whose run is known, in a plain list of operations. -/
theorem wpList_append_known {P : Program} {w w' : World} {ops : Array Oper} {rest : List Oper} {o : Oper} {a : Act} {Q : Exit → Act → World → Prop} (hgd : o.guard = none) (s x : Operand) (t u : TypeId)
    (ho : o.op = .call { callee := .builtin .append, args := #[s, x], argTypes := #[t, u] }) (v y v' : Value) (hs : a.eval s = v) (hx : a.eval x = y)
    (hr : (Builtin.append_ #[t, u] o.type #[v, y]).run P w = .ok v' w') (h : wpList P ops Q rest (a.put o.dst v') w') : wpList P ops Q (o :: rest) a w := by
  refine wpList_plain hgd fun K hK => ?_
  unfold Oper.wp execOp
  simp only [ho, resolve, invoke, builtin, Sem.run_bind, Sem.run_pure, Result.andThen_ok, List.map_toArray, List.map_cons, List.map_nil, hs, hx, hr]
  exact hK _ _ h

theorem neqPlace (w : World) (a b c d : Int) : (binOp .neq 29 (.agg #[.int .i64 a, .int .i64 b]) (.agg #[.int .i64 c, .int .i64 d])).run Try.prog w = .ok (.bool !(a == c && b == d)) w := by
  have h1 := run_equalIn_agg (P := Try.prog) w 9999 29 #[.int .i64 a, .int .i64 b] #[.int .i64 c, .int .i64 d] (by kernel_rfl) (by kernel_rfl)
  rw [run_neq_struct, h1]
  by_cases ha : a = c <;> by_cases hb : b = d <;> simp [go_sem, ha, hb]

theorem neqPlace_same (w : World) (p : Pt) : (binOp .neq 29 (.agg #[.int .i64 p.1, .int .i64 p.2]) (.agg #[.int .i64 p.1, .int .i64 p.2])).run Try.prog w = .ok (.bool false) w := by
  rw [neqPlace]; simp

theorem OwnM.below {w w' : World} {base k : Nat} {v : Value} {ps : List Mv} (h : OwnM w base v ps) (hb : Below k w w') (hk : w.heap.size ≤ k) : OwnM w' base v ps := own_below h hb hk
theorem OwnP.below {w w' : World} {base k : Nat} {v : Value} {ps : List Pt} (h : OwnP w base v ps) (hb : Below k w w') (hk : w.heap.size ≤ k) : OwnP w' base v ps := own_below h hb hk
theorem OwnM.alloc {w : World} {base : Nat} {v : Value} {ps : List Mv} (h : OwnM w base v ps) (o : Obj) : OwnM (w.alloc o) base v ps := World.ownsRow.alloc h o

/-- Moves that are small are neither too many nor too far. -/
theorem far_small {l : List Mv} (h : ∀ m ∈ l, -999 ≤ m.2 ∧ m.2 ≤ 999) : l.any far = false := by
  rw [List.any_eq_false]
  intro m hm
  have := h m hm
  unfold far
  simp
  intro _
  omega
theorem far_turn (n : Int) : far (true, n) = false := rfl
end Go.Proofs.Ytjmfgpklemhomab
