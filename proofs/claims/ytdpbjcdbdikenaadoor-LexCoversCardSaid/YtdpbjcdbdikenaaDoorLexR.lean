/- Appending tokens. -/
import Derived.Test.YtdpbjcdbdikenaaDoorLexP
import Derived.Test.YtdpbjcdbdikenaaDoorLexQ
import Derived.Lib.AppendStr
namespace Go.Proofs.YtdpbjcdbdikenaaDoor
open Go.RowKit LexM

theorem append_rdT {w : World} {base : Nat} {v s : Value} {l k : List Tk} (hown : OwnT w base v l) (hs : RdT w s k) (hb : l.length + k.length ≤ 1000000) (hbase : base ≤ w.heap.size) (ty : TypeId) :
    ∃ v' w', (Builtin.append_ #[23, 23] ty #[v, s]).run Tryd.prog w = .ok v' w' ∧ OwnT w' base v' (l ++ k) ∧ w.grownBy w' v.ownBlock := by
  obtain ⟨i0, hi0, hz0, hz1, hz2⟩ := info_parts tokInfo
  have key : ∀ (a : Addr) (c : Nat), (∀ j u, (CsT k)[j]? = some u → w.cell? (a.add j) = some u) → ∃ v' w', (Builtin.append_ #[23, 23] ty #[v, .slice (some a) k.length c]).run Tryd.prog w = .ok v' w' ∧ OwnT w' base v' (l ++ k) ∧ w.grownBy w' v.ownBlock := by
    intro a c hc
    obtain ⟨v', w', hr, h2, h3, _⟩ := run_append_own_at (P := Tryd.prog) w base 23 ty 33 i0 _ 3 32 Tryd.underlying23 hi0 hz0 hz1 hz2 rfl (by decide) v l.length (CsT l) hown a k.length c (CsT k)
      (CsT_length k) hc (CsT_one k) (by unfold maxLen; omega) (by omega) hbase
    exact ⟨v', w', hr, by unfold OwnT; rw [List.length_append, CsT_append]; exact h2, h3⟩
  rcases hs with ⟨o, c, ho, rfl, rfl⟩ | ⟨b, off, c, rfl, h0, hn, hm, hc⟩
  · rcases o with _ | a
    · obtain rfl := ho rfl
      refine ⟨v, w, ?_, by simpa [OwnT] using hown, World.grownBy.refl w _⟩
      have := run_append_owned_none (P := Tryd.prog) (w := w) base 23 ty 33 i0 3 Tryd.underlying23 hi0 _ _ _ hown
      exact this
    · exact key a c (by intro j u h; simp [CsT] at h)
  · refine key ⟨b, off, none⟩ c fun j u hu => ?_
    obtain ⟨p, hp, h1⟩ := CsT_at k j u hu
    obtain ⟨c1, c2, c3⟩ := hc _ _ hp
    rw [add_none]
    rcases h1 with ⟨h1, rfl⟩ | ⟨h1, rfl⟩ | ⟨h1, rfl⟩
    · rw [show off + j = off + j / 3 * 3 by omega]; exact c1
    · rw [show off + j = off + j / 3 * 3 + 1 by omega]; exact c2
    · rw [show off + j = off + j / 3 * 3 + 2 by omega]; exact c3

/-- An append whose run is known, in a plain list of operations. -/
theorem wpList_append_known {P : Program} {w w' : World} {ops : Array Oper} {rest : List Oper} {o : Oper} {a : Act} {Q : Exit → Act → World → Prop} (hgd : o.guard = none) (s x : Operand) (t u : TypeId)
    (ho : o.op = .call { callee := .builtin .append, args := #[s, x], argTypes := #[t, u] }) (v y v' : Value) (hs : a.eval s = v) (hx : a.eval x = y)
    (hr : (Builtin.append_ #[t, u] o.type #[v, y]).run P w = .ok v' w') (h : wpList P ops Q rest (a.put o.dst v') w') : wpList P ops Q (o :: rest) a w := by
  refine wpList_plain hgd fun K hK => ?_
  unfold Oper.wp execOp
  simp only [ho, resolve, invoke, builtin, Sem.run_bind, Sem.run_pure, Result.andThen_ok, List.map_toArray, List.map_cons, List.map_nil, hs, hx, hr]
  exact hK _ _ h

/-- Tokens without the last one. -/
theorem RdT.init {w : World} {o : Option Addr} {n c : Nat} {l : List Tk} (h : RdT w (.slice o n c) l) (hl : l ≠ []) : n = l.length ∧ 1 ≤ n ∧ n ≤ c ∧ o.isSome = true ∧ RdT w (.slice o (n - 1) c) l.dropLast := by
  rcases h with ⟨_, _, _, _, rfl⟩ | ⟨b, off, c', hv, h2, h3, h4, h5⟩
  · exact absurd rfl hl
  · injection hv with e1 e2 e3
    subst e1 e2 e3
    refine ⟨rfl, h2, h3, rfl, ?_⟩
    have hlen : l.dropLast.length = l.length - 1 := List.length_dropLast
    by_cases h0 : l.dropLast = []
    · left
      rw [h0] at hlen
      rw [← hlen]
      exact ⟨some ⟨b, off, none⟩, c, (fun e => by cases e), rfl, h0⟩
    · right
      refine ⟨b, off, _, by rw [hlen], List.length_pos_iff.2 h0, by omega, h4, fun j t hj => ?_⟩
      refine h5 j t ?_
      have := (List.getElem?_eq_some_iff.1 hj).1
      rw [List.getElem?_dropLast] at hj
      split at hj
      · exact hj
      · cases hj

theorem bs_append (a b : ByteArray) : bs (a ++ b) = bs a ++ bs b := by
  show (a ++ b).data.toList = _
  rw [ByteArray.data_append, Array.toList_append]

theorem size_append (a b : ByteArray) : (a ++ b).size = a.size + b.size := by
  rw [← bs_length, bs_append, List.length_append, bs_length, bs_length]
end Go.Proofs.YtdpbjcdbdikenaaDoor
