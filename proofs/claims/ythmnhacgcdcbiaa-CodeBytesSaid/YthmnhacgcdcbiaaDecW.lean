/- Rows of the code's own instructions and functions. -/
import Derived.Test.YthmnhacgcdcbiaaCodX
namespace Go.Proofs.Ythmnhacgcdcbiaa
open Go.RowKit OctM CodM

theorem pinsInfo : (Try.prog.info? 34).map (fun i => (i.zero, i.size, i.bytes)) = some (some (.agg #[.int .u8 0, .int .i64 0, .int .i64 0, .string ⟨#[]⟩]), 4, 40) := by kernel_rfl
theorem pfunInfo : (Try.prog.info? 32).map (fun i => (i.zero, i.size, i.bytes)) = some (some (.agg #[.int .i64 0, .slice none 0 0]), 2, 32) := by kernel_rfl

def OwnJ (w : World) (base : Nat) (v : Value) (l : List Ins) : Prop := w.ownsRow base 34 4 v l.length (CsI l)
def OwnG (w : World) (base : Nat) (v : Value) (l : List (Int × Value)) : Prop := w.ownsRow base 32 2 v l.length (CsF l)
theorem OwnJ.rd {w : World} {base : Nat} {v : Value} {l : List Ins} (h : OwnJ w base v l) : RdI w v l := by
  have hc := h
  rcases h.2 with ⟨rfl, hn⟩ | ⟨g, cap, cur, rfl, hb, hg, hn, hm, _⟩
  · exact .inl ⟨_, _, rfl, List.eq_nil_of_length_eq_zero hn⟩
  · rcases l with _ | ⟨p, ps⟩
    · exact .inl ⟨_, _, rfl, rfl⟩
    · refine .inr ⟨g, 0, cap, rfl, by simp, hn, hm, fun j m hj => ?_⟩
      obtain ⟨h1, h2, h3, h4⟩ := CsI_get _ j m hj
      have c1 := World.ownsRow.cells hc (g := g) rfl _ _ h1
      have c2 := World.ownsRow.cells hc (g := g) rfl _ _ h2
      have c3 := World.ownsRow.cells hc (g := g) rfl _ _ h3
      have c4 := World.ownsRow.cells hc (g := g) rfl _ _ h4
      rw [add_none] at c1 c2 c3 c4
      rw [← Nat.add_assoc] at c2 c3 c4
      exact ⟨c1, c2, c3, c4⟩
theorem OwnG.rd {w : World} {base : Nat} {v : Value} {l : List (Int × Value)} {fs : List Fun} (h : OwnG w base v l) (hl : l.length = fs.length) (hx : ∀ (j : Nat) (f : Fun), fs[j]? = some f → ∃ u, l[j]? = some (f.caps, u) ∧ RdI w u f.code) : RdF w v fs := by
  have hc := h
  rcases h.2 with ⟨rfl, hn⟩ | ⟨g, cap, cur, rfl, hb, hg, hn, hm, _⟩
  · exact .inl ⟨_, _, rfl, List.eq_nil_of_length_eq_zero (by omega)⟩
  · rcases fs with _ | ⟨p, ps⟩
    · refine .inl ⟨some ⟨g, 0, none⟩, cap, ?_, rfl⟩
      rw [hl]; rfl
    · refine .inr ⟨g, 0, cap, by rw [hl], by simp, by omega, hm, fun j f hj => ?_⟩
      obtain ⟨u, hu, hr⟩ := hx j f hj
      obtain ⟨h1, h2⟩ := CsF_get _ j _ hu
      have c1 := World.ownsRow.cells hc (g := g) rfl _ _ h1
      have c2 := World.ownsRow.cells hc (g := g) rfl _ _ h2
      rw [add_none] at c1 c2
      rw [← Nat.add_assoc] at c2
      exact ⟨c1, u, c2, hr⟩
theorem OwnJ.form {w : World} {base : Nat} {v : Value} {l : List Ins} (h : OwnJ w base v l) : ∃ o c, v = .slice o l.length c := by
  rcases h.2 with ⟨rfl, hn⟩ | ⟨g, cap, cur, rfl, _⟩
  · exact ⟨none, 0, by rw [hn]⟩
  · exact ⟨_, _, rfl⟩
theorem append_pins {w : World} {base : Nat} {v : Value} {l : List Ins} {p : Ins} (hown : OwnJ w base v l) (a : Addr) (hc : ∀ j u, [Value.int .u8 (p.op : Int), .int .i64 p.n, .int .i64 p.a, .string p.s][j]? = some u → w.cell? (a.add j) = some u) (hl : l.length ≤ 2000000) (hbase : base ≤ w.heap.size) (ty : TypeId) :
    ∃ v' w', (Builtin.append_ #[30, 30] ty #[v, .slice (some a) 1 1]).run Try.prog w = .ok v' w' ∧ OwnJ w' base v' (l ++ [p]) ∧ w.grownBy w' v.ownBlock ∧ (v'.ownBlock = v.ownBlock ∨ v'.ownBlock = some w.heap.size) := by
  obtain ⟨i0, hi0, hz0, hz1, hz2⟩ := info_parts pinsInfo
  obtain ⟨v', w', hr, h2, h3, _, h5⟩ := run_append_own_at (P := Try.prog) w base 30 ty 34 i0 _ 4 40 Try.underlying30 hi0 hz0 hz1 hz2 rfl (by decide) v l.length (CsI l) hown a 1 1 [Value.int .u8 (p.op : Int), .int .i64 p.n, .int .i64 p.a, .string p.s]
    (by rfl) hc (by simp [Value.oneCell']) (by unfold maxLen; omega) (by omega) hbase
  refine ⟨v', w', hr, ?_, h3, h5⟩
  unfold OwnJ
  rw [List.length_append, CsI_append]
  exact h2
theorem append_pfun {w : World} {base : Nat} {v : Value} {l : List (Int × Value)} {x : Int} {o : Option Addr} {n c : Nat} (hown : OwnG w base v l) (a : Addr) (hc : ∀ j u, [Value.int .i64 x, .slice o n c][j]? = some u → w.cell? (a.add j) = some u) (hl : l.length ≤ 2000000) (hbase : base ≤ w.heap.size) (ty : TypeId) :
    ∃ v' w', (Builtin.append_ #[22, 22] ty #[v, .slice (some a) 1 1]).run Try.prog w = .ok v' w' ∧ OwnG w' base v' (l ++ [(x, .slice o n c)]) ∧ w.grownBy w' v.ownBlock ∧ (v'.ownBlock = v.ownBlock ∨ v'.ownBlock = some w.heap.size) := by
  obtain ⟨i0, hi0, hz0, hz1, hz2⟩ := info_parts pfunInfo
  obtain ⟨v', w', hr, h2, h3, _, h5⟩ := run_append_own_at (P := Try.prog) w base 22 ty 32 i0 _ 2 32 Try.underlying22 hi0 hz0 hz1 hz2 rfl (by decide) v l.length (CsF l) hown a 1 1 [Value.int .i64 x, .slice o n c]
    (by rfl) hc (by simp [Value.oneCell']) (by unfold maxLen; omega) (by omega) hbase
  refine ⟨v', w', hr, ?_, h3, h5⟩
  unfold OwnG
  rw [List.length_append, CsF_append]
  exact h2
theorem OwnJ.rdx {w : World} {base : Nat} {v : Value} {l : List Ins} (h : OwnJ w base v l) {S : Nat → Prop} (hS : ∀ k, base ≤ k → ¬ S k) : RdIX w v l S := by
  rcases h.rd with h1 | ⟨b, off, c, h1, h2, h3, h4, h5⟩
  · exact .inl h1
  · refine .inr ⟨b, off, c, h1, h2, h3, h4, h5, hS b ?_⟩
    rcases h.2 with ⟨rfl, hn⟩ | ⟨g, cap, cur, rfl, hb, _⟩
    · cases h1
    · injection h1 with h1 _ _
      injection h1 with h1
      injection h1 with h1 _ _
      omega

end Go.Proofs.Ythmnhacgcdcbiaa
