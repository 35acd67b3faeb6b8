/- Entries of the call's own: copies. -/
import Derived.Test.YtdckcjcddibglaaWaF
namespace Go.Proofs.Ytdckcjcddibglaa
open Go.RowKit OctM

/-- The cells of entries, each with its bytes' slice. -/
def cE (p : En × Value) : List Value := [.int .u64 (p.1.tm : Int), .int .u64 (p.1.ss : Int), .int .u64 (p.1.nm : Int), p.2]
def CsE (ps : List (En × Value)) : List Value := ps.flatMap cE
theorem CsE_length (ps : List (En × Value)) : (CsE ps).length = ps.length * 4 := by
  induction ps with
  | nil => rfl
  | cons p ps ih =>
    have : CsE (p :: ps) = cE p ++ CsE ps := by simp [CsE]
    rw [this, List.length_append, ih, List.length_cons]
    simp [cE]
    omega

/-- A row of entries of the call's own, each with bytes of its own. -/
structure OwnL (w : World) (base : Nat) (v : Value) (ps : List (En × Value)) : Prop where
  row : w.ownsRow base 33 4 v ps.length (CsE ps)
  cells : ∀ p ∈ ps, Own w base p.2 p.1.cl
  apart : ∀ p ∈ ps, ∀ g, p.2.ownBlock = some g → v.ownBlock ≠ some g

theorem OwnL.kept {S : Nat → Prop} {w w' : World} {base : Nat} {v : Value} {ps : List (En × Value)} (h : OwnL w base v ps) (hk : Kept S w w') (hv : ∀ g, v.ownBlock = some g → ¬ S g) (hp : ∀ p ∈ ps, ∀ g, p.2.ownBlock = some g → ¬ S g) : OwnL w' base v ps :=
  ⟨own_kept h.row hk hv, fun p hp' => own_kept (h.cells p hp') hk (hp p hp'), h.apart⟩
theorem OwnL.below {w w' : World} {base n : Nat} {v : Value} {ps : List (En × Value)} (h : OwnL w base v ps) (hb : Below n w w') (hn : w.heap.size ≤ n) : OwnL w' base v ps :=
  h.kept (S := fun k => n ≤ k) (Below.kept hb fun _ h _ => h) (fun g hg => by have := (h.row.lt g hg).2; simp; omega) (fun p hp g hg => by have := ((h.cells p hp).lt g hg).2; simp; omega)
theorem OwnL.base {w : World} {base b : Nat} {v : Value} {ps : List (En × Value)} (h : OwnL w base v ps) (hb : b ≤ base) : OwnL w b v ps :=
  ⟨own_base h.row hb, fun p hp => own_base (h.cells p hp) hb, h.apart⟩

set_option maxRecDepth 100000 in
theorem append_ens {w : World} {base n m c : Nat} {v : Value} {xs cs : List Value} {a : Addr} (hown : w.ownsRow base 33 4 v n xs) (hl : cs.length = m * 4) (hc : ∀ j u, cs[j]? = some u → w.cell? (a.add j) = some u) (h1 : ∀ u ∈ cs, u.oneCell' = true) (hn : n ≤ 1000) (hm : m ≤ 1000) (hbase : base ≤ w.heap.size) :
    ∃ v' w', (Builtin.append_ #[28, 28] 28 #[v, .slice (some a) m c]).run Try.prog w = .ok v' w' ∧ w'.ownsRow base 33 4 v' (n + m) (xs ++ cs) ∧ w.grownBy w' v.ownBlock ∧ (v'.ownBlock = v.ownBlock ∨ v'.ownBlock = some w.heap.size) := by
  obtain ⟨i0, hi0, hz0, hz1, hz2⟩ := info_parts (show (Try.prog.info? 33).map (fun i => (i.zero, i.size, i.bytes)) = some (some (.agg #[.int .u64 0, .int .u64 0, .int .u64 0, .slice none 0 0]), 4, 48) by kernel_rfl)
  obtain ⟨v', w', hr, h2, h3, _, h5⟩ := run_append_own_at (P := Try.prog) w base 28 28 33 i0 _ 4 48 (by kernel_rfl) hi0 hz0 hz1 hz2 rfl (by decide) v n xs hown a m c cs hl hc h1 (by unfold maxLen; omega) (by omega) hbase
  exact ⟨v', w', hr, h2, h3, h5⟩

theorem cells_newE (w : World) (cs : List Value) (t : TypeId) : ∀ j u, cs[j]? = some u → (w.alloc (.cells cs.toArray t)).cell? ((⟨w.heap.size, 0, none⟩ : Addr).add j) = some u := by
  intro j u hj
  exact World.news_of_block (w := w.alloc (.cells cs.toArray t)) (heap_alloc_new w _) j u (by simpa using hj)

/-- One more entry, laid and appended. -/
theorem more_en {w : World} {base : Nat} {v : Value} {ps : List (En × Value)} (p : En × Value) (h : OwnL w base v ps) (hp : Own w base p.2 p.1.cl) (ha : ∀ g, p.2.ownBlock = some g → v.ownBlock ≠ some g) (hn : ps.length ≤ 1000) (hbase : base ≤ w.heap.size) :
    ∃ o c w2, (Builtin.append_ #[28, 28] 28 #[v, .slice (some ⟨w.heap.size, 0, none⟩) 1 1]).run Try.prog (w.alloc (.cells (cE p).toArray 33)) = .ok (.slice o (ps.length + 1) c) w2 ∧ OwnL w2 base (.slice o (ps.length + 1) c) (ps ++ [p]) ∧ Below base w w2 := by
  have hba : Below w.heap.size w (w.alloc (.cells (cE p).toArray 33)) := (Below.refl _ _).alloc (Nat.le_refl _) _
  have hown2 := own_kept h.row (Below.kept hba fun _ h _ => h) (fun q a => by have := (h.row.lt q a).2; omega)
  have hs : (w.alloc (.cells (cE p).toArray 33)).heap.size = w.heap.size + 1 := by simp
  obtain ⟨o2, c2, hp2⟩ : ∃ o c, p.2 = .slice o p.1.cl.length c := by
    obtain ⟨o, c, h, _⟩ := own_slice hp
    exact ⟨o, c, h⟩
  obtain ⟨v', w2, hr, h2, h3, h4⟩ := append_ens (m := 1) (c := 1) (cs := cE p) (a := ⟨w.heap.size, 0, none⟩) hown2 rfl (cells_newE w (cE p) 33)
    (fun u hu => by
      simp only [cE, List.mem_cons, List.not_mem_nil, or_false] at hu
      rcases hu with rfl | rfl | rfl | rfl
      · rfl
      · rfl
      · rfl
      · rw [hp2]; rfl) hn (by omega) (by omega)
  obtain ⟨o, c, rfl, _⟩ := own_slice h2
  have hcell : ∀ q : En × Value, Own w base q.2 q.1.cl → (∀ g, q.2.ownBlock = some g → v.ownBlock ≠ some g) → Own w2 base q.2 q.1.cl := fun q hq hqa =>
    own_kept (S := fun k => v.ownBlock = some k ∨ w.heap.size ≤ k) hq (((kept_of_below hba).weak (T := fun k => v.ownBlock = some k ∨ w.heap.size ≤ k) (fun _ _ hk => hk)).grown h3 (fun k hk => .inl (.inl hk))) (fun g hg hh => by
      rcases hh with hh | hh
      · exact hqa g hg hh
      · have := (hq.lt g hg).2; omega)
  have hap : ∀ q : En × Value, Own w base q.2 q.1.cl → (∀ g, q.2.ownBlock = some g → v.ownBlock ≠ some g) → ∀ g, q.2.ownBlock = some g → (Value.slice o (ps.length + 1) c).ownBlock ≠ some g := fun q hq hqa g hg => by
    rcases h4 with h4 | h4
    · rw [h4]; exact hqa g hg
    · rw [h4]
      intro e
      injection e with e
      have := (hq.lt g hg).2
      omega
  refine ⟨o, c, w2, hr, ⟨?_, ?_, ?_⟩, ((Below.refl base w).alloc hbase _).grown h3 (by omega) (fun k hk => (h.row.lt k hk).1)⟩
  · rw [show CsE (ps ++ [p]) = CsE ps ++ cE p by simp [CsE], List.length_append]
    exact h2
  · intro q hq
    rcases List.mem_append.1 hq with hq | hq
    · exact hcell q (h.cells q hq) (h.apart q hq)
    · obtain rfl := List.mem_singleton.1 hq
      exact hcell _ hp ha
  · intro q hq
    rcases List.mem_append.1 hq with hq | hq
    · exact hap q (h.cells q hq) (h.apart q hq)
    · obtain rfl := List.mem_singleton.1 hq
      exact hap _ hp ha
theorem ownL_nil (w : World) (base : Nat) : OwnL w base (.slice none 0 0) [] := ⟨World.ownsRow_nil _ _ _ _, fun _ h => (List.not_mem_nil h).elim, fun _ h => (List.not_mem_nil h).elim⟩
end Go.Proofs.Ytdckcjcddibglaa
