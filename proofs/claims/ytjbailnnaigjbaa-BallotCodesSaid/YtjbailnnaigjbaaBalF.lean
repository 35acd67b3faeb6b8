/- One node of one: an entry is laid. -/
import Derived.Test.YtjbailnnaigjbaaBalE
namespace Go.Proofs.Ytjbailnnaigjbaa
open Go.RowKit OctM

theorem own_ne {w : World} {base : Nat} {e t : TypeId} {size : Nat} {v : Value} {n : Nat} {xs : List Value} {X : Nat} {cs : Array Value} {fr : Nat × Nat} (h : w.ownsRow base e size v n xs) (hX : w.heap[X]? = some (.cells cs t fr)) (ht : t ≠ e) : v.ownBlock ≠ some X := by
  rcases h.2 with ⟨rfl, _⟩ | ⟨g, c, cur, rfl, _, hg, _⟩
  · intro h; cases h
  · intro e'
    have : g = X := by simpa [Value.ownBlock] using e'
    subst this
    rw [hg] at hX
    injection hX with hX
    injection hX with _ hX _
    exact ht hX.symm
theorem own_ne2 {w : World} {b1 b2 : Nat} {e1 e2 : TypeId} {s1 s2 : Nat} {v u : Value} {n1 n2 : Nat} {xs ys : List Value} (h : w.ownsRow b1 e1 s1 v n1 xs) (k : w.ownsRow b2 e2 s2 u n2 ys) (he : e1 ≠ e2) : ∀ g, v.ownBlock = some g → u.ownBlock ≠ some g := by
  rcases h.2 with ⟨rfl, _⟩ | ⟨g, c, cur, rfl, _, hg, _⟩
  · intro g h; cases h
  · intro g' e'
    have : g = g' := by simpa [Value.ownBlock] using e'
    subst this
    exact own_ne k hg he

/-- A node at work is no part of a state's rows. -/
theorem StO.nodeK {w w' : World} {base X : Nat} {D : List UInt8} {ps : List (En × Value)} {vs ns ms : List Value} {d l v n m : Value} {cs : Array Value} (h : StO w base D ps vs ns ms d l v n m) (hX : w.heap[X]? = some (.cells cs 93 (0, 0))) (hk : Kept (fun k => k = X) w w') : StO w' base D ps vs ns ms d l v n m :=
  ⟨own_kept h.hd hk (fun g hg e => own_ne h.hd hX (by decide) (e ▸ hg)),
   h.hl.kept hk (fun g hg e => own_ne h.hl.row hX (by decide) (e ▸ hg)) (fun p hp g hg e => own_ne (h.hl.cells p hp) hX (by decide) (e ▸ hg)),
   own_kept h.hv hk (fun g hg e => own_ne h.hv hX (by decide) (e ▸ hg)),
   own_kept h.hn hk (fun g hg e => own_ne h.hn hX (by decide) (e ▸ hg)),
   own_kept h.hm hk (fun g hg e => own_ne h.hm hX (by decide) (e ▸ hg)), h.nm⟩

/-- One more entry. -/
theorem more_en {w : World} {base : Nat} {D : List UInt8} {ps : List (En × Value)} {vs ns ms : List Value} {d l v n m : Value} (q : En × Value) (h : StO w base D ps vs ns ms d l v n m) (hq : Own w base q.2 q.1.cl) (hn : ps.length ≤ 1000) (hbase : base ≤ w.heap.size) :
    ∃ o c w2, (Builtin.append_ #[29, 29] 29 #[l, .slice (some ⟨w.heap.size, 0, none⟩) 1 1]).run Try.prog (w.alloc (.cells (cE q).toArray 51)) = .ok (.slice o (ps.length + 1) c) w2 ∧ StO w2 base D (ps ++ [q]) vs ns ms d (.slice o (ps.length + 1) c) v n m ∧ Kept (fun k => l.ownBlock = some k) w w2 := by
  obtain ⟨oq, cq, hqs⟩ := own_slice' hq
  have hba : Below w.heap.size w (w.alloc (.cells (cE q).toArray 51)) := (Below.refl _ _).alloc (Nat.le_refl _) _
  have hl2 := own_kept h.hl.row (kept_of_below (S := fun _ => False) hba) (fun _ _ h => h)
  obtain ⟨i0, hi0, hz0, hz1, hz2⟩ := info_parts enInfo
  have hne : ∀ j u, (cE q)[j]? = some u → (w.alloc (.cells (cE q).toArray 51)).cell? ((⟨w.heap.size, 0, none⟩ : Addr).add j) = some u := by
    intro j u hj
    exact World.news_of_block (w := w.alloc (.cells (cE q).toArray 51)) (heap_alloc_new w _) j u (by simpa using hj)
  obtain ⟨v', w2, hr, h2, h3, _, h5⟩ := run_append_own_at (P := Try.prog) (w.alloc (.cells (cE q).toArray 51)) base 29 29 51 i0 _ 4 48 Try.underlying29 hi0 hz0 hz1 hz2 rfl (by decide) l ps.length (CsE ps) hl2 ⟨w.heap.size, 0, none⟩ 1 1 (cE q)
    rfl hne (by
      intro u hu
      simp only [cE, List.mem_cons, List.not_mem_nil, or_false] at hu
      rcases hu with rfl | rfl | rfl | rfl
      · rfl
      · rfl
      · rfl
      · rw [hqs]; rfl) (by unfold maxLen; omega) (by omega) (by simp; omega)
  obtain ⟨o, c, rfl⟩ := own_slice' h2
  have hk : Kept (fun k => l.ownBlock = some k) w w2 := ((kept_of_below hba).weak (T := fun k => l.ownBlock = some k) (fun _ _ hk => hk)).grown h3 (fun k hk => .inl hk)
  refine ⟨o, c, w2, hr, ⟨?_, ⟨?_, ?_, ?_⟩, ?_, ?_, ?_, h.nm⟩, hk⟩
  · exact own_kept h.hd hk (fun g hg e => own_ne2 h.hd h.hl.row (by decide) g hg e)
  · rw [show CsE (ps ++ [q]) = CsE ps ++ cE q by simp [CsE], List.length_append]
    exact h2
  · intro r hr
    rcases List.mem_append.1 hr with hr | hr
    · exact own_kept (h.hl.cells r hr) hk (fun g hg e => h.hl.apart r hr g hg e)
    · obtain rfl := List.mem_singleton.1 hr
      exact own_kept hq hk (fun g hg e => own_ne2 hq h.hl.row (by decide) g hg e)
  · intro r hr g hg e
    have hr2 : Own w2 base r.2 r.1.cl := by
      rcases List.mem_append.1 hr with hr | hr
      · exact own_kept (h.hl.cells r hr) hk (fun g hg e => h.hl.apart r hr g hg e)
      · obtain rfl := List.mem_singleton.1 hr
        exact own_kept hq hk (fun g hg e => own_ne2 hq h.hl.row (by decide) g hg e)
    exact own_ne2 hr2 h2 (by decide) g hg e
  · exact own_kept h.hv hk (fun g hg e => own_ne2 h.hv h.hl.row (by decide) g hg e)
  · exact own_kept h.hn hk (fun g hg e => own_ne2 h.hn h.hl.row (by decide) g hg e)
  · exact own_kept h.hm hk (fun g hg e => own_ne2 h.hm h.hl.row (by decide) g hg e)
end Go.Proofs.Ytjbailnnaigjbaa
