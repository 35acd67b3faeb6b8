/- The reference's Decode. -/
import Derived.Test.YthmnhacgcdcbiaaDecC
import Derived.Test.YthmnhacgcdcbiaaOctZ
namespace Go.Proofs.Ythmnhacgcdcbiaa
open Go.RowKit OctM CodM

/-- The bytes' block lies below. -/
def VB (base : Nat) (v : Value) (l : List UInt8) : Prop := l = [] ∨ ∃ g off c, v = .slice (some ⟨g, off, none⟩) l.length c ∧ g < base
theorem VB.mono {base base' : Nat} {v : Value} {l : List UInt8} (h : VB base v l) (hb : base ≤ base') : VB base' v l := by
  rcases h with h | ⟨g, off, c, h1, h2⟩
  · exact .inl h
  · exact .inr ⟨g, off, c, h1, by omega⟩
theorem RR.lt {w : World} {b : Nat} {v : Value} {l : List UInt8} {s : Option (List UInt8)} (h : RR w b v l s) : b < w.heap.size := by
  obtain ⟨a, hc, _⟩ := h.cell
  exact lt_of_block hc
theorem RR.vb {w : World} {b : Nat} {v : Value} {l : List UInt8} {s : Option (List UInt8)} (h : RR w b v l s) : VB w.heap.size v l := by
  rcases h.rd with (⟨rfl, rfl⟩ | ⟨g, off, c, rfl, ho, h1, h2, h3⟩) | ⟨rfl, _⟩
  · exact .inl rfl
  · rcases l with _ | ⟨x, t⟩
    · exact .inl rfl
    · exact .inr ⟨g, off, c, rfl, World.block_lt_of_cell? w _ (h3 0 x rfl)⟩
  · exact .inl rfl
theorem RR.keep {w w' : World} {b base : Nat} {v : Value} {l : List UInt8} {s : Option (List UInt8)} {S : Nat → Prop} (h : RR w b v l s) (hv : VB base v l) (hk : Kept S w w') (hb : ¬ S b) (hS : ∀ k, k < base → ¬ S k) : RR w' b v l s := by
  refine ⟨?_, ?_⟩
  · obtain ⟨a, hc, h1⟩ := h.cell
    exact ⟨a, (hk.block b (lt_of_block hc) hb).trans hc, h1⟩
  · rcases h.rd with (h1 | ⟨g, off, c, h0, ho, h1, h2, h3⟩) | h1
    · exact .inl (.inl h1)
    · refine .inl (.inr ⟨g, off, c, h0, ho, h1, h2, fun j u hu => ?_⟩)
      rcases hv with rfl | ⟨g', off', c', e, hg⟩
      · simp at hu
      · rw [h0] at e
        injection e with e _ _
        injection e with e
        injection e with e _ _
        subst e
        have h4 := h3 j u hu
        exact (World.cell?_of_block (w := w) (hk.block g (World.block_lt_of_cell? w _ h4) (hS g hg))).trans h4
    · exact .inr h1

/-- Where the reader stands tells whether there was a fault. -/
theorem RR.at {w : World} {b : Nat} {v : Value} {l : List UInt8} {s : Option (List UInt8)} (h : RR w b v l s) : ∃ a : Int, w.cell? ⟨b, 1, none⟩ = some (.int .i64 a) ∧ (s = none → a < 0) ∧ (s ≠ none → 0 ≤ a) ∧ (s = some [] ↔ a = l.length) := by
  obtain ⟨a, hc, h1⟩ := h.cell
  refine ⟨a, cellk hc rfl, fun hs => ?_, fun hs => ?_, ?_⟩
  · rcases h1 with ⟨_, rfl⟩ | ⟨k, rfl, _, e⟩
    · omega
    · rw [hs] at e; cases e
  · rcases h1 with ⟨e, _⟩ | ⟨k, rfl, _, _⟩
    · exact absurd e hs
    · omega
  · rcases h1 with ⟨rfl, rfl⟩ | ⟨k, rfl, hk, rfl⟩
    · constructor
      · intro e; cases e
      · intro e; omega
    · constructor
      · intro e
        injection e with e
        have := List.length_drop (i := k) (l := l)
        rw [e] at this
        simp at this
        omega
      · intro e
        have : k = l.length := by omega
        subst this
        simp

/-- One more instruction is laid by the reference. -/
theorem rIns_step {w5 : World} {N1 : Int} {oj : Option Addr} {cj fb b : Nat} {acc : List Ins} {x : Ins} {v : Value} {l : List UInt8} {s5 : Option (List UInt8)} (hb : b < fb) (hv : VB fb v l)
    (hO : OwnI w5 (fb + 1) (.slice oj acc.length cj) acc) (hY : w5.heap[fb]? = some (.cells #[.int .i64 N1, .slice oj acc.length cj] 57 (0, 0))) (hr : RR w5 b v l s5) (hlen : acc.length ≤ 1048576) :
    ∃ o6 c6 w6, (Builtin.append_ #[55, 55] 55 #[.slice oj acc.length cj, .slice (some ⟨w5.heap.size, 0, none⟩) 1 1]).run Try.prog (w5.alloc (.cells #[.int .u8 (x.op : Int), .int .i64 x.n, .int .i64 x.a, .string x.s] 58)) = .ok (.slice o6 (acc.length + 1) c6) w6 ∧
      w6.cell? ⟨fb, 1, none⟩ = some (.slice oj acc.length cj) ∧ w6.frozen? ⟨fb, 1, none⟩ = false ∧ fb < w6.heap.size ∧
      OwnI (w6.setCell ⟨fb, 1, none⟩ (.slice o6 (acc.length + 1) c6)) (fb + 1) (.slice o6 (acc.length + 1) c6) (acc ++ [x]) ∧
      (w6.setCell ⟨fb, 1, none⟩ (.slice o6 (acc.length + 1) c6)).heap[fb]? = some (.cells #[.int .i64 N1, .slice o6 (acc.length + 1) c6] 57 (0, 0)) ∧
      RR (w6.setCell ⟨fb, 1, none⟩ (.slice o6 (acc.length + 1) c6)) b v l s5 ∧ Kept (fun k => fb ≤ k) w5 (w6.setCell ⟨fb, 1, none⟩ (.slice o6 (acc.length + 1) c6)) := by
  have hbl := lt_of_block hY
  have hL : ∀ g, (Value.slice oj acc.length cj).ownBlock = some g → fb + 1 ≤ g ∧ g < w5.heap.size := fun g hg => hO.lt g hg
  obtain ⟨v6, w6, hrun, hown6, hg6, -⟩ := append_ins (w := w5.alloc (.cells #[.int .u8 (x.op : Int), .int .i64 x.n, .int .i64 x.a, .string x.s] 58)) (p := x) (World.ownsRow.alloc hO _) ⟨w5.heap.size, 0, none⟩ (cells_new _ [.int .u8 (x.op : Int), .int .i64 x.n, .int .i64 x.a, .string x.s] _) (by omega) (by simp; omega) 55
  obtain ⟨o6, c6, hv6⟩ := hown6.form
  rw [List.length_append] at hv6
  subst hv6
  have hY6 := ((hg6.block fb (by simp; omega) (fun h => by have := (hL _ h.symm).1; omega)).trans (Below.heap_alloc _ _ _ hbl)).trans hY
  have hq : Kept (fun k => fb ≤ k) w5 (w6.setCell ⟨fb, 1, none⟩ (.slice o6 (acc.length + 1) c6)) :=
    (((Kept.refl (fun k => fb ≤ k) w5).alloc _).grown hg6 (fun k h => .inl (by have := (hL k h).1; omega))).setCell (p := ⟨fb, 1, none⟩) (.inl (Nat.le_refl _)) _
  refine ⟨o6, c6, w6, hrun, cellk hY6 rfl, free_of hY6 1, lt_of_block hY6, ?_, set_two1 hY6, hr.keep hv hq (by omega) (fun k hk' h => by omega), hq⟩
  exact own_kept hown6 (S := fun k => k = fb) ((Kept.refl (fun k => k = fb) w6).setCell (p := ⟨fb, 1, none⟩) (.inl rfl) _) (fun k hk' e => by have := (hown6.lt k hk').1; omega)

/-- One more function is laid by the reference. -/
theorem rFun_step {w wi w5 : World} {b : Nat} {v : Value} {l : List UInt8} {L : Value} {ps : List (Int × Value)} {acc : List Fun} {f : Fun} {o : Option Addr} {c fb : Nat} {s5 : Option (List UInt8)} (hbw : b < w.heap.size) (hv : VB w.heap.size v l)
    (hG : OwnF wi w.heap.size L ps) (hX : FunsX wi ps acc (fun g => L.ownBlock = some g ∨ own1 (some ⟨b, 0, none⟩) g)) (hk : Kept (own1 (some ⟨b, 0, none⟩)) w wi)
    (hfb : wi.heap.size ≤ fb) (hJ : OwnI w5 (fb + 1) (.slice o f.code.length c) f.code) (hr : RR w5 b v l s5) (hk5 : Kept (own1 (some ⟨b, 0, none⟩)) wi w5) (hlen : ps.length ≤ 4000) :
    ∃ v6 w6, (Builtin.append_ #[27, 27] 27 #[L, .slice (some ⟨w5.heap.size, 0, none⟩) 1 1]).run Try.prog (w5.alloc (.cells #[.int .i64 f.caps, .slice o f.code.length c] 57)) = .ok v6 w6 ∧
      OwnF w6 w.heap.size v6 (ps ++ [(f.caps, .slice o f.code.length c)]) ∧ FunsX w6 (ps ++ [(f.caps, .slice o f.code.length c)]) (acc ++ [f]) (fun g => v6.ownBlock = some g ∨ own1 (some ⟨b, 0, none⟩) g) ∧ RR w6 b v l s5 ∧ Kept (own1 (some ⟨b, 0, none⟩)) w w6 := by
  have hp' : ∀ k, w.heap.size ≤ k → ¬ own1 (some ⟨b, 0, none⟩) k := by
    rintro k hk ⟨a, ha, hb⟩
    injection ha with ha
    subst ha
    simp only at hb
    omega
  have hz := hk.size
  have hz5 := hk5.size
  have hL : ∀ g, L.ownBlock = some g → w.heap.size ≤ g ∧ g < wi.heap.size := fun g hg => hG.lt g hg
  have hG5 : OwnF w5 w.heap.size L ps := own_kept hG hk5 (fun k hk' => hp' k (hL k hk').1)
  obtain ⟨v6, w6, hrun, hown6, hg6, hat6⟩ := append_fun (w := w5.alloc (.cells #[.int .i64 f.caps, .slice o f.code.length c] 57)) (World.ownsRow.alloc hG5 _) ⟨w5.heap.size, 0, none⟩ (cells_new _ [.int .i64 f.caps, .slice o f.code.length c] _) (by omega) (by simp; omega) 27
  refine ⟨v6, w6, hrun, hown6, ?_, ?_, ?_⟩
  · have h5 := hX.next (w' := w5) (fun k hk' hs => hk5.block k hk' (fun h => hs (.inr h))) (fun _ _ h => h)
    have h5' : RdIX w5 (.slice o f.code.length c) f.code (fun g => L.ownBlock = some g ∨ own1 (some ⟨b, 0, none⟩) g) := hJ.rdx (fun k hk' h => by
      rcases h with h | h
      · have := (hL k h).2
        omega
      · exact hp' k (by omega) h)
    refine (h5.snoc f _ h5').next (fun k hk' hs => ?_) (fun k hk' h => ?_)
    · exact (hg6.block k (by simp; omega) (fun h => hs (.inl h.symm))).trans (Below.heap_alloc _ _ _ hk')
    · rcases h with h | h
      · rcases hat6 with e | e
        · rw [e] at h
          exact .inl h
        · rw [e] at h
          injection h with h
          simp at h
          omega
      · exact .inr h
  · have hq : Kept (fun k => L.ownBlock = some k) w5 w6 := ((Kept.refl _ w5).alloc _).grown hg6 (fun k h => .inl h)
    exact hr.keep hv hq (fun h => by have := (hL _ h).1; omega) (fun k hk' h => by have := (hL _ h).1; omega)
  · exact ((hk.trans hk5).alloc _).grown hg6 (fun k h => .inr (hL k h).1)
end Go.Proofs.Ythmnhacgcdcbiaa
