/- What a part prints; the text of parts. -/
import Derived.Test.YtiimofdbconlhaaDoorPriE
import Derived.Lib.AppendStr
namespace Go.Proofs.YtiimofdbconlhaaDoor
open Go.RowKit PriM

/-- A part, what it prints, and how much is to be done for it. -/
abbrev Pw := Pv × List UInt8 × Nat

def wsum : List Pw → Nat
  | [] => 0
  | x :: l => x.2.2 + wsum l
def cats (l : List Pw) : List UInt8 := l.flatMap (·.2.1)
theorem wsum_append (a b : List Pw) : wsum (a ++ b) = wsum a + wsum b := by
  induction a with
  | nil => simp [wsum]
  | cons x a ih => simp only [List.cons_append, wsum, ih]; omega
theorem wsum_reverse (a : List Pw) : wsum a.reverse = wsum a := by
  induction a with
  | nil => rfl
  | cons x a ih => simp only [List.reverse_cons, wsum_append, wsum, ih]; omega
theorem cats_append (a b : List Pw) : cats (a ++ b) = cats a ++ cats b := by simp [cats]

/-- What lies below a number, and every block that holds no parts and no bytes, lies as it lay. -/
structure KeepT (n₀ : Nat) (w w' : World) : Prop where
  below : Below n₀ w w'
  box : ∀ (b : Nat) (cs : Array Value) (T : TypeId), w.heap[b]? = some (.cells cs T (0, 0)) → T ≠ 51 → T ≠ 5 → w'.heap[b]? = some (.cells cs T (0, 0))

theorem KeepT.refl (n : Nat) (w : World) : KeepT n w w := ⟨Below.refl _ _, fun _ _ _ h _ _ => h⟩
theorem KeepT.trans {n : Nat} {a b c : World} (h : KeepT n a b) (k : KeepT n b c) : KeepT n a c := ⟨h.below.trans k.below, fun b cs T hb h1 h2 => k.box b cs T (h.box b cs T hb h1 h2) h1 h2⟩
theorem KeepT.of_below {n : Nat} {a b : World} (h : Below a.heap.size a b) (hn : n ≤ a.heap.size) : KeepT n a b :=
  ⟨h.mono hn, fun k _ _ hb _ _ => (h.block k (Array.getElem?_eq_some_iff.1 hb).1).trans hb⟩
theorem KeepT.alloc {n : Nat} {a b : World} (h : KeepT n a b) (hn : n ≤ b.heap.size) (o : Obj) : KeepT n a (b.alloc o) :=
  h.trans (KeepT.of_below ((Below.refl _ _).alloc (Nat.le_refl _) _) hn)
theorem KeepT.grown {n : Nat} {a b c : World} {v : Value} {base size k : Nat} {e : TypeId} {xs : List Value} (h : KeepT n a b) (hn : n ≤ b.heap.size) (hg : b.grownBy c v.ownBlock) (hr : b.ownsRow base e size v k xs) (hb : n ≤ base) (he : e = 51 ∨ e = 5) : KeepT n a c := by
  refine h.trans ⟨(Below.refl _ _).grown hg hn (fun g e => Nat.le_trans hb (hr.lt g e).1), fun k cs T hb h1 h2 => (hg.block k (Array.getElem?_eq_some_iff.1 hb).1 (fun e' => ?_)).trans hb⟩
  rcases hr.2 with ⟨rfl, _⟩ | ⟨g, cap, cur, rfl, _, hgb, _⟩
  · cases e'
  · obtain rfl : k = g := by simpa [Value.ownBlock] using e'
    rw [hb] at hgb
    injection hgb with hgb
    injection hgb with _ hT _
    rcases he with he | he
    · exact h1 (hT.trans he)
    · exact h2 (hT.trans he)

/-- What a closure leaves that makes parts. -/
def MadeP (n₀ : Nat) (V : Nat → World → Pv → List UInt8 → Prop) (W : World) (k : Nat) (s : List UInt8) (e : Ending) (w' : World) : Prop :=
  ∃ v, ∃ l : List Pw, e = .returned v ∧ OwnP w' W.heap.size v (l.map (·.1)) ∧ (∀ x ∈ l, V x.2.2 w' x.1 x.2.1) ∧ cats l = s ∧ wsum l + 1 ≤ k ∧ Below W.heap.size W w' ∧ n₀ ≤ W.heap.size

/-- A part prints s, now and later, as long as its box lies there; d: how deep. -/
def PartV (n₀ : Nat) : Nat → Nat → World → Pv → List UInt8 → Prop
  | 0, k, _, p, s => 1 ≤ k ∧ p.f = none ∧ p.s.data.toList = s
  | d + 1, k, w, p, s => (1 ≤ k ∧ p.f = none ∧ p.s.data.toList = s) ∨
    (1 ≤ k ∧ p.s = ⟨#[]⟩ ∧ ∃ fn b cs T, p.f = some (fn, b) ∧ w.heap[b]? = some (.cells cs T (0, 0)) ∧ T ≠ 51 ∧ T ≠ 5 ∧ (∀ args w, (callFunc fn args).run Tryd.prog w = .ok (.enter fn args) w) ∧
      ∀ W, Below n₀ w W → W.heap[b]? = some (.cells cs T (0, 0)) → Calls Tryd.prog fn #[.pointer (some ⟨b, 0, none⟩)] W (MadeP n₀ (PartV n₀ d) W k s))

theorem PartV.kept {n₀ d k : Nat} {w w' : World} {p : Pv} {s : List UInt8} (h : PartV n₀ d k w p s) (hk : KeepT n₀ w w') : PartV n₀ d k w' p s := by
  cases d with
  | zero => exact h
  | succ d =>
    rcases h with h | ⟨hk1, h0, fn, b, cs, T, h1, h2, h3, h4, he, h5⟩
    · exact .inl h
    · exact .inr ⟨hk1, h0, fn, b, cs, T, h1, hk.box b cs T h2 h3 h4, h3, h4, he, fun W hb hW => h5 W (hk.below.trans hb) hW⟩

def AnyV (n₀ : Nat) (k : Nat) (w : World) (p : Pv) (s : List UInt8) : Prop := ∃ d, PartV n₀ d k w p s
theorem AnyV.kept {n₀ k : Nat} {w w' : World} {p : Pv} {s : List UInt8} (h : AnyV n₀ k w p s) (hk : KeepT n₀ w w') : AnyV n₀ k w' p s := h.elim fun d h => ⟨d, h.kept hk⟩

/-- A part is a text; or it has a box, and what makes it. -/
theorem AnyV.split {n₀ k : Nat} {w : World} {p : Pv} {s : List UInt8} (h : AnyV n₀ k w p s) : (1 ≤ k ∧ p = ⟨⟨s.toArray⟩, none⟩) ∨
    ∃ fn b, p = ⟨⟨#[]⟩, some (fn, b)⟩ ∧ (∀ args w, (callFunc fn args).run Tryd.prog w = .ok (.enter fn args) w) ∧ ∀ W, KeepT n₀ w W → Calls Tryd.prog fn #[.pointer (some ⟨b, 0, none⟩)] W (MadeP n₀ (AnyV n₀) W k s) := by
  obtain ⟨d, h⟩ := h
  have txt : (1 ≤ k ∧ p.f = none ∧ p.s.data.toList = s) → (1 ≤ k ∧ p = ⟨⟨s.toArray⟩, none⟩) := by
    rintro ⟨h1, h2, h3⟩
    refine ⟨h1, ?_⟩
    obtain ⟨ps, pf⟩ := p
    subst h2 h3
    simp
  cases d with
  | zero => exact .inl (txt h)
  | succ d =>
    rcases h with h | ⟨_, h0, fn, b, cs, T, h1, h2, h3, h4, he, h5⟩
    · exact .inl (txt h)
    · refine .inr ⟨fn, b, by obtain ⟨ps, pf⟩ := p; simp_all, he, fun W hk => (h5 W hk.below (hk.box b cs T h2 h3 h4)).mono ?_⟩
      rintro e w' ⟨v, l, a1, a2, a3, a4⟩
      exact ⟨v, l, a1, a2, fun x hx => ⟨d, a3 x hx⟩, a4⟩

/-- What holds at the head of a round: the stack's top is the list's end. -/
structure TI (n₀ : Nat) (w wr : World) (S : List UInt8) (out todo : Value) (o : List UInt8) (L : List Pw) (K : Nat) : Prop where
  out : Own wr w.heap.size out o
  todo : OwnP wr w.heap.size todo (L.map (·.1))
  parts : ∀ x ∈ L, AnyV n₀ x.2.2 wr x.1 x.2.1
  eq : o ++ cats L.reverse = S
  le : wsum L ≤ K
  bel : Below w.heap.size w wr
  keep : n₀ ≤ w.heap.size

theorem wsum_len {n₀ : Nat} {w : World} {L : List Pw} (h : ∀ x ∈ L, AnyV n₀ x.2.2 w x.1 x.2.1) : L.length ≤ wsum L := by
  induction L with
  | nil => exact Nat.le_refl _
  | cons x L ih =>
    have h1 := ih fun y hy => h y (List.mem_cons_of_mem _ hy)
    have h2 : 1 ≤ x.2.2 := by
      obtain ⟨d, hd⟩ := h x List.mem_cons_self
      cases d with
      | zero => exact hd.1
      | succ d =>
        rcases hd with hd | hd
        · exact hd.1
        · exact hd.1
    simp only [List.length_cons, wsum]
    omega

theorem map_fst_append (a b : List Pw) : (a ++ b).map (·.1) = a.map (·.1) ++ b.map (·.1) := List.map_append

theorem own_type {w : World} {base size n g : Nat} {e : TypeId} {v : Value} {xs : List Value} (h : w.ownsRow base e size v n xs) (hv : v.ownBlock = some g) : ∃ cur, w.heap[g]? = some (.cells cur e (0, 0)) := by
  rcases h.2 with ⟨rfl, _⟩ | ⟨g', cap, cur, rfl, _, hgb, _⟩
  · cases hv
  · obtain rfl : g' = g := by simpa [Value.ownBlock] using hv
    exact ⟨cur, hgb⟩
theorem own_apart {w : World} {base base' size size' n n' : Nat} {e e' : TypeId} {v v' : Value} {xs xs' : List Value} (h : w.ownsRow base e size v n xs) (h' : w.ownsRow base' e' size' v' n' xs') (he : e ≠ e') : v.ownBlock = none ∨ v.ownBlock ≠ v'.ownBlock := by
  cases hv : v.ownBlock with
  | none => exact .inl rfl
  | some g =>
    refine .inr fun e2 => ?_
    obtain ⟨c1, h1⟩ := own_type h hv
    obtain ⟨c2, h2⟩ := own_type h' e2.symm
    rw [h1] at h2
    injection h2 with h2
    injection h2 with _ hT _
    exact he hT

/-- The stack without its top. -/
theorem own_cut {w : World} {base g c n : Nat} {l : List Pv} {p : Pv} (h : OwnP w base (.slice (some ⟨g, 0, none⟩) n c) (l ++ [p])) : OwnP w base (.slice (some ⟨g, 0, none⟩) l.length c) l := by
  rcases h.2 with ⟨h1, _⟩ | ⟨g', cap, cur, h1, hb, hg, hn, hm, hs, ht⟩
  · cases h1
  · cases h1
    refine ⟨Cs_length l, .inr ⟨g, c, cur, rfl, hb, hg, ?_, hm, hs, ?_⟩⟩
    · simp at hn; omega
    · have := congrArg (List.take (l.length * 2)) ht
      rw [List.take_take, List.length_append, Cs_append, List.take_left' (Cs_length l)] at this
      rw [← this]
      congr 1
      simp only [List.length_singleton]
      omega

/-- A round that takes a text. -/
theorem ti_text {n₀ : Nat} {w wr w1 : World} {S : List UInt8} {out todo out' : Value} {o : List UInt8} {L : List Pw} {x : Pw} {K g c n : Nat} {t : ByteArray} {f : Option (Nat × Nat)} {tmp : Obj}
    (h : TI n₀ w wr S out todo o (L ++ [x]) K) (_hx : x.1 = ⟨t, f⟩) (ht : todo = .slice (some ⟨g, 0, none⟩) n c)
    (hown : w1.ownsRow w.heap.size 5 1 out' (o.length + t.size) (Bs o ++ Lib.strCells t)) (hg : (wr.alloc tmp).grownBy w1 out.ownBlock) :
    Own w1 w.heap.size out' (o ++ t.data.toList) ∧ OwnP w1 w.heap.size (.slice (some ⟨g, 0, none⟩) L.length c) (L.map (·.1)) ∧ KeepT n₀ wr w1 ∧ Below w.heap.size w w1 ∧ wr.heap.size + 1 ≤ w1.heap.size := by
  have hs := h.bel.size
  have hk := h.keep
  refine ⟨?_, ?_, ((KeepT.refl n₀ wr).alloc (by omega) tmp).grown (by simp; omega) hg (World.ownsRow.alloc h.out tmp) hk (.inr rfl), (h.bel.alloc hs tmp).grown hg (by simp; omega) (fun g e => (h.out.lt g e).1), by have := hg.size; simpa using this⟩
  · unfold Own
    rw [List.length_append, Bs_append]
    exact hown
  · have h1 := h.todo
    rw [ht, map_fst_append] at h1
    have h2 := own_cut h1
    rw [List.length_map] at h2
    exact (World.ownsRow.alloc h2 tmp).kept hg (own_apart h2 h.out (by decide))

theorem cats_one (x : Pw) : cats [x] = x.2.1 := by simp [cats]

theorem ti_text_end {n₀ : Nat} {w wr w1 : World} {S : List UInt8} {out todo out' : Value} {o s : List UInt8} {L : List Pw} {x : Pw} {K g c k : Nat}
    (h : TI n₀ w wr S out todo o (L ++ [x]) K) (hx : x = (⟨⟨s.toArray⟩, none⟩, s, k)) (hk : 1 ≤ k)
    (h1 : Own w1 w.heap.size out' (o ++ s)) (h2 : OwnP w1 w.heap.size (.slice (some ⟨g, 0, none⟩) L.length c) (L.map (·.1))) (h3 : KeepT n₀ wr w1) (h4 : Below w.heap.size w w1) :
    TI n₀ w w1 S out' (.slice (some ⟨g, 0, none⟩) L.length c) (o ++ s) L (wsum L) ∧ wsum L < K := by
  have hle := h.le
  rw [wsum_append] at hle
  subst hx
  simp only [wsum] at hle
  refine ⟨⟨h1, h2, fun y hy => (h.parts y (List.mem_append_left _ hy)).kept h3, ?_, Nat.le_refl _, h4, h.keep⟩, by omega⟩
  have := h.eq
  rw [List.reverse_append, cats_append, List.reverse_singleton, cats_one] at this
  rw [List.append_assoc]
  exact this

theorem OwnP.grow {w w' : World} {base : Nat} {v : Value} {l : List Pv} (h : OwnP w base v l) (hb : Below w.heap.size w w') : OwnP w' base v l :=
  World.ownsRow.kept h (grownBy_of_below hb (Nat.le_refl _) none) (by cases v.ownBlock <;> simp)

theorem ti_push_end {n₀ : Nat} {w wr w1 w2 w3 : World} {S : List UInt8} {out out' todo todo' : Value} {o s : List UInt8} {L l : List Pw} {x : Pw} {K g c k : Nat} {V : Value}
    (h : TI n₀ w wr S out todo o (L ++ [x]) K) (hx : x.2 = (s, k))
    (h1 : Own w1 w.heap.size out' (o ++ [])) (h2 : OwnP w1 w.heap.size (.slice (some ⟨g, 0, none⟩) L.length c) (L.map (·.1))) (h3 : KeepT n₀ wr w1) (h4 : Below w.heap.size w w1)
    (_m2 : OwnP w2 w1.heap.size V (l.map (·.1))) (m3 : ∀ x ∈ l, AnyV n₀ x.2.2 w2 x.1 x.2.1) (m4 : cats l = s) (m5 : wsum l + 1 ≤ k) (m6 : Below w1.heap.size w1 w2)
    (p1 : OwnP w3 w.heap.size todo' (L.map (·.1) ++ (l.map (·.1)).reverse)) (p2 : w2.grownBy w3 (Value.slice (some ⟨g, 0, none⟩) L.length c).ownBlock) :
    TI n₀ w w3 S out' todo' o (L ++ l.reverse) (wsum (L ++ l.reverse)) ∧ wsum (L ++ l.reverse) < K := by
  have hle := h.le
  have hw := h4.size
  have hk := h.keep
  have h22 : OwnP w2 w.heap.size (.slice (some ⟨g, 0, none⟩) L.length c) (L.map (·.1)) := World.ownsRow.kept h2 (grownBy_of_below m6 (Nat.le_refl _) none) (.inr (by simp [Value.ownBlock]))
  have k3 : KeepT n₀ w2 w3 := (KeepT.refl n₀ w2).grown (by have := m6.size; omega) p2 h22 hk (.inl rfl)
  have k13 : KeepT n₀ w1 w3 := (KeepT.of_below m6 (by omega)).trans k3
  rw [wsum_append, wsum_reverse]
  rw [wsum_append] at hle
  simp only [wsum] at hle
  have hx2 : x.2.2 = k := by rw [hx]
  refine ⟨⟨?_, by rw [map_fst_append, List.map_reverse]; exact p1, ?_, ?_, by rw [wsum_append, wsum_reverse]; exact Nat.le_refl _, h4.trans ((m6.mono hw).grown p2 (by have := m6.size; omega) (fun g' e => (h22.lt g' e).1)) |>.mono (Nat.le_refl _), hk⟩, by omega⟩
  · have h12 := own_below h1 m6 (Nat.le_refl _)
    rw [List.append_nil] at h12
    exact h12.kept p2 (own_apart h12 h22 (by decide))
  · intro y hy
    rcases List.mem_append.1 hy with hy | hy
    · exact ((h.parts y (List.mem_append_left _ hy)).kept h3).kept k13
    · exact (m3 y (List.mem_reverse.1 hy)).kept k3
  · have := h.eq
    rw [List.reverse_append, cats_append, List.reverse_singleton, cats_one, hx] at this
    rw [List.reverse_append, List.reverse_reverse, cats_append, m4]
    exact this
end Go.Proofs.YtiimofdbconlhaaDoor
