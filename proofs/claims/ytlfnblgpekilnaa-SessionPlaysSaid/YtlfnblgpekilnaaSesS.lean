/- Sessions: both tables side by side. -/
import Derived.Test.YtlfnblgpekilnaaSesR
import Derived.Test.YtlfnblgpekilnaaOpenAct
import Derived.Test.YtlfnblgpekilnaaLSLoads
namespace Go.Proofs.Ytlfnblgpekilnaa
open Go.RowKit OctM

/-- What holds of every table that is made by Puts. -/
structure Inv (l : List Se) : Prop where
  ris : Ris l
  wrd : Wrd l
  pos : ∀ s ∈ l, s.nm ≠ 0 ∧ s.id ≠ 0 ∧ s.rp.length ≤ 500
  len : l.length ≤ 64
theorem inv_nil : Inv [] := ⟨ris_nil, fun _ h => (List.not_mem_nil h).elim, fun _ h => (List.not_mem_nil h).elim, by simp⟩

theorem ris_set {l : List Se} {p : Nat} {s x : Se} (h : Ris l) (hs : l[p]? = some s) (e : x.id = s.id) : Ris (l.set p x) := by
  have key : ∀ (i : Nat) (a : Se), (l.set p x)[i]? = some a → ∃ a', l[i]? = some a' ∧ a'.id = a.id := by
    intro i a ha
    rw [List.getElem?_set] at ha
    split at ha
    · rename_i hp
      subst hp
      split at ha
      · injection ha with ha
        exact ⟨s, hs, by rw [← ha, e]⟩
      · cases ha
    · exact ⟨a, ha, rfl⟩
  intro i j a c hij ha hc
  obtain ⟨a', h1, h2⟩ := key i a ha
  obtain ⟨c', h3, h4⟩ := key j c hc
  have := h i j a' c' hij h1 h3
  omega
theorem ris_ins {l : List Se} {p : Nat} {x : Se} (h : Ris l) (h1 : ∀ (t : Nat) s, t < p → l[t]? = some s → s.id < x.id) (h2 : ∀ (t : Nat) s, p ≤ t → l[t]? = some s → x.id < s.id) (hp : p ≤ l.length) : Ris (l.take p ++ x :: l.drop p) := by
  have key : ∀ (i : Nat) (a : Se), (l.take p ++ x :: l.drop p)[i]? = some a → (i < p ∧ l[i]? = some a) ∨ (i = p ∧ a = x) ∨ (p < i ∧ l[i - 1]? = some a) := by
    intro i a ha
    rcases Nat.lt_trichotomy i p with hi | hi | hi
    · rw [List.getElem?_append_left (by rw [List.length_take]; omega), List.getElem?_take, if_pos hi] at ha
      exact .inl ⟨hi, ha⟩
    · rw [List.getElem?_append_right (by rw [List.length_take]; omega), List.length_take, show i - min p l.length = 0 by omega] at ha
      simp at ha
      exact .inr (.inl ⟨hi, ha.symm⟩)
    · rw [List.getElem?_append_right (by rw [List.length_take]; omega), List.length_take, show i - min p l.length = (i - 1 - p) + 1 by omega, List.getElem?_cons_succ, List.getElem?_drop, show p + (i - 1 - p) = i - 1 by omega] at ha
      exact .inr (.inr ⟨hi, ha⟩)
  intro i j a c hij ha hc
  rcases key i a ha with ⟨i1, i2⟩ | ⟨i1, rfl⟩ | ⟨i1, i2⟩ <;> rcases key j c hc with ⟨j1, j2⟩ | ⟨j1, rfl⟩ | ⟨j1, j2⟩
  · exact h i j a c hij i2 j2
  · exact h1 i a i1 i2
  · exact h i (j - 1) a c (by omega) i2 j2
  · omega
  · omega
  · exact h2 (j - 1) c (by omega) j2
  · omega
  · omega
  · exact h (i - 1) (j - 1) a c (by omega) i2 j2

theorem put_inv {l : List Se} {x : Se} (h : Inv l) (h1 : x.id < 18446744073709551616) (h2 : x.nm < 18446744073709551616) (h3 : x.rp.length ≤ 500) : Inv (putS l x).2 := by
  unfold putS
  split
  · exact h
  · split
    · rename_i h0 h6
      have hz : ¬ (x.id = 0 ∨ x.nm = 0) := fun hz => by
        unfold askS at h6
        rw [if_pos hz] at h6
        exact absurd h6 (by decide)
      have hmem : ∀ s, s ∈ insS l x → s ∈ l ∨ s = x := by
        intro s hs
        unfold insS at hs
        split at hs
        · exact List.mem_or_eq_of_mem_set hs
        · rcases List.mem_append.1 hs with hs | hs
          · exact .inl (List.mem_of_mem_take hs)
          · rcases List.mem_cons.1 hs with hs | hs
            · exact .inr hs
            · exact .inl (List.mem_of_mem_drop hs)
      have hlen : (insS l x).length ≤ 64 ∧ Ris (insS l x) := by
        unfold insS
        split
        · rename_i hs
          rcases hq : seAt l x.id with _ | s
          · rw [hq] at hs; cases hs
          · obtain ⟨a1, a2⟩ := seAt_some hq
            exact ⟨by rw [List.length_set]; exact h.len, ris_set h.ris a1 a2.symm⟩
        · rename_i hs
          have hs0 : seAt l x.id = none := by
            rcases hq : seAt l x.id with _ | s
            · rfl
            · rw [hq] at hs; exact absurd rfl hs
          have hl : ¬ 64 ≤ l.length := fun hl => by
            unfold askS at h6
            rw [if_neg hz, hs0] at h6
            dsimp only at h6
            rw [if_pos hl] at h6
            exact absurd h6 (by decide)
          have hp := pl_le l x.id
          refine ⟨by simp; omega, ris_ins h.ris (fun t s ht hs => pl_lt l x.id t s ht hs) (fun t s ht hs => ?_) hp⟩
          have hpl : pl l x.id < l.length := by have := (List.getElem?_eq_some_iff.1 hs).1; omega
          obtain ⟨s0, b1, b2, b3⟩ := at_pl (l := l) (id := x.id) hpl
          have hne : s0.id ≠ x.id := fun e => by have := b2.2 e; rw [hs0] at this; cases this
          rcases Nat.lt_or_ge (pl l x.id) t with ht2 | ht2
          · have := h.ris _ _ s0 s ht2 b1 hs
            omega
          · have : pl l x.id = t := by omega
            rw [this] at b1
            rw [b1] at hs
            injection hs with hs
            rw [← hs]
            omega
      refine ⟨hlen.2, fun s hs => ?_, fun s hs => ?_, hlen.1⟩
      · rcases hmem s hs with hs | rfl
        · exact h.wrd s hs
        · exact ⟨h1, h2⟩
      · rcases hmem s hs with hs | rfl
        · exact h.pos s hs
        · exact ⟨by omega, by omega, h3⟩
    · exact h

/-- The table of the program, and the reference's. -/
structure Pl2 (w wr : World) (b br : Nat) (l k : List Se) : Prop where
  ta : ∃ v, TA wr b w.heap.size v l
  ge : w.heap.size ≤ b
  ro : ∃ v ps, RO wr br w.heap.size v ps ∧ ps.map Prod.fst = k
  gr : w.heap.size ≤ br
  bel : Below w.heap.size w wr
theorem Pl2.below {w wr wx : World} {b br : Nat} {l k : List Se} (h : Pl2 w wr b br l k) (hb : Below wr.heap.size wr wx) : Pl2 w wx b br l k := by
  obtain ⟨⟨v, h1⟩, h2, ⟨vr, ps, h3, h4⟩, h5, h6⟩ := h
  exact ⟨⟨v, h1.below hb⟩, h2, ⟨vr, ps, h3.below hb, h4⟩, h5, h6.trans (hb.mono h6.size)⟩

theorem p_put (id nm : Nat) (rp : List UInt8) (x : Value) (w wr : World) {b br : Nat} {l k : List Se} (h : Pl2 w wr b br l k) (hi : Inv l) (hx : Rd w x rp) (hrp : rp.length ≤ 500) :
    Calls Try.prog 11 #[.pointer (some ⟨b, 0, none⟩), .int .u64 (id : Int), .int .u64 (nm : Int), x] wr fun e w' => e = .returned (.int .i64 (putS l ⟨id, nm, rp⟩).1) ∧ Pl2 w w' b br (putS l ⟨id, nm, rp⟩).2 k ∧ Kept (fun g => w.heap.size ≤ g ∧ ∀ cs fr t, wr.heap[g]? = some (.cells cs t fr) → t = 55 ∨ t = 60) wr w' := by
  obtain ⟨⟨v, hv⟩, h2, ⟨vr, qs, h3, h4⟩, h5, h6⟩ := h
  obtain ⟨ps, hps, hax⟩ := hv
  have hvq := TA.tq ⟨ps, hps, hax⟩
  have hge : ∀ g, two b v g → w.heap.size ≤ g := by
    rintro g (rfl | hg)
    · exact h2
    · exact (hax.own.row.lt g hg).1
  have hty : ∀ g, two b v g → ∀ cs fr t, wr.heap[g]? = some (.cells cs t fr) → t = 55 ∨ t = 60 := by
    rintro g (rfl | hg) cs fr t hc
    · have h9 := hax.cell
      rw [hc] at h9
      injection h9 with h9
      injection h9 with _ h9 _
      exact .inl h9
    · by_cases ht : t = 60
      · exact .inr ht
      · exact absurd hg (own_ne hax.own.row hc ht)
  refine (put_any id nm rp x wr (fun _ _ => trivial) hvq h6.size (by have := hi.len; omega) hi.ris (fun s hs => by have := (hi.pos s hs).2.2; omega) (fun w' hk => hx.below (h6.trans (hk.below h6.size (fun k hk2 => hge k hk2)))) (by omega)).mono ?_
  rintro e w' ⟨rfl, v', hta, -, hk⟩
  refine ⟨rfl, ⟨⟨v', hta.ta⟩, h2, ⟨vr, qs, ⟨?_, h3.own.kept hk (fun g hg e => ?_) (fun q hq g hg e => ?_)⟩, h4⟩, h5, h6.trans (hk.below h6.size (fun k hk2 => hge k hk2))⟩, hk.weak (fun g _ hg => ⟨hge g hg, hty g hg⟩)⟩
  · refine (hk.block br (lt_of_block h3.cell) ?_).trans h3.cell
    intro e
    rcases hty br e _ _ _ h3.cell with h | h
    · exact absurd h (by decide)
    · exact absurd h (by decide)
  · rcases e with rfl | e
    · exact own_ne h3.own.row hax.cell (by decide) hg
    · exact own_ne2 hax.own.row h3.own.row (by decide) g e hg
  · rcases e with rfl | e
    · exact own_ne (h3.own.cells q hq) hax.cell (by decide) hg
    · exact own_ne2 hax.own.row (h3.own.cells q hq) (by decide) g e hg

theorem p_rput (id nm : Nat) (rp : List UInt8) (x : Value) (w wr : World) {b br : Nat} {l k : List Se} (h : Pl2 w wr b br l k) (hi : Inv k) (hx : Rd w x rp) (hrp : rp.length ≤ 500) :
    Calls Try.prog 12 #[.pointer (some ⟨br, 0, none⟩), .int .u64 (id : Int), .int .u64 (nm : Int), x] wr fun e w' => e = .returned (.int .i64 (putS k ⟨id, nm, rp⟩).1) ∧ Pl2 w w' b br l (putS k ⟨id, nm, rp⟩).2 ∧ Kept (fun g => g = br) wr w' := by
  obtain ⟨⟨v, hv⟩, h2, ⟨vr, qs, h3, rfl⟩, h5, h6⟩ := h
  obtain ⟨ps, hps, hax⟩ := hv
  have hl : qs.length ≤ 64 := by have := hi.len; simpa using this
  refine (rput_any id nm rp x wr h3 h6.size (by omega) hi.ris (hx.below h6) (by omega)).mono ?_
  rintro e w' ⟨rfl, v', qs', hro, hqs, hk⟩
  refine ⟨rfl, ⟨⟨v, ps, hps, (hk.block b (lt_of_block hax.cell) ?_).trans hax.cell, hax.own.kept hk (fun g hg e => ?_) (fun q hq g hg e => ?_)⟩, h2, ⟨v', qs', hro, hqs⟩, h5, h6.trans (hk.below h6.size (fun k hk2 => by rw [hk2]; exact h5))⟩, hk⟩
  · rintro rfl
    have h9 := h3.cell
    rw [hax.cell] at h9
    injection h9 with h9
    injection h9 with _ h9 _
    exact absurd h9 (by decide)
  · exact own_ne hax.own.row h3.cell (by decide) (e ▸ hg)
  · exact own_ne (hax.own.cells q hq) h3.cell (by decide) (e ▸ hg)
end Go.Proofs.Ytlfnblgpekilnaa
