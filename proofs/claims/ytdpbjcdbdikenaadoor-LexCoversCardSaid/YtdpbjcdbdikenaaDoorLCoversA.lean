/- What the tokens of a text are, plain. -/
import Derived.Test.YtdpbjcdbdikenaaDoorLTextsA
namespace LexM

theorem one_kind (c : UInt8) (r : List UInt8) (h : (one (c :: r)).1 = 0) : (one (c :: r)).2.2.1 ≠ 0 ∧ (one (c :: r)).2.2.1 < 256 ∧
    ((one (c :: r)).2.2.1 ≠ 5 → (c :: r).take (one (c :: r)).2.2.2.length = (one (c :: r)).2.2.2 ∧ (one (c :: r)).2.2.2.length ≤ (c :: r).length) := by
  have key : ∀ n : Nat, n ≤ (c :: r).length → (c :: r).take ((c :: r).take n).length = (c :: r).take n ∧ ((c :: r).take n).length ≤ (c :: r).length := by
    intro n hn
    have hl : ((c :: r).take n).length = n := by rw [List.length_take]; omega
    rw [hl]
    exact ⟨rfl, hn⟩
  have hw := run_le inNm r
  have hd := run_le isDg (c :: r)
  unfold one at h ⊢
  rw [List.headD_cons] at h ⊢
  split at h
  · rename_i h1
    rw [if_pos h1]
    unfold word1 at h ⊢
    rw [List.tail_cons, List.headD_cons] at h ⊢
    split at h
    · cases h
    · rename_i h2
      rw [if_neg h2]
      split at h
      · cases h
      · rename_i h3
        rw [if_neg h3]
        refine ⟨?_, ?_, fun _ => key _ (by simp only [List.length_cons]; omega)⟩
        · show wk _ ≠ 0
          unfold wk
          split
          · decide
          · split
            · decide
            · split <;> decide
        · show wk _ < 256
          unfold wk
          split
          · decide
          · split
            · decide
            · split <;> decide
  · rename_i h1
    rw [if_neg h1]
    split at h
    · rename_i h2
      rw [if_pos h2]
      unfold num1 at h ⊢
      split at h
      · cases h
      · rename_i h3
        rw [if_neg h3]
        split at h
        · cases h
        · rename_i h4
          rw [if_neg h4]
          exact ⟨by simp, by simp, fun _ => key _ hd⟩
    · rename_i h2
      rw [if_neg h2]
      split at h
      · rename_i h3
        rw [if_pos h3]
        unfold txt1 at h ⊢
        split at h
        · rename_i h4
          rw [if_pos h4]
          exact ⟨by simp, by simp, fun h => absurd rfl h⟩
        · cases h
      · rename_i h3
        rw [if_neg h3]
        unfold sgn1 at h ⊢
        cases hf : sgs.find? (·.isPrefixOf (c :: r)) with
        | none => rw [hf] at h; cases h
        | some k =>
          simp only
          have h1 := find_some hf
          have hp := List.isPrefixOf_iff_prefix.1 h1.2
          exact ⟨by decide, by decide, fun _ => ⟨(List.prefix_iff_eq_take.1 hp).symm, hp.length_le⟩⟩

/-- What holds of the tokens of a text from a place on. -/
structure Cov (p : Nat) (l : List UInt8) (ts : List Tk) : Prop where
  one : ∀ i t, ts[i]? = some t → p ≤ t.at_ ∧ t.at_ ≤ p + l.length ∧ (t.kind = 0 ↔ i + 1 = ts.length) ∧ t.kind < 256 ∧
    (t.kind ≠ 5 → t.kind ≠ 0 → t.text.length ≤ p + l.length - t.at_ ∧ (l.drop (t.at_ - p)).take t.text.length = t.text) ∧ (i + 1 = ts.length → t.at_ = p + l.length)
  up : ∀ i t u, ts[i]? = some t → ts[i + 1]? = some u → t.at_ < u.at_

theorem toks_cov (p : Nat) (l : List UInt8) : (toks p l).1 = 0 → Cov p l (toks p l).2.2 := by
  refine toks_ind (P := fun p l R => R.1 = 0 → Cov p l R.2.2) ?_ ?_ ?_ ?_ _ p l (Nat.le_refl _)
  · intro p l h h0; cases h0
  · intro p l h h' _
    have hle := sk_le _ l (Nat.le_refl _)
    have hge : l.length ≤ (sk l).1 := by
      have := congrArg List.length h'
      rw [List.length_drop, List.length_nil] at this
      omega
    have e : (sk l).1 = l.length := by omega
    constructor
    · intro i t ht
      have hi : i = 0 := by have := (List.getElem?_eq_some_iff.1 ht).1; simpa using this
      subst hi
      obtain rfl : ⟨0, [], p + (sk l).1⟩ = t := by simpa using ht
      simp only
      exact ⟨by omega, by omega, by simp, by decide, (fun _ h => absurd rfl h), fun _ => by omega⟩
    · intro i t u ht hu
      have := (List.getElem?_eq_some_iff.1 hu).1
      simp at this
  · intro p l c r h h' he h0; exact absurd h0 he
  · intro p l c r h h' he ih h0
    have h1 := one_le c r
    have h2 := h1.2 he
    have h3 := h1.1
    have hk := one_kind c r he
    have hle := sk_le _ l (Nat.le_refl _)
    have hlen : l.length = (sk l).1 + (c :: r).length := by rw [← h', List.length_drop]; omega
    have hp : (toks (p + (sk l).1 + (one (c :: r)).2.1) ((c :: r).drop (one (c :: r)).2.1)).1 = 0 := by
      unfold pre at h0
      split at h0
      · assumption
      · assumption
    have hne := ((toks_ok _ _).1 hp).2
    have hc := ih hp
    have hd : (c :: r).drop (one (c :: r)).2.1 = l.drop ((sk l).1 + (one (c :: r)).2.1) := by rw [← List.drop_drop, h']
    have hl2 : ((c :: r).drop (one (c :: r)).2.1).length = l.length - ((sk l).1 + (one (c :: r)).2.1) := by rw [hd, List.length_drop]
    unfold pre
    rw [if_pos hp]
    simp only
    generalize (toks (p + (sk l).1 + (one (c :: r)).2.1) ((c :: r).drop (one (c :: r)).2.1)).2.2 = ts at *
    generalize (one (c :: r)).2.1 = n at *
    generalize (one (c :: r)).2.2.1 = kd at *
    generalize (one (c :: r)).2.2.2 = tx at *
    constructor
    · intro i t ht
      rcases i with _ | i
      · obtain rfl : ⟨kd, tx, p + (sk l).1⟩ = t := by simpa using ht
        simp only
        refine ⟨by omega, by omega, ⟨fun h => absurd h hk.1, fun h => ?_⟩, hk.2.1, fun h5 _ => ?_, fun h => ?_⟩
        · simp only [List.length_cons, Nat.zero_add] at h
          exact absurd (List.eq_nil_of_length_eq_zero (by omega)) hne
        · obtain ⟨g1, g2⟩ := hk.2.2 h5
          refine ⟨by omega, ?_⟩
          rw [Nat.add_sub_cancel_left, h']
          exact g1
        · simp only [List.length_cons, Nat.zero_add] at h
          exact absurd (List.eq_nil_of_length_eq_zero (by omega)) hne
      · rw [List.getElem?_cons_succ] at ht
        obtain ⟨g1, g2, g3, g4, g5, g6⟩ := hc.one i t ht
        rw [hl2] at g2 g5 g6
        refine ⟨by omega, by omega, by rw [g3]; simp only [List.length_cons]; omega, g4, fun h5 h0 => ?_, fun h => ?_⟩
        · obtain ⟨k1, k2⟩ := g5 h5 h0
          refine ⟨by omega, ?_⟩
          rw [hd, List.drop_drop, show (sk l).1 + n + (t.at_ - (p + (sk l).1 + n)) = t.at_ - p by omega] at k2
          exact k2
        · simp only [List.length_cons] at h
          have := g6 (by omega)
          omega
    · intro i t u ht hu
      rcases i with _ | i
      · obtain rfl : ⟨kd, tx, p + (sk l).1⟩ = t := by simpa using ht
        rw [List.getElem?_cons_succ] at hu
        have := (hc.one 0 u hu).1
        simp only
        omega
      · rw [List.getElem?_cons_succ] at ht hu
        exact hc.up i t u ht hu
end LexM
