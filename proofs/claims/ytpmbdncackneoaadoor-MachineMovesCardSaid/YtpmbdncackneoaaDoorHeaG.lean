/- A collection, in the plain: what was moved where, and what stands there. -/
import Derived.Test.YtpmbdncackneoaaDoorHeaO
namespace Go.Proofs.YtpmbdncackneoaaDoor
open Go.RowKit HeaM

/-- How many words an object takes whose first word is X. -/
def szX (X : Nat) : Nat := need (X % 256) (X / 256)
theorem szX_pos (X : Nat) : 1 ≤ szX X := by unfold szX need; split <;> omega

/-- An object stands at i, whole, and nothing else begins in it. -/
structure Ob (W : List Nat) (F : List Bool) (i : Nat) : Prop where
  mark : F[i]? = some true
  lt : W.getD i 0 < 18446744073709551616
  kind : isK (W.getD i 0 % 256) = true
  fits : i + szX (W.getD i 0) ≤ W.length
  rest : ∀ j, i < j → j < i + szX (W.getD i 0) → F[j]? = some false

/-- Words that are objects. -/
structure Good (W : List Nat) (F : List Bool) : Prop where
  len : F.length = W.length
  max : W.length ≤ 10000000
  words : ∀ x ∈ W, x < 18446744073709551616
  obs : ∀ i, F[i]? = some true → Ob W F i

theorem isObj_iff {W : List Nat} {F : List Bool} {x : Nat} : isObj W F x = true ↔ x % 2 = 0 ∧ x / 2 < W.length ∧ F[x / 2]? = some true := by
  unfold isObj
  simp only [Bool.and_eq_true, decide_eq_true_eq, List.getD_eq_getElem?_getD]
  constructor
  · rintro ⟨⟨h1, h2⟩, h3⟩
    refine ⟨h1, h2, ?_⟩
    rcases e : F[x / 2]? with _ | b
    · rw [e] at h3; cases h3
    · rw [e] at h3; simp at h3; rw [h3]
  · rintro ⟨h1, h2, h3⟩
    exact ⟨⟨h1, h2⟩, by rw [h3]; rfl⟩

/-- What was moved, each with its new place; what stands in the new heap. -/
abbrev St := List (Nat × Nat) × List Nat
def look (ps : List (Nat × Nat)) (i : Nat) : Option Nat := (ps.find? fun p => p.1 == i).map (·.2)
def obj (W : List Nat) (i : Nat) : List Nat := (W.drop i).take (szX (W.getD i 0))
def mv (W : List Nat) (F : List Bool) (s : St) (x : Nat) : St × Nat :=
  if isObj W F x then match look s.1 (x / 2) with
    | some j => (s, 2 * j)
    | none => ((s.1 ++ [(x / 2, s.2.length)], s.2 ++ obj W (x / 2)), 2 * s.2.length)
  else (s, x)
/-- The old words, with where each went in the place of its first word. -/
def fwd (W : List Nat) (ps : List (Nat × Nat)) : List Nat := ps.foldl (fun V p => V.set p.1 (p.2 * 256)) W
def mk (W : List Nat) (ps : List (Nat × Nat)) : List Bool := ps.flatMap fun p => true :: List.replicate (szX (W.getD p.1 0) - 1) false
def tot (W : List Nat) (ps : List (Nat × Nat)) : Nat := (ps.map fun p => szX (W.getD p.1 0)).sum

theorem look_none {ps : List (Nat × Nat)} {i : Nat} : look ps i = none ↔ ∀ p ∈ ps, p.1 ≠ i := by
  unfold look
  simp [List.find?_eq_none]
theorem look_some {ps : List (Nat × Nat)} {i j : Nat} (h : look ps i = some j) : (i, j) ∈ ps := by
  unfold look at h
  rcases e : ps.find? (fun p => p.1 == i) with _ | p
  · rw [e] at h; cases h
  · rw [e] at h
    simp at h
    have h1 := List.find?_some e
    have h2 := List.mem_of_find?_eq_some e
    simp at h1
    obtain ⟨a, b⟩ := p
    simp only at h1 h
    subst h1 h
    exact h2

theorem fwd_length (W : List Nat) (ps : List (Nat × Nat)) : (fwd W ps).length = W.length := by
  unfold fwd
  induction ps generalizing W with
  | nil => rfl
  | cons p t ih => rw [List.foldl_cons, ih, List.length_set]
theorem fwd_snoc (W : List Nat) (ps : List (Nat × Nat)) (p : Nat × Nat) : fwd W (ps ++ [p]) = (fwd W ps).set p.1 (p.2 * 256) := by
  unfold fwd; rw [List.foldl_append]; rfl
theorem fwd_other (W : List Nat) (ps : List (Nat × Nat)) (i : Nat) (h : ∀ p ∈ ps, p.1 ≠ i) : (fwd W ps)[i]? = W[i]? := by
  unfold fwd
  induction ps generalizing W with
  | nil => rfl
  | cons p t ih =>
    rw [List.foldl_cons, ih _ (fun q hq => h q (List.mem_cons_of_mem _ hq)), List.getElem?_set_ne (h p (List.mem_cons_self ..))]
theorem fwd_moved (W : List Nat) (ps : List (Nat × Nat)) (hn : (ps.map (·.1)).Nodup) (i j : Nat) (hp : (i, j) ∈ ps) (hi : i < W.length) : (fwd W ps)[i]? = some (j * 256) := by
  unfold fwd
  induction ps generalizing W with
  | nil => cases hp
  | cons p t ih =>
    rw [List.foldl_cons]
    rw [List.map_cons, List.nodup_cons] at hn
    rcases List.mem_cons.1 hp with h | h
    · subst h
      have := fwd_other (W.set i (j * 256)) t i (fun q hq e => hn.1 (by simp only [List.mem_map]; exact ⟨q, hq, e⟩))
      unfold fwd at this
      rw [this, List.getElem?_set_self hi]
    · exact ih _ hn.2 h (by rw [List.length_set]; exact hi)
theorem mk_length (W : List Nat) (ps : List (Nat × Nat)) : (mk W ps).length = tot W ps := by
  unfold mk tot
  induction ps with
  | nil => rfl
  | cons p t ih =>
    have := szX_pos (W.getD p.1 0)
    simp only [List.flatMap_cons, List.length_append, List.length_cons, List.length_replicate, List.map_cons, List.sum_cons, ih]
    omega
theorem mk_snoc (W : List Nat) (ps : List (Nat × Nat)) (p : Nat × Nat) : mk W (ps ++ [p]) = mk W ps ++ true :: List.replicate (szX (W.getD p.1 0) - 1) false := by simp [mk]
theorem tot_snoc (W : List Nat) (ps : List (Nat × Nat)) (p : Nat × Nat) : tot W (ps ++ [p]) = tot W ps + szX (W.getD p.1 0) := by simp [tot]

/-- What holds while things are moved. -/
structure Inv (W : List Nat) (F : List Bool) (s : St) : Prop where
  nodup : (s.1.map (·.1)).Nodup
  ob : ∀ p ∈ s.1, Ob W F p.1
  pos : ∀ m p, s.1[m]? = some p → p.2 = tot W (s.1.take m)
  len : s.2.length = tot W s.1
  head : ∀ p ∈ s.1, s.2.getD p.2 0 = W.getD p.1 0
  words : ∀ x ∈ s.2, x < 18446744073709551616

theorem Inv.nil (W : List Nat) (F : List Bool) : Inv W F ([], []) := ⟨by simp, by simp, by simp, rfl, by simp, by simp⟩

theorem sum_erase (l : List Nat) (x : Nat) (h : x ∈ l) : l.length = (l.erase x).length + 1 := by
  rw [List.length_erase_of_mem h]
  have : 0 < l.length := List.length_pos_of_mem h
  omega
theorem nodup_le : ∀ (o l : List Nat), o.Nodup → (∀ x ∈ o, x ∈ l) → o.length ≤ l.length
  | [], l, _, _ => Nat.zero_le _
  | x :: t, l, hn, hs => by
    rw [List.nodup_cons] at hn
    have hx := hs x (List.mem_cons_self ..)
    have h := nodup_le t (l.erase x) hn.2 (fun y hy => by
      have hne : y ≠ x := fun e => hn.1 (e ▸ hy)
      exact (List.mem_erase_of_ne hne).2 (hs y (List.mem_cons_of_mem _ hy)))
    rw [List.length_cons, sum_erase l x hx]
    omega

/-- The places that objects take. -/
def cover (W : List Nat) (ps : List (Nat × Nat)) : List Nat := ps.flatMap fun p => List.range' p.1 (szX (W.getD p.1 0))
theorem cover_length (W : List Nat) (ps : List (Nat × Nat)) : (cover W ps).length = tot W ps := by
  unfold cover tot
  induction ps with
  | nil => rfl
  | cons p t ih => simp only [List.flatMap_cons, List.length_append, List.length_range', List.map_cons, List.sum_cons, ih]
theorem mem_cover {W : List Nat} {ps : List (Nat × Nat)} {x : Nat} : x ∈ cover W ps ↔ ∃ p ∈ ps, p.1 ≤ x ∧ x < p.1 + szX (W.getD p.1 0) := by
  unfold cover
  simp only [List.mem_flatMap, List.mem_range'_1]
theorem cover_nodup (W : List Nat) (F : List Bool) : ∀ ps : List (Nat × Nat), (ps.map (·.1)).Nodup → (∀ p ∈ ps, Ob W F p.1) → (cover W ps).Nodup
  | [], _, _ => List.nodup_nil
  | p :: t, hn, ho => by
    rw [List.map_cons, List.nodup_cons] at hn
    have ih := cover_nodup W F t hn.2 fun q hq => ho q (List.mem_cons_of_mem _ hq)
    have hp := ho p (List.mem_cons_self ..)
    show (List.range' p.1 _ ++ cover W t).Nodup
    rw [List.nodup_append]
    refine ⟨List.nodup_range', ih, fun x hx y hy e => ?_⟩
    subst e
    rw [List.mem_range'_1] at hx
    obtain ⟨q, hq, h1, h2⟩ := mem_cover.1 hy
    have hqo := ho q (List.mem_cons_of_mem _ hq)
    have hne : p.1 ≠ q.1 := fun e => hn.1 (e ▸ List.mem_map_of_mem hq)
    rcases Nat.lt_or_ge p.1 q.1 with h | h
    · have := hp.rest q.1 h (by omega)
      rw [hqo.mark] at this
      cases this
    · have := hqo.rest p.1 (by omega) (by omega)
      rw [hp.mark] at this
      cases this
theorem Inv.tot_le {W : List Nat} {F : List Bool} {s : St} (h : Inv W F s) : tot W s.1 ≤ W.length := by
  have := nodup_le (cover W s.1) (List.range W.length) (cover_nodup W F s.1 h.nodup h.ob) (fun x hx => by
    obtain ⟨p, hp, h1, h2⟩ := mem_cover.1 hx
    have := (h.ob p hp).fits
    rw [List.mem_range]
    omega)
  rw [cover_length, List.length_range] at this
  exact this

theorem obj_length {W : List Nat} {F : List Bool} {i : Nat} (h : Ob W F i) : (obj W i).length = szX (W.getD i 0) := by
  have := h.fits
  unfold obj
  rw [List.length_take, List.length_drop]
  omega
theorem obj_head {W : List Nat} {F : List Bool} {i : Nat} (h : Ob W F i) : obj W i = W.getD i 0 :: (W.drop (i + 1)).take (szX (W.getD i 0) - 1) := by
  have h1 := h.fits
  have h2 := szX_pos (W.getD i 0)
  have hi : i < W.length := by omega
  unfold obj
  rw [List.drop_eq_getElem_cons hi]
  obtain ⟨m, hm⟩ : ∃ m, szX (W.getD i 0) = m + 1 := ⟨_, (Nat.sub_add_cancel h2).symm⟩
  rw [hm, List.take_succ_cons, Nat.add_sub_cancel]
  congr 1
  rw [List.getD_eq_getElem?_getD, List.getElem?_eq_getElem hi]
  rfl

theorem inv_mv {W : List Nat} {F : List Bool} {s : St} (h : Inv W F s) (hg : Good W F) (x : Nat) : Inv W F (mv W F s x).1 := by
  unfold mv
  split
  · rename_i ho
    obtain ⟨_, h2, h3⟩ := isObj_iff.1 ho
    have hob := hg.obs _ h3
    split
    · exact h
    · rename_i hl
      have hne := look_none.1 hl
      refine ⟨?_, ?_, ?_, ?_, ?_, ?_⟩
      · simp only [List.map_append, List.map_cons, List.map_nil]
        rw [List.nodup_append]
        refine ⟨h.nodup, by simp, ?_⟩
        intro a ha b hb e
        simp at hb
        subst e hb
        obtain ⟨p, hp, e⟩ := List.mem_map.1 ha
        exact hne p hp e
      · intro p hp
        rcases List.mem_append.1 hp with hp | hp
        · exact h.ob p hp
        · simp at hp; subst hp; exact hob
      · intro m p hm
        rw [List.getElem?_append] at hm
        split at hm
        · rename_i hlt
          rw [List.take_append_of_le_length (Nat.le_of_lt hlt)]
          exact h.pos m p hm
        · rename_i hge
          have hm0 : m = s.1.length := by
            have := (List.getElem?_eq_some_iff.1 hm).1
            simp at this
            omega
          subst hm0
          simp at hm
          subst hm
          rw [List.take_left]
          exact h.len
      · rw [List.length_append, tot_snoc, obj_length hob, h.len]
      · intro p hp
        rcases List.mem_append.1 hp with hp | hp
        · have h1 := h.head p hp
          obtain ⟨m, hm⟩ := List.getElem?_of_mem hp
          have hpos := h.pos m p hm
          have hlt : p.2 < s.2.length := by
            rw [h.len, hpos]
            have e : s.1 = s.1.take m ++ p :: s.1.drop (m + 1) := by
              obtain ⟨hm1, hm2⟩ := List.getElem?_eq_some_iff.1 hm
              rw [← hm2, ← List.drop_eq_getElem_cons hm1, List.take_append_drop]
            have := szX_pos (W.getD p.1 0)
            conv => rhs; rw [e]
            simp only [tot, List.map_append, List.map_cons, List.sum_append, List.sum_cons]
            omega
          rw [List.getD_eq_getElem?_getD, List.getElem?_append_left hlt, ← List.getD_eq_getElem?_getD]
          exact h1
        · simp at hp
          subst hp
          simp only
          rw [List.getD_eq_getElem?_getD, List.getElem?_append_right (Nat.le_refl _), Nat.sub_self, obj_head hob]
          rfl
      · intro y hy
        rcases List.mem_append.1 hy with hy | hy
        · exact h.words y hy
        · exact hg.words y (List.mem_of_mem_drop (List.mem_of_mem_take hy))
  · exact h
end Go.Proofs.YtpmbdncackneoaaDoor
