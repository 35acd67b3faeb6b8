/- Heaps as they are played with (plain): sound, texts packed as they are; an object more, a part changed, a collection. -/
import Derived.Test.YtkdhajiplonloaaHeaUa
namespace Go.Proofs.Ytkdhajiplonloaa
open Go.RowKit HeaM

/-- Texts are packed as PutText packs them. -/
def Canon (W : List Nat) (F : List Bool) : Prop := ∀ i, Ob W F i → W.getD i 0 % 256 = 3 → ∃ s : List UInt8, s.length ≤ 1000000 ∧ obj W i = enc1 s
structure Fine (W : List Nat) (F : List Bool) : Prop where
  good : Good W F
  sound : Sound W F
  canon : Canon W F

theorem Fine.nil : Fine [] [] := by
  have h : ∀ i, Ob [] [] i → False := fun i hi => by have := hi.mark; simp at this
  exact ⟨⟨rfl, Nat.zero_le _, by simp, fun i hi => by simp at hi⟩, fun i hi => absurd hi (h i), fun i hi => absurd hi (h i)⟩

theorem getD_left (W R : List Nat) (i : Nat) (h : i < W.length) : (W ++ R).getD i 0 = W.getD i 0 := by
  rw [List.getD_eq_getElem?_getD, List.getElem?_append_left h, ← List.getD_eq_getElem?_getD]
theorem obj_left {W : List Nat} {F : List Bool} {i : Nat} (h : Ob W F i) (R : List Nat) : obj (W ++ R) i = obj W i := by
  have h1 := h.fits
  have h2 := szX_pos (W.getD i 0)
  unfold obj
  rw [getD_left W R i (by omega), List.drop_append_of_le_length (by omega), List.take_append_of_le_length (by rw [List.length_drop]; omega)]
theorem rst_obj {W : List Nat} {F : List Bool} {i : Nat} (h : Ob W F i) : rst W i = (obj W i).drop 1 := by rw [obj_head h]; rfl
theorem rst_left {W : List Nat} {F : List Bool} {i : Nat} (h : Ob W F i) (R : List Nat) : rst (W ++ R) i = rst W i := by
  have h1 := h.fits
  have h2 := szX_pos (W.getD i 0)
  unfold rst
  rw [getD_left W R i (by omega), List.drop_append_of_le_length (by omega), List.take_append_of_le_length (by rw [List.length_drop]; omega)]
theorem isObj_left {W : List Nat} {F : List Bool} {x : Nat} (h : isObj W F x = true) (R : List Nat) (FR : List Bool) : isObj (W ++ R) (F ++ FR) x = true := by
  obtain ⟨h1, h2, h3⟩ := isObj_iff.1 h
  refine isObj_iff.2 ⟨h1, by rw [List.length_append]; omega, ?_⟩
  rw [List.getElem?_append_left (List.getElem?_eq_some_iff.1 h3).1]
  exact h3
theorem Ob.left {W : List Nat} {F : List Bool} {i : Nat} (h : Ob W F i) (R : List Nat) (FR : List Bool) (hl : F.length = W.length) : Ob (W ++ R) (F ++ FR) i := by
  have h1 := h.fits
  have h2 := szX_pos (W.getD i 0)
  have e := getD_left W R i (by omega)
  refine ⟨by rw [List.getElem?_append_left (by omega)]; exact h.mark, by rw [e]; exact h.lt, by rw [e]; exact h.kind, by rw [e, List.length_append]; omega, fun j h3 h4 => ?_⟩
  rw [e] at h4
  rw [List.getElem?_append_left (by omega)]
  exact h.rest j h3 h4
theorem mks_true {s : List Nat} {i : Nat} (h : (mks s)[i]? = some true) : i = 0 := by
  rcases Nat.eq_zero_or_pos i with h0 | h0
  · exact h0
  · obtain ⟨m, rfl⟩ : ∃ m, i = m + 1 := ⟨i - 1, by omega⟩
    simp only [mks, List.getElem?_cons_succ] at h
    rw [List.getElem?_replicate] at h
    split at h <;> simp at h

/-- An object more. -/
theorem Fine.put {W : List Nat} {F : List Bool} {s : List Nat} (h : Fine W F) (hs : Seg s) (hl : W.length + s.length ≤ 10000000)
    (hp : s.getD 0 0 % 256 ≠ 3 → ∀ x ∈ s.drop 1, x % 2 = 1 ∨ isObj W F x = true) (hc : s.getD 0 0 % 256 = 3 → ∃ t : List UInt8, t.length ≤ 1000000 ∧ s = enc1 t) : Fine (W ++ s) (F ++ mks s) := by
  have hm := mks_length hs
  have hlen := h.good.len
  have hnew : Ob (W ++ s) (F ++ mks s) W.length := by
    have h1 := (Ob.head (R := []) (FR := []) hs).shift (s := W) (f := F) hlen
    simpa using h1
  have hcase : ∀ i, (F ++ mks s)[i]? = some true → Ob W F i ∨ i = W.length := by
    intro i hi
    by_cases hlt : i < W.length
    · rw [List.getElem?_append_left (by omega)] at hi
      exact .inl (h.good.obs i hi)
    · rw [List.getElem?_append_right (by omega), hlen] at hi
      have := mks_true hi
      right; omega
  have hh : (W ++ s).getD W.length 0 = s.getD 0 0 := by
    have := getD_right W s 0
    simpa using this
  have ho : obj (W ++ s) W.length = s := by
    unfold obj
    rw [hh, hs.2.1, List.drop_left, List.take_length]
  refine ⟨⟨by rw [List.length_append, List.length_append, hm, hlen], by rw [List.length_append]; exact hl, fun x hx => ?_, fun i hi => ?_⟩, fun i hi hk x hx => ?_, fun i hi hk => ?_⟩
  · rcases List.mem_append.1 hx with hx | hx
    · exact h.good.words x hx
    · exact hs.2.2.2 x hx
  · rcases hcase i hi with h1 | rfl
    · exact h1.left _ _ hlen
    · exact hnew
  · rcases hcase i hi.mark with h1 | rfl
    · rw [rst_left h1] at hx
      rw [getD_left W s i (by have := h1.fits; have := szX_pos (W.getD i 0); omega)] at hk
      exact (h.sound i h1 hk x hx).imp id fun h2 => isObj_left h2 _ _
    · rw [rst_obj hi, ho] at hx
      rw [hh] at hk
      exact (hp hk x hx).imp id fun h2 => isObj_left h2 _ _
  · rcases hcase i hi.mark with h1 | rfl
    · rw [obj_left h1]
      rw [getD_left W s i (by have := h1.fits; have := szX_pos (W.getD i 0); omega)] at hk
      exact h.canon i h1 hk
    · rw [ho]
      rw [hh] at hk
      exact hc hk

/-- A part is another one. -/
theorem getD_set_ne (W : List Nat) (p y i : Nat) (h : i ≠ p) : (W.set p y).getD i 0 = W.getD i 0 := by
  rw [List.getD_eq_getElem?_getD, List.getElem?_set_ne (Ne.symm h), ← List.getD_eq_getElem?_getD]
theorem Fine.set {W : List Nat} {F : List Bool} {i j y : Nat} (h : Fine W F) (ho : Ob W F i) (hk : W.getD i 0 % 256 ≠ 3) (hj : j < (rst W i).length) (hy : y % 2 = 1 ∨ isObj W F y = true) (hyl : y < 18446744073709551616) : Fine (W.set (i + 1 + j) y) F := by
  have hrl := rst_length ho
  have hpos := szX_pos (W.getD i 0)
  have hpf : F[i + 1 + j]? = some false := ho.rest _ (by omega) (by omega)
  have hne : ∀ k, F[k]? = some true → k ≠ i + 1 + j := fun k hk e => by rw [e, hpf] at hk; cases hk
  have hob : ∀ k, Ob W F k ↔ Ob (W.set (i + 1 + j) y) F k := by
    intro k
    constructor
    · intro hk
      have e := getD_set_ne W (i + 1 + j) y k (hne k hk.mark)
      exact ⟨hk.mark, by rw [e]; exact hk.lt, by rw [e]; exact hk.kind, by rw [e, List.length_set]; exact hk.fits, fun m h1 h2 => hk.rest m h1 (by rw [e] at h2; exact h2)⟩
    · intro hk
      have e := getD_set_ne W (i + 1 + j) y k (hne k hk.mark)
      have h1 := hk.lt
      have h2 := hk.kind
      have h3 := hk.fits
      have h4 := hk.rest
      rw [e] at h1 h2 h3 h4
      rw [List.length_set] at h3
      exact ⟨hk.mark, h1, h2, h3, h4⟩
  have hiso : ∀ x, isObj (W.set (i + 1 + j) y) F x = isObj W F x := fun x => by unfold isObj; rw [List.length_set]
  have hrst : ∀ k, Ob W F k → ∀ x ∈ rst (W.set (i + 1 + j) y) k, x = y ∨ x ∈ rst W k := by
    intro k hk x hx
    obtain ⟨m, hm⟩ := List.getElem?_of_mem hx
    unfold rst at hm
    rw [getD_set_ne W (i + 1 + j) y k (hne k hk.mark), List.getElem?_take] at hm
    split at hm
    · rename_i hlt
      rw [List.getElem?_drop, List.getElem?_set] at hm
      split at hm
      · split at hm
        · injection hm with hm
          exact .inl hm.symm
        · cases hm
      · right
        refine List.mem_of_getElem? (i := m) ?_
        unfold rst
        rw [List.getElem?_take, if_pos hlt, List.getElem?_drop]
        exact hm
    · cases hm
  refine ⟨⟨by rw [List.length_set]; exact h.good.len, by rw [List.length_set]; exact h.good.max, fun x hx => ?_, fun k hk => (hob k).1 (h.good.obs k hk)⟩, fun k hk2 hk3 x hx => ?_, fun k hk2 hk3 => ?_⟩
  · rcases List.mem_or_eq_of_mem_set hx with hx | hx
    · exact h.good.words x hx
    · rw [hx]; exact hyl
  · have hk4 := (hob k).2 hk2
    rw [getD_set_ne W (i + 1 + j) y k (hne k hk4.mark)] at hk3
    rw [hiso]
    rcases hrst k hk4 x hx with rfl | hx
    · exact hy
    · exact h.sound k hk4 hk3 x hx
  · have hk4 := (hob k).2 hk2
    rw [getD_set_ne W (i + 1 + j) y k (hne k hk4.mark)] at hk3
    obtain ⟨s, hs1, hs2⟩ := h.canon k hk4 hk3
    refine ⟨s, hs1, ?_⟩
    rw [← hs2]
    have hki : k ≠ i := fun e => by subst e; exact hk hk3
    -- the two lie apart
    have hap : i + 1 + j < k ∨ k + szX (W.getD k 0) ≤ i + 1 + j := by
      rcases Nat.lt_or_ge (i + 1 + j) k with h1 | h1
      · exact .inl h1
      · right
        rcases Nat.lt_or_ge (i + 1 + j) (k + szX (W.getD k 0)) with h2 | h2
        · exfalso
          rcases Nat.lt_or_ge i k with h3 | h3
          · have := ho.rest k h3 (by omega)
            rw [hk4.mark] at this
            cases this
          · have := hk4.rest i (by omega) (by omega)
            rw [ho.mark] at this
            cases this
        · exact h2
    unfold obj
    rw [getD_set_ne W (i + 1 + j) y k (hne k hk4.mark)]
    apply List.ext_getElem?
    intro m
    rw [List.getElem?_take, List.getElem?_take]
    split
    · rw [List.getElem?_drop, List.getElem?_drop, List.getElem?_set_ne (by omega)]
    · rfl

/-- A collection. -/
theorem Fine.col {W : List Nat} {F : List Bool} (h : Fine W F) (xs : List Nat) : Fine (colS W F xs).2 (Go.Proofs.Ytkdhajiplonloaa.mk W (colS W F xs).1) := by
  have hd := col_done h.good h.sound xs
  refine ⟨hd.good1, hd.sound1, fun i hi hk => ?_⟩
  have hm := hi.mark
  rw [marks_tobjs (ps := (colS W F xs).1) (colS W F xs).1 hd.inv.ob] at hm
  obtain ⟨k, hk1, hk2⟩ := marks_pos hd.segs i hm
  rw [List.length_map] at hk1
  have hp : (colS W F xs).1[k] ∈ (colS W F xs).1 := List.getElem_mem hk1
  have hpl : (colS W F xs).1[k].2 = i := by
    have h1 := hd.inv.pos k (colS W F xs).1[k] (List.getElem?_eq_getElem hk1)
    simp only at h1
    have h2 := tobjs_length (F := F) (f := (colS W F xs).1) (W := W) (ps := (colS W F xs).1.take k) fun q hq => hd.inv.ob q (List.mem_of_mem_take hq)
    rw [h1, hk2, ← h2]
    unfold tobjs
    rw [List.flatMap_def, List.map_take]
  generalize (colS W F xs).1[k] = p at *
  subst hpl
  have hob := hd.inv.ob p hp
  rw [hd.head hp] at hk
  obtain ⟨s, hs1, hs2⟩ := h.canon p.1 hob hk
  refine ⟨s, hs1, ?_⟩
  rw [obj_head hi, hd.head hp]
  have h3 := hd.rst hp
  unfold rst at h3
  rw [hd.head hp] at h3
  rw [h3]
  unfold tobj
  rw [if_pos hk, ← hs2, obj_head hob]
  rfl
end Go.Proofs.Ytkdhajiplonloaa
