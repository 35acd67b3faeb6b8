/- Objects one behind the other; texts collected (plain). -/
import Derived.Test.YtkdhajiplonloaaHeaE
import Derived.Test.YtkdhajiplonloaaHeaZ
namespace Go.Proofs.Ytkdhajiplonloaa
open Go.RowKit HeaM

/-- A piece of words that is an object. -/
def Seg (s : List Nat) : Prop := s ≠ [] ∧ szX (s.getD 0 0) = s.length ∧ isK (s.getD 0 0 % 256) = true ∧ ∀ x ∈ s, x < 18446744073709551616
def mks (s : List Nat) : List Bool := true :: List.replicate (s.length - 1) false
def marks (l : List (List Nat)) : List Bool := l.flatMap mks

theorem mks_length {s : List Nat} (h : Seg s) : (mks s).length = s.length := by
  have : 0 < s.length := List.length_pos_iff.2 h.1
  simp [mks]; omega
theorem marks_length : ∀ {l : List (List Nat)}, (∀ s ∈ l, Seg s) → (marks l).length = l.flatten.length
  | [], _ => rfl
  | s :: t, h => by
    have h1 := mks_length (h s (List.mem_cons_self ..))
    have h2 := marks_length fun x hx => h x (List.mem_cons_of_mem _ hx)
    simp only [marks, List.flatMap_cons, List.flatten_cons, List.length_append] at h2 ⊢
    omega

theorem Ob.head {s R : List Nat} {FR : List Bool} (h : Seg s) : Ob (s ++ R) (mks s ++ FR) 0 := by
  obtain ⟨h1, h2, h3, h4⟩ := h
  have hp : 0 < s.length := List.length_pos_iff.2 h1
  have e : (s ++ R).getD 0 0 = s.getD 0 0 := by
    rw [List.getD_eq_getElem?_getD, List.getElem?_append_left hp, ← List.getD_eq_getElem?_getD]
  have hm : s.getD 0 0 ∈ s := by
    rw [List.getD_eq_getElem?_getD, List.getElem?_eq_getElem hp]
    exact List.getElem_mem hp
  refine ⟨rfl, by rw [e]; exact h4 _ hm, by rw [e]; exact h3, by rw [e, h2, List.length_append]; omega, ?_⟩
  intro j hj1 hj2
  rw [e, h2] at hj2
  have : j < (mks s).length := by simp [mks]; omega
  rw [List.getElem?_append_left this]
  obtain ⟨m, rfl⟩ : ∃ m, j = m + 1 := ⟨j - 1, by omega⟩
  simp only [mks, List.getElem?_cons_succ]
  rw [List.getElem?_replicate, if_pos (by omega)]
theorem getD_right (s R : List Nat) (i : Nat) : (s ++ R).getD (s.length + i) 0 = R.getD i 0 := by
  rw [List.getD_eq_getElem?_getD, List.getElem?_append_right (by omega), Nat.add_sub_cancel_left, ← List.getD_eq_getElem?_getD]
theorem Ob.shift {s R : List Nat} {f FR : List Bool} {i : Nat} (h : Ob R FR i) (hf : f.length = s.length) : Ob (s ++ R) (f ++ FR) (s.length + i) := by
  have g : ∀ j, (f ++ FR)[s.length + j]? = FR[j]? := fun j => by rw [List.getElem?_append_right (by omega), hf, Nat.add_sub_cancel_left]
  have e := getD_right s R i
  refine ⟨by rw [g]; exact h.mark, by rw [e]; exact h.lt, by rw [e]; exact h.kind, by rw [e, List.length_append]; have := h.fits; omega, ?_⟩
  intro j h1 h2
  rw [e] at h2
  obtain ⟨m, rfl⟩ : ∃ m, j = s.length + m := ⟨j - s.length, by omega⟩
  rw [g]
  exact h.rest m (by omega) (by omega)
theorem ob_marks : ∀ {l : List (List Nat)}, (∀ s ∈ l, Seg s) → ∀ i, (marks l)[i]? = some true → Ob l.flatten (marks l) i
  | [], _, i, hi => by simp [marks] at hi
  | s :: t, h, i, hi => by
    have hs := h s (List.mem_cons_self ..)
    have hml := mks_length hs
    simp only [marks, List.flatMap_cons, List.flatten_cons] at hi ⊢
    by_cases hlt : i < s.length
    · rw [List.getElem?_append_left (by omega)] at hi
      have : i = 0 := by
        rcases Nat.eq_zero_or_pos i with h0 | h0
        · exact h0
        · obtain ⟨m, rfl⟩ : ∃ m, i = m + 1 := ⟨i - 1, by omega⟩
          simp only [mks, List.getElem?_cons_succ] at hi
          rw [List.getElem?_replicate] at hi
          split at hi <;> simp at hi
      subst this
      exact Ob.head hs
    · obtain ⟨m, rfl⟩ : ∃ m, i = s.length + m := ⟨i - s.length, by omega⟩
      rw [List.getElem?_append_right (by omega), hml, Nat.add_sub_cancel_left] at hi
      exact (ob_marks (fun x hx => h x (List.mem_cons_of_mem _ hx)) m hi).shift hml
theorem good_segs {l : List (List Nat)} (h : ∀ s ∈ l, Seg s) (hm : l.flatten.length ≤ 10000000) : Good l.flatten (marks l) :=
  ⟨marks_length h, hm, fun x hx => by
    obtain ⟨s, hs, hx⟩ := List.mem_flatten.1 hx
    exact (h s hs).2.2.2 x hx, ob_marks h⟩

-- texts
theorem enc1_seg (l : List UInt8) (h : l.length ≤ 1000000) : Seg (enc1 l) := by
  refine ⟨by simp [enc1], ?_, ?_, ?_⟩
  · rw [enc1_length]
    show szX (l.length * 256 + 3) = _
    unfold szX need
    rw [if_pos (by omega)]
    unfold nw
    omega
  · show isK ((l.length * 256 + 3) % 256) = true
    rw [show (l.length * 256 + 3) % 256 = 3 by omega]
    rfl
  · intro x hx
    rcases List.mem_cons.1 hx with rfl | hx
    · omega
    · exact pk_lt l x hx
theorem encW_flat (ls : List (List UInt8)) : encW ls = (ls.map enc1).flatten := by simp [encW, List.flatMap]
theorem encF_marks (ls : List (List UInt8)) : encF ls = marks (ls.map enc1) := by
  unfold encF marks
  rw [List.flatMap_map]
  congr 1
  funext l
  simp [mks, mrk1, enc1, pk_length]
theorem good_texts (ls : List (List UInt8)) (h : ∀ l ∈ ls, l.length ≤ 1000) (hn : ls.length ≤ 1000) : Good (encW ls) (encF ls) := by
  have hl := encW_le ls h
  rw [encF_marks]
  rw [encW_flat] at hl ⊢
  refine good_segs (fun s hs => ?_) (by omega)
  obtain ⟨l, hl, rfl⟩ := List.mem_map.1 hs
  exact enc1_seg l (by have := h l hl; omega)

/-- Where text i stands. -/
def pl (ls : List (List UInt8)) (i : Nat) : Nat := (encW (ls.take i)).length
def tx (ls : List (List UInt8)) (i : Nat) : List UInt8 := ls.getD i []
theorem pl_succ (ls : List (List UInt8)) (i : Nat) (h : i < ls.length) : pl ls (i + 1) = pl ls i + (1 + nw ls[i].length) := by
  unfold pl
  rw [List.take_succ_eq_append_getElem h, encW_append, encW_one, List.length_append, enc1_length]
theorem pl_lt (ls : List (List UInt8)) {i j : Nat} (h : i < j) (hj : j ≤ ls.length) : pl ls i < pl ls j := by
  induction j with
  | zero => omega
  | succ j ih =>
    have h1 := pl_succ ls j (by omega)
    rcases Nat.lt_or_ge i j with h2 | h2
    · have := ih h2 (by omega); omega
    · obtain rfl : i = j := by omega
      omega
theorem pl_inj (ls : List (List UInt8)) {i j : Nat} (hi : i < ls.length) (hj : j < ls.length) (h : pl ls i = pl ls j) : i = j := by
  rcases Nat.lt_trichotomy i j with h1 | h1 | h1
  · have := pl_lt ls h1 (Nat.le_of_lt hj); omega
  · exact h1
  · have := pl_lt ls h1 (Nat.le_of_lt hi); omega
theorem encW_at (ls : List (List UInt8)) (i : Nat) (h : i < ls.length) : encW ls = encW (ls.take i) ++ (enc1 ls[i] ++ encW (ls.drop (i + 1))) := by
  rw [encW_split ls i h]
  simp [enc1]
theorem encF_at (ls : List (List UInt8)) (i : Nat) (h : i < ls.length) : (encF ls)[pl ls i]? = some true := by
  rw [encF_split ls i h]
  have e : (encF (ls.take i)).length = pl ls i := encFW _
  rw [List.getElem?_append_right (by omega), e, Nat.sub_self]
  rfl
theorem head_at (ls : List (List UInt8)) (i : Nat) (h : i < ls.length) : (encW ls).getD (pl ls i) 0 = ls[i].length * 256 + 3 := by
  rw [encW_at ls i h]
  unfold pl
  rw [show (encW (ls.take i)).length = (encW (ls.take i)).length + 0 from rfl, getD_right]
  rfl
theorem sz_text (n : Nat) : szX (n * 256 + 3) = 1 + nw n := by
  unfold szX need
  rw [if_pos (by omega), show (n * 256 + 3) / 256 = n by omega]
  rfl
theorem obj_at (ls : List (List UInt8)) (i : Nat) (h : i < ls.length) : obj (encW ls) (pl ls i) = enc1 ls[i] := by
  unfold obj
  rw [head_at ls i h, sz_text, encW_at ls i h]
  unfold pl
  rw [List.drop_left, ← enc1_length, List.take_left]

theorem snoc_ind {α : Type} {P : List α → Prop} (h0 : P []) (h1 : ∀ l a, P l → P (l ++ [a])) (l : List α) : P l := by
  rw [← List.reverse_reverse l]
  induction l.reverse with
  | nil => exact h0
  | cons a t ih => rw [List.reverse_cons]; exact h1 _ _ ih
/-- What is moved of texts. -/
theorem mvs_texts (ls : List (List UInt8)) (hl : ∀ l ∈ ls, l.length ≤ 1000) (hn : ls.length ≤ 1000) : ∀ is : List Nat, is.Nodup → (∀ i ∈ is, i < ls.length) →
    ∃ ps, mvs (encW ls) (encF ls) ([], []) (is.map fun i => 2 * pl ls i) = ((ps, encW (is.map (tx ls))), places (is.map (tx ls)) is.length) ∧ ps.map (·.1) = is.map (pl ls) ∧ mk (encW ls) ps = encF (is.map (tx ls)) := by
  intro is
  induction is using snoc_ind with
  | h0 => intro _ _; exact ⟨[], rfl, rfl, rfl⟩
  | h1 is i ih =>
    intro hnd hlt
    rw [List.nodup_append] at hnd
    obtain ⟨ps, h1, h2, h3⟩ := ih hnd.1 fun j hj => hlt j (List.mem_append_left _ hj)
    have hi : i < ls.length := hlt i (by simp)
    have hg := good_texts ls hl hn
    have hob : Ob (encW ls) (encF ls) (pl ls i) := hg.obs _ (encF_at ls i hi)
    have hlook : look ps (pl ls i) = none := by
      rw [look_none]
      intro p hp e
      have hm : p.1 ∈ ps.map (·.1) := List.mem_map_of_mem hp
      rw [h2, e] at hm
      obtain ⟨j, hj, hjl⟩ := List.mem_map.1 hm
      exact hnd.2.2 j hj i (by simp) (pl_inj ls (hlt j (List.mem_append_left _ hj)) hi hjl)
    have htx : tx ls i = ls[i] := by
      unfold tx
      rw [List.getD_eq_getElem?_getD, List.getElem?_eq_getElem hi]
      rfl
    have hlen : (is.map (tx ls)).length = is.length := by simp
    refine ⟨ps ++ [(pl ls i, (encW (is.map (tx ls))).length)], ?_, by simp [h2], ?_⟩
    · rw [List.map_append, List.map_cons, List.map_nil, mvs_snoc, h1]
      simp only
      rw [mv_new hob hlook, obj_at ls i hi]
      simp only [List.map_append, List.map_cons, List.map_nil, List.length_append, List.length_cons, List.length_nil, htx]
      rw [encW_append, encW_one, places_succ]
      have e1 : (is.map (tx ls) ++ [ls[i]]).take is.length = is.map (tx ls) := List.take_left' hlen
      rw [e1]
      congr 2
      unfold places
      apply List.map_congr_left
      intro j hj
      rw [List.mem_range] at hj
      rw [List.take_append_of_le_length (by omega)]
    · rw [mk_snoc, h3, List.map_append, List.map_cons, List.map_nil, encF_append, encF_one, htx]
      congr 1
      simp only
      rw [head_at ls i hi, sz_text]
      simp [mrk1]
theorem goP_texts (W : List Nat) (F : List Bool) (ls : List (List UInt8)) (s : St) (hs : s.2 = encW ls) : ∀ n k, k ≤ ls.length → goP W F n (pl ls k) s = s
  | 0, _, _ => rfl
  | n + 1, k, hk => by
    unfold goP
    split
    · rename_i hlt
      have hk' : k < ls.length := by
        rcases Nat.lt_or_ge k ls.length with h | h
        · exact h
        · obtain rfl : k = ls.length := by omega
          rw [hs] at hlt
          unfold pl at hlt
          rw [List.take_length] at hlt
          omega
      have hh := head_at ls k hk'
      rw [← hs] at hh
      have e : stp W F (pl ls k) s = s := by
        unfold stp
        rw [hh, if_pos (by omega)]
      rw [e, hh, sz_text, ← pl_succ ls k hk']
      exact goP_texts W F ls s hs n (k + 1) hk'
    · rfl
/-- A collection of texts. -/
theorem col_texts (ls : List (List UInt8)) (hl : ∀ l ∈ ls, l.length ≤ 1000) (hn : ls.length ≤ 1000) (is : List Nat) (hd : is.Nodup) (hlt : ∀ i ∈ is, i < ls.length) :
    (colS (encW ls) (encF ls) (is.map fun i => 2 * pl ls i)).2 = encW (is.map (tx ls)) ∧ mk (encW ls) (colS (encW ls) (encF ls) (is.map fun i => 2 * pl ls i)).1 = encF (is.map (tx ls)) ∧ colR (encW ls) (encF ls) (is.map fun i => 2 * pl ls i) = (List.range is.length).map fun j => 2 * pl (is.map (tx ls)) j := by
  obtain ⟨ps, h1, _, h3⟩ := mvs_texts ls hl hn is hd hlt
  have hg := goP_texts (encW ls) (encF ls) (is.map (tx ls)) (ps, encW (is.map (tx ls))) rfl ((encW ls).length + 1) 0 (Nat.zero_le _)
  have e : colS (encW ls) (encF ls) (is.map fun i => 2 * pl ls i) = (ps, encW (is.map (tx ls))) := by
    unfold colS
    rw [h1]
    exact hg
  refine ⟨by rw [e], by rw [e]; exact h3, ?_⟩
  unfold colR
  rw [h1]
  rfl
end Go.Proofs.Ytkdhajiplonloaa
