/- What a collection makes of a heap (plain): its objects, with their parts turned. -/
import Derived.Test.YtkdhajiplonloaaHeaD
namespace Go.Proofs.Ytkdhajiplonloaa
open Go.RowKit HeaM

/-- A word behind a collection. -/
def trW (W : List Nat) (F : List Bool) (ps : List (Nat × Nat)) (x : Nat) : Nat := if isObj W F x = true then 2 * ((look ps (x / 2)).getD 0) else x
/-- The parts of an object, its text's words if it is one. -/
def rst (W : List Nat) (i : Nat) : List Nat := (W.drop (i + 1)).take (szX (W.getD i 0) - 1)
def raws (W : List Nat) (ps : List (Nat × Nat)) : List Nat := ps.flatMap fun p => obj W p.1
/-- An object behind a collection. -/
def tobj (W : List Nat) (F : List Bool) (ps : List (Nat × Nat)) (i : Nat) : List Nat := if W.getD i 0 % 256 = 3 then obj W i else W.getD i 0 :: (rst W i).map (trW W F ps)
def tobjs (W : List Nat) (F : List Bool) (f ps : List (Nat × Nat)) : List Nat := ps.flatMap fun p => tobj W F f p.1

theorem raws_append (W : List Nat) (a b : List (Nat × Nat)) : raws W (a ++ b) = raws W a ++ raws W b := by simp [raws]
theorem rst_length {W : List Nat} {F : List Bool} {i : Nat} (h : Ob W F i) : (rst W i).length = szX (W.getD i 0) - 1 := by
  have h1 := h.fits
  have h2 := szX_pos (W.getD i 0)
  unfold rst
  rw [List.length_take, List.length_drop]
  omega
theorem tobj_length {W : List Nat} {F : List Bool} {f : List (Nat × Nat)} {i : Nat} (h : Ob W F i) : (tobj W F f i).length = szX (W.getD i 0) := by
  have h2 := szX_pos (W.getD i 0)
  unfold tobj
  split
  · exact obj_length h
  · rw [List.length_cons, List.length_map, rst_length h]; omega
theorem raws_length {W : List Nat} {F : List Bool} : ∀ {ps : List (Nat × Nat)}, (∀ p ∈ ps, Ob W F p.1) → (raws W ps).length = tot W ps
  | [], _ => rfl
  | p :: t, h => by
    have h1 := obj_length (h p (List.mem_cons_self ..))
    have h2 := raws_length (W := W) fun q hq => h q (List.mem_cons_of_mem _ hq)
    simp only [raws, tot, List.flatMap_cons, List.length_append, List.map_cons, List.sum_cons] at h2 ⊢
    omega
theorem tobjs_length {W : List Nat} {F : List Bool} {f : List (Nat × Nat)} : ∀ {ps : List (Nat × Nat)}, (∀ p ∈ ps, Ob W F p.1) → (tobjs W F f ps).length = tot W ps
  | [], _ => rfl
  | p :: t, h => by
    have h1 := tobj_length (f := f) (h p (List.mem_cons_self ..))
    have h2 := tobjs_length (W := W) (f := f) fun q hq => h q (List.mem_cons_of_mem _ hq)
    simp only [tobjs, tot, List.flatMap_cons, List.length_append, List.map_cons, List.sum_cons] at h2 ⊢
    omega

/-- What is known of x. -/
def Knows (W : List Nat) (F : List Bool) (ps : List (Nat × Nat)) (x : Nat) : Prop := isObj W F x = true → ∃ j, look ps (x / 2) = some j
theorem look_append {ps : List (Nat × Nat)} {i j : Nat} (h : look ps i = some j) (q : List (Nat × Nat)) : look (ps ++ q) i = some j := by
  unfold look at h ⊢
  rw [List.find?_append]
  rcases e : ps.find? (fun p => p.1 == i) with _ | p
  · rw [e] at h; cases h
  · rw [e] at h ⊢
    exact h
theorem Knows.more {W : List Nat} {F : List Bool} {ps : List (Nat × Nat)} {x : Nat} (h : Knows W F ps x) (q : List (Nat × Nat)) : Knows W F (ps ++ q) x := fun ho => by
  obtain ⟨j, hj⟩ := h ho
  exact ⟨j, look_append hj q⟩
theorem trW_more {W : List Nat} {F : List Bool} {ps : List (Nat × Nat)} {x : Nat} (h : Knows W F ps x) (q : List (Nat × Nat)) : trW W F (ps ++ q) x = trW W F ps x := by
  unfold trW
  split
  · rename_i ho
    obtain ⟨j, hj⟩ := h ho
    rw [hj, look_append hj q]
  · rfl

/-- What a move does. -/
theorem mv_form (W : List Nat) (F : List Bool) (s : St) (x : Nat) : ∃ e, (mv W F s x).1 = (s.1 ++ e, s.2 ++ raws W e) ∧ Knows W F (s.1 ++ e) x ∧ (mv W F s x).2 = trW W F (s.1 ++ e) x := by
  unfold mv
  split
  · rename_i ho
    split
    · rename_i j hj
      refine ⟨[], by simp [raws], fun _ => ⟨j, by simpa using hj⟩, ?_⟩
      unfold trW
      rw [if_pos ho, List.append_nil, hj]
      rfl
    · rename_i hj
      have hl : look (s.1 ++ [(x / 2, s.2.length)]) (x / 2) = some s.2.length := by
        have h1 := look_none.1 hj
        unfold look
        rw [List.find?_append]
        have h2 : s.1.find? (fun p => p.1 == x / 2) = none := by
          rw [List.find?_eq_none]
          intro p hp
          simpa using h1 p hp
        rw [h2]
        simp
      refine ⟨[(x / 2, s.2.length)], by simp [raws], fun _ => ⟨_, hl⟩, ?_⟩
      unfold trW
      rw [if_pos ho, hl]
      rfl
  · rename_i ho
    refine ⟨[], by simp [raws], fun h => absurd h ho, ?_⟩
    unfold trW
    rw [if_neg ho]

/-- The roots are moved. -/
theorem mvs_form (W : List Nat) (F : List Bool) (s : St) : ∀ xs : List Nat, ∃ e, (mvs W F s xs).1 = (s.1 ++ e, s.2 ++ raws W e) ∧ (∀ x ∈ xs, Knows W F (s.1 ++ e) x) ∧ (mvs W F s xs).2 = xs.map (trW W F (s.1 ++ e)) := by
  intro xs
  induction xs using snoc_ind with
  | h0 => exact ⟨[], by simp [mvs, raws], by simp, rfl⟩
  | h1 xs x ih =>
    obtain ⟨e, h1, h2, h3⟩ := ih
    rw [mvs_snoc]
    obtain ⟨e', g1, g2, g3⟩ := mv_form W F (mvs W F s xs).1 x
    rw [h1] at g1 g2 g3 ⊢
    simp only at g1 g2 g3
    refine ⟨e ++ e', ?_, ?_, ?_⟩
    · show (mv W F _ x).1 = _
      rw [g1, raws_append, List.append_assoc, List.append_assoc]
    · intro y hy
      rw [← List.append_assoc]
      rcases List.mem_append.1 hy with hy | hy
      · exact (h2 y hy).more e'
      · simp at hy
        subst hy
        exact g2
    · simp only
      rw [h3, g3, List.map_append, ← List.append_assoc]
      congr 1
      apply List.map_congr_left
      intro y hy
      exact (trW_more (h2 y hy) e').symm

/-- How far a collection is: the first m objects are turned, of the next one i parts. -/
structure Way (W : List Nat) (F : List Bool) (f : List (Nat × Nat)) (s : St) (m i : Nat) (p : Nat × Nat) : Prop where
  get : s.1[m]? = some p
  words : s.2 = tobjs W F f (s.1.take m) ++ (W.getD p.1 0 :: (((rst W p.1).take i).map (trW W F f) ++ (rst W p.1).drop i) ++ raws W (s.1.drop (m + 1)))
  know : ∀ x ∈ (rst W p.1).take i, Knows W F s.1 x
/-- Every object so far is one. -/
abbrev Obs (W : List Nat) (F : List Bool) (s : St) : Prop := ∀ p ∈ s.1, Ob W F p.1

theorem Way.part {W : List Nat} {F : List Bool} {f : List (Nat × Nat)} {s : St} {m i o : Nat} {p : Nat × Nat} (h : Way W F f s m i p) (ho : Obs W F s) (hm : o = tot W (s.1.take m)) (hi : i < (rst W p.1).length) : s.2.getD (o + 1 + i) 0 = (rst W p.1).getD i 0 := by
  have hl : (tobjs W F f (s.1.take m)).length = o := by rw [tobjs_length (F := F) fun q hq => ho q (List.mem_of_mem_take hq), hm]
  have hti : (((rst W p.1).take i).map (trW W F f)).length = i := by rw [List.length_map, List.length_take]; omega
  rw [h.words, show o + 1 + i = (tobjs W F f (s.1.take m)).length + (1 + i) by omega, getD_right]
  rw [List.getD_eq_getElem?_getD, show 1 + i = i + 1 by omega, List.cons_append, List.getElem?_cons_succ, List.getElem?_append_left (by rw [List.length_append, hti, List.length_drop]; omega)]
  rw [List.getElem?_append_right (by omega), hti, Nat.sub_self, List.getElem?_drop, Nat.add_zero, ← List.getD_eq_getElem?_getD]

theorem set_mid (A B : List Nat) (x y : Nat) (n : Nat) (hn : n = A.length) : (A ++ x :: B).set n y = A ++ y :: B := by
  subst hn
  rw [List.set_append_right _ _ (Nat.le_refl _), Nat.sub_self, List.set_cons_zero]

/-- One part more. -/
theorem Way.step {W : List Nat} {F : List Bool} {f : List (Nat × Nat)} {s : St} {m i o : Nat} {p : Nat × Nat} (h : Way W F f s m i p) (ho : Obs W F s) (hm : o = tot W (s.1.take m)) (hi : i < (rst W p.1).length) (hf : ∃ q, f = (prt W F o s i).1 ++ q) : Way W F f (prt W F o s i) m (i + 1) p := by
  have hx := h.part ho hm hi
  have hl : (tobjs W F f (s.1.take m)).length = o := by rw [tobjs_length (F := F) fun q hq => ho q (List.mem_of_mem_take hq), hm]
  have hti : (((rst W p.1).take i).map (trW W F f)).length = i := by rw [List.length_map, List.length_take]; omega
  have hml : m < s.1.length := (List.getElem?_eq_some_iff.1 h.get).1
  obtain ⟨q, hq⟩ := hf
  unfold prt at hq ⊢
  rw [hx] at hq ⊢
  obtain ⟨e, h1, h2, h3⟩ := mv_form W F s ((rst W p.1).getD i 0)
  rw [h1] at hq ⊢
  rw [h3]
  simp only at hq ⊢
  have htr : trW W F (s.1 ++ e) ((rst W p.1).getD i 0) = trW W F f ((rst W p.1).getD i 0) := by rw [hq, trW_more h2]
  rw [htr]
  have hkn : ∀ x ∈ (rst W p.1).take (i + 1), Knows W F (s.1 ++ e) x := by
    intro x hx
    rw [List.take_succ_eq_append_getElem hi, List.mem_append, List.mem_singleton] at hx
    rcases hx with hx | hx
    · exact (h.know x hx).more e
    · have h4 : (rst W p.1).getD i 0 = x := by rw [hx, List.getD_eq_getElem?_getD, List.getElem?_eq_getElem hi]; rfl
      rw [← h4]
      exact h2
  refine ⟨by rw [List.getElem?_append_left hml]; exact h.get, ?_, hkn⟩
  simp only
  rw [List.take_append_of_le_length (Nat.le_of_lt hml), List.drop_append_of_le_length hml]
  have hgi : (rst W p.1).getD i 0 = (rst W p.1)[i] := by rw [List.getD_eq_getElem?_getD, List.getElem?_eq_getElem hi]; rfl
  have hd : (rst W p.1).drop i = (rst W p.1)[i] :: (rst W p.1).drop (i + 1) := List.drop_eq_getElem_cons hi
  have htk : (rst W p.1).take (i + 1) = (rst W p.1).take i ++ [(rst W p.1)[i]] := List.take_succ_eq_append_getElem hi
  have e1 : s.2 ++ raws W e = (tobjs W F f (s.1.take m) ++ W.getD p.1 0 :: ((rst W p.1).take i).map (trW W F f)) ++ (rst W p.1)[i] :: ((rst W p.1).drop (i + 1) ++ (raws W (s.1.drop (m + 1)) ++ raws W e)) := by
    rw [h.words, hd]
    simp only [List.append_assoc, List.cons_append]
  rw [e1, set_mid _ _ _ _ _ (by rw [List.length_append, List.length_cons, hti, hl]; omega), hgi, htk]
  simp only [raws, List.flatMap_append, List.map_append, List.map_cons, List.map_nil, List.append_assoc, List.cons_append, List.nil_append]

theorem raws_head {W : List Nat} {F : List Bool} {s : St} {m : Nat} {p : Nat × Nat} (h : s.1[m]? = some p) (ho : Obs W F s) : raws W (s.1.drop m) = W.getD p.1 0 :: rst W p.1 ++ raws W (s.1.drop (m + 1)) := by
  obtain ⟨hm, e⟩ := List.getElem?_eq_some_iff.1 h
  rw [List.drop_eq_getElem_cons hm, e]
  unfold raws
  rw [List.flatMap_cons, obj_head (ho p (List.mem_of_getElem? h))]
  rfl

theorem prt_grew (W : List Nat) (F : List Bool) (o : Nat) (s : St) (i : Nat) : ∃ q, (prt W F o s i).1 = s.1 ++ q := by
  obtain ⟨e, h1, _⟩ := mv_form W F s (s.2.getD (o + 1 + i) 0)
  exact ⟨e, by unfold prt; rw [h1]⟩
theorem prts_grew (W : List Nat) (F : List Bool) (o : Nat) (s : St) : ∀ n, ∃ q, (prts W F o s n).1 = s.1 ++ q
  | 0 => ⟨[], by simp [prts]⟩
  | n + 1 => by
    obtain ⟨q, h⟩ := prts_grew W F o s n
    obtain ⟨e, h'⟩ := prt_grew W F o (prts W F o s n) n
    exact ⟨q ++ e, by rw [prts_succ, h', h, List.append_assoc]⟩
theorem stp_grew (W : List Nat) (F : List Bool) (o : Nat) (s : St) : ∃ q, (stp W F o s).1 = s.1 ++ q := by
  unfold stp
  split
  · exact ⟨[], by simp⟩
  · exact prts_grew W F o s _
theorem goP_grew (W : List Nat) (F : List Bool) : ∀ n o s, ∃ q, (goP W F n o s).1 = s.1 ++ q
  | 0, _, s => ⟨[], by simp [goP]⟩
  | n + 1, o, s => by
    unfold goP
    split
    · obtain ⟨q, h⟩ := stp_grew W F o s
      obtain ⟨e, h'⟩ := goP_grew W F n (o + szX (s.2.getD o 0)) (stp W F o s)
      exact ⟨q ++ e, by rw [h', h, List.append_assoc]⟩
    · exact ⟨[], by simp⟩

theorem inv_mvs {W : List Nat} {F : List Bool} {s : St} (h : Inv W F s) (hg : Good W F) (xs : List Nat) : Inv W F (mvs W F s xs).1 := by
  induction xs using snoc_ind with
  | h0 => exact h
  | h1 xs x ih => rw [mvs_snoc]; exact inv_mv ih hg x

/-- All parts of one object. -/
theorem Way.parts {W : List Nat} {F : List Bool} {f : List (Nat × Nat)} {s : St} {m o : Nat} {p : Nat × Nat} (h : Way W F f s m 0 p) (hv : Inv W F s) (hg : Good W F) (ha : AtP W s m o) (hp : OAt W F s m o p) : ∀ n, n ≤ (rst W p.1).length → (∃ q, f = (prts W F o s n).1 ++ q) → Way W F f (prts W F o s n) m n p
  | 0, _, _ => h
  | n + 1, hn, hf => by
    have hob := hv.ob p (List.mem_of_getElem? hp.get)
    have hpi := PI.all hv ha hp hg n (by have := rst_length hob; omega)
    have hw := Way.parts h hv hg ha hp n (by omega) (by
      obtain ⟨q, hq⟩ := hf
      obtain ⟨e, he⟩ := prt_grew W F o (prts W F o s n) n
      rw [prts_succ, he, List.append_assoc] at hq
      exact ⟨_, hq⟩)
    rw [prts_succ]
    exact hw.step hpi.inv.ob (ha.grew hpi.grew).at_ (by omega) (by rw [← prts_succ]; exact hf)

/-- Before object m: all is turned ahead of it. -/
structure Til (W : List Nat) (F : List Bool) (f : List (Nat × Nat)) (s : St) (m : Nat) : Prop where
  words : s.2 = tobjs W F f (s.1.take m) ++ raws W (s.1.drop m)
  know : ∀ p ∈ s.1.take m, W.getD p.1 0 % 256 ≠ 3 → ∀ x ∈ rst W p.1, Knows W F s.1 x

theorem Til.way {W : List Nat} {F : List Bool} {f : List (Nat × Nat)} {s : St} {m : Nat} {p : Nat × Nat} (h : Til W F f s m) (hp : s.1[m]? = some p) (ho : Obs W F s) : Way W F f s m 0 p :=
  ⟨hp, by rw [h.words, raws_head hp ho]; simp, by simp⟩
theorem tobjs_succ {W : List Nat} {F : List Bool} {f : List (Nat × Nat)} {ps : List (Nat × Nat)} {m : Nat} {p : Nat × Nat} (h : ps[m]? = some p) : tobjs W F f (ps.take (m + 1)) = tobjs W F f (ps.take m) ++ tobj W F f p.1 := by
  obtain ⟨h1, h2⟩ := List.getElem?_eq_some_iff.1 h
  rw [List.take_succ_eq_append_getElem h1, h2]
  simp [tobjs]
/-- One object more. -/
theorem Til.stp {W : List Nat} {F : List Bool} {f : List (Nat × Nat)} {s : St} {m o : Nat} {p : Nat × Nat} (h : Til W F f s m) (hv : Inv W F s) (hg : Good W F) (ha : AtP W s m o) (hp : OAt W F s m o p) (hf : ∃ q, f = (stp W F o s).1 ++ q) : Til W F f (stp W F o s) (m + 1) ∧ Inv W F (stp W F o s) ∧ Grew s (stp W F o s) ∧ AtP W (stp W F o s) (m + 1) (o + szX (W.getD p.1 0)) := by
  have hob := hv.ob p (List.mem_of_getElem? hp.get)
  have hrl := rst_length hob
  by_cases h3 : W.getD p.1 0 % 256 = 3
  · have e : Go.Proofs.Ytkdhajiplonloaa.stp W F o s = s := by
      unfold Go.Proofs.Ytkdhajiplonloaa.stp
      rw [hp.head, if_pos h3]
    rw [e]
    refine ⟨⟨?_, ?_⟩, hv, Grew.refl _, hp.next⟩
    · rw [tobjs_succ hp.get, h.words, raws_head hp.get hv.ob, List.append_assoc]
      congr 1
      unfold tobj
      rw [if_pos h3, obj_head hob]
      rfl
    · intro q hq
      obtain ⟨e1, e2⟩ := List.getElem?_eq_some_iff.1 hp.get
      rw [List.take_succ_eq_append_getElem e1, e2, List.mem_append, List.mem_singleton] at hq
      rcases hq with hq | hq
      · exact h.know q hq
      · rw [hq]; exact fun hk => absurd h3 hk
  · have e : Go.Proofs.Ytkdhajiplonloaa.stp W F o s = prts W F o s (rst W p.1).length := by
      unfold Go.Proofs.Ytkdhajiplonloaa.stp
      rw [hp.head, if_neg h3, hrl]
    rw [e] at hf ⊢
    have hw := Way.parts (h.way hp.get hv.ob) hv hg ha hp _ (Nat.le_refl _) hf
    have hpi := PI.all hv ha hp hg (rst W p.1).length (by omega)
    refine ⟨⟨?_, ?_⟩, hpi.inv, hpi.grew, hp.next.grew hpi.grew⟩
    · rw [tobjs_succ hw.get, hw.words, List.take_length, List.drop_length, List.append_nil]
      unfold tobj
      rw [if_neg h3, List.append_assoc]
    · intro q hq hk x hx
      obtain ⟨e1, e2⟩ := List.getElem?_eq_some_iff.1 hw.get
      rw [List.take_succ_eq_append_getElem e1, e2, List.mem_append, List.mem_singleton] at hq
      rcases hq with hq | hq
      · obtain ⟨z, hz⟩ := hpi.grew.pre
        have hml := (List.getElem?_eq_some_iff.1 hp.get).1
        rw [hz, List.take_append_of_le_length (Nat.le_of_lt hml)] at hq
        rw [hz]
        exact (h.know q hq hk x hx).more z
      · rw [hq] at hx
        exact hw.know x (by rw [List.take_length]; exact hx)

/-- What a collection leaves. -/
theorem goP_form {W : List Nat} {F : List Bool} (hg : Good W F) (f : List (Nat × Nat)) : ∀ (n m o : Nat) (s : St), Inv W F s → AtP W s m o → Til W F f s m → W.length < n + o → (∃ q, f = (goP W F n o s).1 ++ q) → (goP W F n o s).2 = tobjs W F f (goP W F n o s).1 ∧ Inv W F (goP W F n o s) ∧ ∀ p ∈ (goP W F n o s).1, W.getD p.1 0 % 256 ≠ 3 → ∀ x ∈ rst W p.1, Knows W F (goP W F n o s).1 x
  | 0, m, o, s, hv, ha, ht, hn, hf => by
    have h1 := hv.tot_le
    have h2 := ha.at_
    have h3 := tot_mono (W := W) (ps := s.1) ha.le
    rw [List.take_length] at h3
    omega
  | n + 1, m, o, s, hv, ha, ht, hn, hf => by
    unfold goP at hf ⊢
    by_cases hlt : o < s.2.length
    · rw [if_pos hlt] at hf ⊢
      obtain ⟨p, hp⟩ := ha.obj hv hlt
      rw [hp.head] at hf ⊢
      have hpos := szX_pos (W.getD p.1 0)
      obtain ⟨t1, t2, t3, t4⟩ := ht.stp hv hg ha hp (by
        obtain ⟨q, hq⟩ := hf
        obtain ⟨e, he⟩ := goP_grew W F n (o + szX (W.getD p.1 0)) (stp W F o s)
        rw [he, List.append_assoc] at hq
        exact ⟨_, hq⟩)
      exact goP_form hg f n (m + 1) _ _ t2 t4 t1 (by omega) hf
    · rw [if_neg hlt] at hf ⊢
      have hm : s.1.length ≤ m := by
        rcases Nat.lt_or_ge m s.1.length with h | h
        · have h1 := tot_take (W := W) (List.getElem?_eq_getElem h)
          have h2 := tot_mono (W := W) (ps := s.1) (show m + 1 ≤ s.1.length by omega)
          rw [List.take_length] at h2
          have h3 := szX_pos (W.getD s.1[m].1 0)
          have h4 := hv.len
          have h5 := ha.at_
          omega
        · exact h
      obtain ⟨ht1, ht2⟩ := ht
      rw [List.take_of_length_le hm] at ht1 ht2
      rw [List.drop_of_length_le hm] at ht1
      refine ⟨?_, hv, ht2⟩
      rw [ht1]
      simp [raws]

/-- The new words: the objects that are reached, turned; the roots, turned. -/
theorem col_form {W : List Nat} {F : List Bool} (hg : Good W F) (xs : List Nat) : (colS W F xs).2 = tobjs W F (colS W F xs).1 (colS W F xs).1 ∧ Inv W F (colS W F xs) ∧ colR W F xs = xs.map (trW W F (colS W F xs).1) ∧ (∀ x ∈ xs, Knows W F (colS W F xs).1 x) ∧ ∀ p ∈ (colS W F xs).1, W.getD p.1 0 % 256 ≠ 3 → ∀ x ∈ rst W p.1, Knows W F (colS W F xs).1 x := by
  obtain ⟨e, h1, h2, h3⟩ := mvs_form W F ([], []) xs
  have hv := inv_mvs (Inv.nil W F) hg xs
  obtain ⟨q, hq⟩ := goP_grew W F (W.length + 1) 0 (mvs W F ([], []) xs).1
  have ht : Til W F (colS W F xs).1 (mvs W F ([], []) xs).1 0 := by
    refine ⟨?_, by simp⟩
    rw [h1]
    simp [tobjs]
  obtain ⟨g1, g2, g3⟩ := goP_form hg (colS W F xs).1 (W.length + 1) 0 0 _ hv ⟨Nat.zero_le _, rfl⟩ ht (by omega) ⟨[], by simp [colS]⟩
  have hc : (colS W F xs).1 = [] ++ e ++ q := by
    unfold colS
    rw [hq, h1]
  refine ⟨g1, g2, ?_, ?_, g3⟩
  · unfold colR
    rw [h3, hc]
    apply List.map_congr_left
    intro x hx
    exact (trW_more (h2 x hx) q).symm
  · intro x hx
    rw [hc]
    exact (h2 x hx).more q
end Go.Proofs.Ytkdhajiplonloaa
