/- A heap that was collected: it is sound; collected once more it is as it is (plain). -/
/- Collected once more it is as it is (plain). -/
import Derived.Test.YtkdhajiplonloaaHeaS
namespace Go.Proofs.Ytkdhajiplonloaa
open Go.RowKit HeaM

/-- All parts are numbers, or objects. -/
def Sound (W : List Nat) (F : List Bool) : Prop := ∀ i, Ob W F i → W.getD i 0 % 256 ≠ 3 → ∀ x ∈ rst W i, x % 2 = 1 ∨ isObj W F x = true
/-- A heap that is right: objects, one behind the other, whose parts are sound. -/
structure Right (W : List Nat) (F : List Bool) : Prop where
  segs : ∃ l : List (List Nat), (∀ s ∈ l, Seg s) ∧ W = l.flatten ∧ F = marks l
  sound : Sound W F
theorem Right.good {W : List Nat} {F : List Bool} (h : Right W F) (hm : W.length ≤ 10000000) : Good W F := by
  obtain ⟨l, h1, rfl, rfl⟩ := h.segs
  exact good_segs h1 hm

/-- A collection, once it is done. -/
structure Done (W : List Nat) (F : List Bool) (V : List Nat) (ps : List (Nat × Nat)) : Prop where
  good : Good W F
  sound : Sound W F
  inv : Inv W F (ps, V)
  words : V = tobjs W F ps ps
  know : ∀ p ∈ ps, W.getD p.1 0 % 256 ≠ 3 → ∀ x ∈ rst W p.1, Knows W F ps x

section
variable {W : List Nat} {F : List Bool} {V : List Nat} {ps : List (Nat × Nat)}

theorem tobj_seg {i : Nat} (h : Ob W F i) (hw : ∀ x ∈ tobj W F ps i, x < 18446744073709551616) : Seg (tobj W F ps i) := by
  have hh : (tobj W F ps i).getD 0 0 = W.getD i 0 := by
    unfold tobj
    split
    · rw [obj_head h]; rfl
    · rfl
  have hl := tobj_length (f := ps) h
  have hp := szX_pos (W.getD i 0)
  refine ⟨fun e => ?_, by rw [hh, hl], by rw [hh]; exact h.kind, hw⟩
  rw [e, List.length_nil] at hl
  omega
theorem marks_tobjs : ∀ (q : List (Nat × Nat)), (∀ p ∈ q, Ob W F p.1) → mk W q = marks (q.map fun p => tobj W F ps p.1)
  | [], _ => rfl
  | p :: t, h => by
    have h1 := marks_tobjs t fun x hx => h x (List.mem_cons_of_mem _ hx)
    have h2 := tobj_length (f := ps) (h p (List.mem_cons_self ..))
    unfold mk marks at h1 ⊢
    rw [List.flatMap_cons, List.map_cons, List.flatMap_cons, h1]
    congr 1
    unfold mks
    rw [h2]
theorem marks_pos : ∀ {l : List (List Nat)}, (∀ s ∈ l, Seg s) → ∀ i, (marks l)[i]? = some true → ∃ k, k < l.length ∧ i = (l.take k).flatten.length
  | [], _, i, hi => by simp [marks] at hi
  | s :: t, h, i, hi => by
    have hml := mks_length (h s (List.mem_cons_self ..))
    simp only [marks, List.flatMap_cons] at hi
    by_cases hlt : i < s.length
    · rw [List.getElem?_append_left (by omega)] at hi
      have : i = 0 := by
        rcases Nat.eq_zero_or_pos i with h0 | h0
        · exact h0
        · obtain ⟨m, rfl⟩ : ∃ m, i = m + 1 := ⟨i - 1, by omega⟩
          simp only [mks, List.getElem?_cons_succ] at hi
          rw [List.getElem?_replicate] at hi
          split at hi <;> simp at hi
      exact ⟨0, by simp, by simp [this]⟩
    · obtain ⟨m, rfl⟩ : ∃ m, i = s.length + m := ⟨i - s.length, by omega⟩
      rw [List.getElem?_append_right (by omega), hml, Nat.add_sub_cancel_left] at hi
      obtain ⟨k, hk, e⟩ := marks_pos (fun x hx => h x (List.mem_cons_of_mem _ hx)) m hi
      exact ⟨k + 1, by simp; omega, by simp [e]⟩

theorem Done.tot (h : Done W F V ps) : V.length = tot W ps := h.inv.len
theorem Done.le (h : Done W F V ps) : V.length ≤ W.length := by rw [h.tot]; exact h.inv.tot_le
theorem Done.segs (h : Done W F V ps) : ∀ s ∈ ps.map (fun p => tobj W F ps p.1), Seg s := by
  intro s hs
  obtain ⟨p, hp, rfl⟩ := List.mem_map.1 hs
  refine tobj_seg (h.inv.ob p hp) fun x hx => h.inv.words x ?_
  simp only
  rw [h.words]
  exact List.mem_flatMap.2 ⟨p, hp, hx⟩
theorem Done.flat (h : Done W F V ps) : V = (ps.map fun p => tobj W F ps p.1).flatten := by
  conv => lhs; rw [h.words]
  unfold tobjs
  rw [List.flatMap_def]
theorem Done.good1 (h : Done W F V ps) : Good V (Go.Proofs.Ytkdhajiplonloaa.mk W ps) := by
  have h1 := good_segs h.segs (by rw [← h.flat]; exact Nat.le_trans h.le h.good.max)
  rw [← h.flat, ← marks_tobjs ps h.inv.ob] at h1
  exact h1
/-- Where an object stands. -/
theorem Done.at_ (h : Done W F V ps) {p : Nat × Nat} (hp : p ∈ ps) : ∃ m, AtP W (ps, V) m p.2 ∧ OAt W F (ps, V) m p.2 p := by
  obtain ⟨m, hm⟩ := List.getElem?_of_mem hp
  have hl := (List.getElem?_eq_some_iff.1 hm).1
  have hpos := h.inv.pos m p hm
  have ha : AtP W (ps, V) m p.2 := ⟨Nat.le_of_lt hl, hpos⟩
  have ht := tot_take (W := W) hm
  have hz := szX_pos (W.getD p.1 0)
  have hmo := tot_mono (W := W) (ps := ps) (show m + 1 ≤ ps.length by omega)
  rw [List.take_length] at hmo
  have htot := h.tot
  simp only at hpos
  obtain ⟨q, hq⟩ := ha.obj h.inv (show p.2 < V.length by omega)
  have e : q = p := by
    have := hq.get
    simp only at this
    rw [hm] at this
    injection this with this
    exact this.symm
  subst e
  exact ⟨m, ha, hq⟩
theorem Done.ob (h : Done W F V ps) {p : Nat × Nat} (hp : p ∈ ps) : Ob V (Go.Proofs.Ytkdhajiplonloaa.mk W ps) p.2 := by
  obtain ⟨m, ha, hq⟩ := h.at_ hp
  exact h.good1.obs _ (mk_at hq ha)
theorem Done.head (h : Done W F V ps) {p : Nat × Nat} (hp : p ∈ ps) : V.getD p.2 0 = W.getD p.1 0 := h.inv.head p hp
theorem Done.isObj (h : Done W F V ps) {p : Nat × Nat} (hp : p ∈ ps) : isObj V (Go.Proofs.Ytkdhajiplonloaa.mk W ps) (2 * p.2) = true := by
  have ho := h.ob hp
  have h1 := ho.fits
  have h2 := szX_pos (V.getD p.2 0)
  exact isObj_iff.2 ⟨by omega, by omega, by rw [show 2 * p.2 / 2 = p.2 by omega]; exact ho.mark⟩
/-- The parts of an object. -/
theorem Done.rst (h : Done W F V ps) {p : Nat × Nat} (hp : p ∈ ps) : rst V p.2 = (tobj W F ps p.1).drop 1 := by
  obtain ⟨m, hm⟩ := List.getElem?_of_mem hp
  obtain ⟨hl, e⟩ := List.getElem?_eq_some_iff.1 hm
  have hpos : p.2 = Go.Proofs.Ytkdhajiplonloaa.tot W (ps.take m) := h.inv.pos m p hm
  have hob := h.inv.ob p hp
  have hsp : V = tobjs W F ps (ps.take m) ++ (tobj W F ps p.1 ++ tobjs W F ps (ps.drop (m + 1))) := by
    conv => lhs; rw [h.words]
    conv => lhs; rw [← List.take_append_drop m ps]
    rw [List.take_append_drop]
    unfold tobjs
    conv => lhs; arg 2; rw [← List.take_append_drop m ps, List.drop_eq_getElem_cons hl, e]
    rw [List.flatMap_append, List.flatMap_cons]
  have hlen : (tobjs W F ps (ps.take m)).length = p.2 := by rw [tobjs_length (F := F) fun q hq => h.inv.ob q (List.mem_of_mem_take hq), hpos]
  have htl := tobj_length (f := ps) hob
  have hz := szX_pos (W.getD p.1 0)
  unfold Go.Proofs.Ytkdhajiplonloaa.rst
  rw [h.head hp, ← htl]
  conv => lhs; arg 2; rw [hsp]
  rw [← hlen, List.drop_append, List.drop_of_length_le (by omega), List.nil_append, Nat.add_sub_cancel_left, List.drop_append_of_le_length (by omega), List.take_append_of_le_length (by rw [List.length_drop]; omega), List.take_of_length_le (by rw [List.length_drop]; omega)]
theorem Done.parts (h : Done W F V ps) {p : Nat × Nat} (hp : p ∈ ps) (hk : W.getD p.1 0 % 256 ≠ 3) : Go.Proofs.Ytkdhajiplonloaa.rst V p.2 = (Go.Proofs.Ytkdhajiplonloaa.rst W p.1).map (trW W F ps) := by
  rw [h.rst hp]
  unfold tobj
  rw [if_neg hk]
  rfl
/-- A known object's new place. -/
theorem Done.tr (h : Done W F V ps) {x : Nat} (hx : x % 2 = 1 ∨ Go.Proofs.Ytkdhajiplonloaa.isObj W F x = true) (hk : Knows W F ps x) : trW W F ps x % 2 = 1 ∨ Go.Proofs.Ytkdhajiplonloaa.isObj V (Go.Proofs.Ytkdhajiplonloaa.mk W ps) (trW W F ps x) = true := by
  rcases hx with hx | hx
  · left
    unfold trW
    rw [isObj_no (.inl hx)]
    simpa using hx
  · right
    obtain ⟨j, hj⟩ := hk hx
    unfold trW
    rw [if_pos hx, hj]
    exact h.isObj (look_some hj)
theorem Done.sound1 (h : Done W F V ps) : Sound V (Go.Proofs.Ytkdhajiplonloaa.mk W ps) := by
  intro i hi hk x hx
  have hm := hi.mark
  rw [marks_tobjs (ps := ps) ps h.inv.ob] at hm
  obtain ⟨k, hk1, hk2⟩ := marks_pos h.segs i hm
  rw [List.length_map] at hk1
  have hp : ps[k] ∈ ps := List.getElem_mem hk1
  have hpl : ps[k].2 = i := by
    have h1 := h.inv.pos k ps[k] (List.getElem?_eq_getElem hk1)
    simp only at h1
    have h2 := tobjs_length (F := F) (f := ps) (W := W) (ps := ps.take k) fun q hq => h.inv.ob q (List.mem_of_mem_take hq)
    rw [h1, hk2, ← h2]
    unfold tobjs
    rw [List.flatMap_def, List.map_take]
  rw [← hpl] at hk hx
  rw [h.head hp] at hk
  rw [h.parts hp hk] at hx
  obtain ⟨y, hy, rfl⟩ := List.mem_map.1 hx
  exact h.tr (h.sound _ (h.inv.ob _ hp) hk y hy) (h.know _ hp hk y hy)
theorem Done.right (h : Done W F V ps) : Right V (Go.Proofs.Ytkdhajiplonloaa.mk W ps) := ⟨⟨_, h.segs, h.flat, marks_tobjs ps h.inv.ob⟩, h.sound1⟩

-- once more
def dup (ps : List (Nat × Nat)) : List (Nat × Nat) := ps.map fun p => (p.2, p.2)
theorem look_dup {q : List (Nat × Nat)} {j : Nat} (h : ∃ p ∈ q, p.2 = j) : look (dup q) j = some j := by
  unfold look dup
  rcases e : (q.map fun p => (p.2, p.2)).find? (fun p => p.1 == j) with _ | p
  · rw [List.find?_eq_none] at e
    obtain ⟨p, hp, rfl⟩ := h
    have := e (p.2, p.2) (List.mem_map_of_mem hp)
    simp at this
  · have h1 := List.find?_some e
    obtain ⟨q', _, rfl⟩ := List.mem_map.1 (List.mem_of_find?_eq_some e)
    rw [e]
    simpa using h1
/-- How the second run goes beside the first. -/
structure Sim (W : List Nat) (F : List Bool) (V : List Nat) (ps : List (Nat × Nat)) (s s' : St) : Prop where
  inv : Inv W F s
  pre : ∃ q, ps = s.1 ++ q
  fst : s'.1 = dup s.1
  snd : s'.2 = V.take s.2.length
theorem Sim.le {s s' : St} (h : Sim W F V ps s s') (hd : Done W F V ps) : s.2.length ≤ V.length := by
  obtain ⟨q, hq⟩ := h.pre
  rw [h.inv.len, hd.tot, hq]
  simp only [Go.Proofs.Ytkdhajiplonloaa.tot, List.map_append, List.sum_append]
  omega
theorem Inv.end_ {s : St} (h : Inv W F s) {p : Nat × Nat} (hp : p ∈ s.1) : p.2 < s.2.length := by
  obtain ⟨m, hm⟩ := List.getElem?_of_mem hp
  have hl := (List.getElem?_eq_some_iff.1 hm).1
  have ht := tot_take (W := W) hm
  have hz := szX_pos (W.getD p.1 0)
  have hmo := tot_mono (W := W) (ps := s.1) (show m + 1 ≤ s.1.length by omega)
  rw [List.take_length] at hmo
  rw [h.len, h.pos m p hm]
  omega
theorem Sim.mv {s s' : St} (h : Sim W F V ps s s') (hd : Done W F V ps) {y : Nat} (hy : y % 2 = 1 ∨ Go.Proofs.Ytkdhajiplonloaa.isObj W F y = true) (hp : ∃ q, ps = (mv W F s y).1.1 ++ q) :
    Sim W F V ps (Go.Proofs.Ytkdhajiplonloaa.mv W F s y).1 (Go.Proofs.Ytkdhajiplonloaa.mv V (Go.Proofs.Ytkdhajiplonloaa.mk W ps) s' (trW W F ps y)).1 ∧ (Go.Proofs.Ytkdhajiplonloaa.mv V (Go.Proofs.Ytkdhajiplonloaa.mk W ps) s' (trW W F ps y)).2 = trW W F ps y := by
  have hin := inv_mv h.inv hd.good y
  rcases hy with hy | hy
  · have h1 := isObj_no (W := W) (F := F) (.inl hy)
    have h2 : trW W F ps y = y := by unfold trW; rw [h1]; rfl
    have h3 := isObj_no (W := V) (F := Go.Proofs.Ytkdhajiplonloaa.mk W ps) (.inl hy)
    rw [h2, mv_no h1, mv_no h3]
    exact ⟨h, rfl⟩
  · obtain ⟨e1, e2, e3⟩ := isObj_iff.1 hy
    have hob := hd.good.obs _ e3
    have hyy : y = 2 * (y / 2) := by omega
    rcases hl : look s.1 (y / 2) with _ | j
    · have hm := mv_new hob hl
      rw [← hyy] at hm
      rw [hm] at hp hin ⊢
      simp only at hp hin ⊢
      obtain ⟨q, hq⟩ := hp
      have hmem : (y / 2, s.2.length) ∈ ps := by rw [hq]; simp
      have hlk : look ps (y / 2) = some s.2.length := by
        rw [hq]
        refine look_append ?_ q
        unfold look
        rw [List.find?_append]
        have h2 : s.1.find? (fun p => p.1 == y / 2) = none := by
          rw [List.find?_eq_none]
          intro p hp
          simpa using look_none.1 hl p hp
        rw [h2]
        simp
      have htr : trW W F ps y = 2 * s.2.length := by unfold trW; rw [if_pos hy, hlk]; rfl
      have hob2 := hd.ob hmem
      simp only at hob2
      have hno : look s'.1 s.2.length = none := by
        rw [look_none, h.fst]
        intro p hp e
        obtain ⟨p', hp', rfl⟩ := List.mem_map.1 hp
        have := h.inv.end_ hp'
        simp only at e
        omega
      have hle := h.le hd
      have hsl : s'.2.length = s.2.length := by rw [h.snd, List.length_take]; omega
      rw [htr, mv_new hob2 hno]
      refine ⟨⟨hin, ⟨q, hq⟩, ?_, ?_⟩, ?_⟩
      · rw [h.fst, hsl]
        simp [dup]
      · simp only
        rw [h.snd, List.length_append, obj_length hob]
        unfold obj
        have hhd := hd.head hmem
        simp only at hhd
        rw [hhd, List.take_add]
      · rw [hsl]
    · have hm := mv_old hob hl
      rw [← hyy] at hm
      rw [hm] at hp hin ⊢
      obtain ⟨q, hq⟩ := h.pre
      have hlk : look ps (y / 2) = some j := by rw [hq]; exact look_append hl q
      have htr : trW W F ps y = 2 * j := by unfold trW; rw [if_pos hy, hlk]; rfl
      have hob2 := hd.ob (look_some hlk)
      simp only at hob2
      have hl2 : look s'.1 j = some j := by rw [h.fst]; exact look_dup ⟨_, look_some hl, rfl⟩
      rw [htr, mv_old hob2 hl2]
      exact ⟨h, rfl⟩
end
end Go.Proofs.Ytkdhajiplonloaa
namespace Go.Proofs.Ytkdhajiplonloaa
open Go.RowKit HeaM

section
variable {W : List Nat} {F : List Bool} {V : List Nat} {ps : List (Nat × Nat)}

theorem Sim.mvs (hd : Done W F V ps) : ∀ (ys : List Nat) (s s' : St), Sim W F V ps s s' → (∀ y ∈ ys, y % 2 = 1 ∨ isObj W F y = true) → (∃ q, ps = (Go.Proofs.Ytkdhajiplonloaa.mvs W F s ys).1.1 ++ q) →
    Sim W F V ps (Go.Proofs.Ytkdhajiplonloaa.mvs W F s ys).1 (Go.Proofs.Ytkdhajiplonloaa.mvs V (Go.Proofs.Ytkdhajiplonloaa.mk W ps) s' (ys.map (trW W F ps))).1 ∧ (Go.Proofs.Ytkdhajiplonloaa.mvs V (Go.Proofs.Ytkdhajiplonloaa.mk W ps) s' (ys.map (trW W F ps))).2 = ys.map (trW W F ps) := by
  intro ys
  induction ys using snoc_ind with
  | h0 => intro s s' h _ _; exact ⟨h, rfl⟩
  | h1 ys y ih =>
    intro s s' h hy hp
    rw [mvs_snoc] at hp
    simp only at hp
    obtain ⟨e, he, _⟩ := mv_form W F (Go.Proofs.Ytkdhajiplonloaa.mvs W F s ys).1 y
    obtain ⟨i1, i2⟩ := ih s s' h (fun z hz => hy z (List.mem_append_left _ hz)) (by
      obtain ⟨q, hq⟩ := hp
      rw [he, List.append_assoc] at hq
      exact ⟨_, hq⟩)
    obtain ⟨j1, j2⟩ := i1.mv hd (hy y (by simp)) hp
    rw [List.map_append, List.map_cons, List.map_nil, mvs_snoc, mvs_snoc]
    exact ⟨j1, by simp only; rw [i2, j2]⟩

theorem take_set_same (V : List Nat) (n j : Nat) (h : j < V.length) : (V.take n).set j (V.getD j 0) = V.take n := by
  apply List.ext_getElem?
  intro k
  rw [List.getElem?_set]
  split
  · rename_i e
    subst e
    rw [List.length_take]
    split
    · rename_i hl
      rw [List.getElem?_take, if_pos (by omega), List.getD_eq_getElem?_getD, List.getElem?_eq_getElem h]
      rfl
    · rename_i hl
      symm
      rw [List.getElem?_eq_none_iff, List.length_take]
      omega
  · rfl

theorem Sim.prt (hd : Done W F V ps) {s s' : St} {m i o : Nat} {p : Nat × Nat} (h : Sim W F V ps s s') (hw : Way W F ps s m i p) (hm : o = tot W (s.1.take m)) (hk : W.getD p.1 0 % 256 ≠ 3) (hi : i < (rst W p.1).length) (hp : ∃ q, ps = (Go.Proofs.Ytkdhajiplonloaa.prt W F o s i).1 ++ q) (hin : Inv W F (Go.Proofs.Ytkdhajiplonloaa.prt W F o s i)) :
    Sim W F V ps (Go.Proofs.Ytkdhajiplonloaa.prt W F o s i) (Go.Proofs.Ytkdhajiplonloaa.prt V (Go.Proofs.Ytkdhajiplonloaa.mk W ps) o s' i) := by
  have hob := h.inv.ob p (List.mem_of_getElem? hw.get)
  have hml : m < s.1.length := (List.getElem?_eq_some_iff.1 hw.get).1
  have hx := hw.part h.inv.ob hm hi
  have hrl := rst_length hob
  have hpp : p ∈ ps := by
    obtain ⟨q, hq⟩ := h.pre
    rw [hq]
    exact List.mem_append_left _ (List.mem_of_getElem? hw.get)
  have hpo : p.2 = o := by rw [h.inv.pos m p hw.get, hm]
  have hrs := hd.parts hpp hk
  have hol : o + 1 + i < s.2.length := by
    have ht := tot_take (W := W) hw.get
    have hmo := tot_mono (W := W) (ps := s.1) (show m + 1 ≤ s.1.length by omega)
    rw [List.take_length] at hmo
    rw [h.inv.len]
    omega
  have hle := h.le hd
  have hmem : (rst W p.1).getD i 0 ∈ rst W p.1 := by
    rw [List.getD_eq_getElem?_getD, List.getElem?_eq_getElem hi]
    exact List.getElem_mem hi
  have hV : V.getD (o + 1 + i) 0 = trW W F ps ((rst W p.1).getD i 0) := by
    have h1 : (rst V p.2).getD i 0 = V.getD (o + 1 + i) 0 := by
      unfold rst
      rw [hd.head hpp, hpo]
      rw [List.getD_eq_getElem?_getD, List.getElem?_take, if_pos (by omega), List.getElem?_drop, ← List.getD_eq_getElem?_getD]
    rw [← h1, hrs, List.getD_eq_getElem?_getD, List.getElem?_map, List.getD_eq_getElem?_getD, List.getElem?_eq_getElem hi]
    rfl
  have hx' : s'.2.getD (o + 1 + i) 0 = trW W F ps ((rst W p.1).getD i 0) := by
    rw [h.snd, List.getD_eq_getElem?_getD, List.getElem?_take, if_pos hol, ← List.getD_eq_getElem?_getD, hV]
  unfold Go.Proofs.Ytkdhajiplonloaa.prt at hp hin ⊢
  rw [hx] at hp hin ⊢
  rw [hx']
  simp only at hp
  obtain ⟨j1, j2⟩ := h.mv hd (hd.sound _ hob hk _ hmem) hp
  refine ⟨hin, hp, j1.fst, ?_⟩
  simp only
  rw [List.length_set, j1.snd, j2, ← hV, take_set_same V _ _ (by omega)]

theorem Sim.prts (hd : Done W F V ps) {s s' : St} {m o : Nat} {p : Nat × Nat} (h : Sim W F V ps s s') (hw : Way W F ps s m 0 p) (ha : AtP W s m o) (hp : OAt W F s m o p) (hk : W.getD p.1 0 % 256 ≠ 3) : ∀ n, n ≤ (rst W p.1).length → (∃ q, ps = (Go.Proofs.Ytkdhajiplonloaa.prts W F o s n).1 ++ q) →
    Sim W F V ps (Go.Proofs.Ytkdhajiplonloaa.prts W F o s n) (Go.Proofs.Ytkdhajiplonloaa.prts V (Go.Proofs.Ytkdhajiplonloaa.mk W ps) o s' n)
  | 0, _, _ => h
  | n + 1, hn, hf => by
    have hob := h.inv.ob p (List.mem_of_getElem? hp.get)
    have hrl := rst_length hob
    have hf' : ∃ q, ps = (Go.Proofs.Ytkdhajiplonloaa.prts W F o s n).1 ++ q := by
      obtain ⟨q, hq⟩ := hf
      obtain ⟨e, he⟩ := prt_grew W F o (Go.Proofs.Ytkdhajiplonloaa.prts W F o s n) n
      rw [prts_succ, he, List.append_assoc] at hq
      exact ⟨_, hq⟩
    have hs := Sim.prts hd h hw ha hp hk n (by omega) hf'
    have hpi := PI.all h.inv ha hp hd.good n (by omega)
    have hpi2 := PI.all h.inv ha hp hd.good (n + 1) (by omega)
    have hw2 := Way.parts hw h.inv hd.good ha hp n (by omega) hf'
    rw [prts_succ] at hf hpi2 ⊢
    rw [prts_succ]
    exact hs.prt hd hw2 (ha.grew hpi.grew).at_ hk (by omega) hf hpi2.inv

theorem Sim.goP (hd : Done W F V ps) : ∀ (n n' m o : Nat) (s s' : St), Sim W F V ps s s' → AtP W s m o → Til W F ps s m → W.length < n + o → V.length < n' + o → (∃ q, ps = (Go.Proofs.Ytkdhajiplonloaa.goP W F n o s).1 ++ q) →
    Sim W F V ps (Go.Proofs.Ytkdhajiplonloaa.goP W F n o s) (Go.Proofs.Ytkdhajiplonloaa.goP V (Go.Proofs.Ytkdhajiplonloaa.mk W ps) n' o s')
  | 0, n', m, o, s, s', h, ha, ht, hn, hn', hf => by
    have h1 := h.inv.tot_le
    have h2 := ha.at_
    have h3 := tot_mono (W := W) (ps := s.1) ha.le
    rw [List.take_length] at h3
    omega
  | n + 1, 0, m, o, s, s', h, ha, ht, hn, hn', hf => by
    have h1 := h.le hd
    have h2 := ha.at_
    have h3 := tot_mono (W := W) (ps := s.1) ha.le
    rw [List.take_length] at h3
    have h4 := h.inv.len
    omega
  | n + 1, n' + 1, m, o, s, s', h, ha, ht, hn, hn', hf => by
    have hle := h.le hd
    have hsl : s'.2.length = s.2.length := by rw [h.snd, List.length_take]; omega
    unfold Go.Proofs.Ytkdhajiplonloaa.goP at hf ⊢
    by_cases hlt : o < s.2.length
    · rw [if_pos hlt] at hf ⊢
      rw [if_pos (by omega)]
      obtain ⟨p, hp⟩ := ha.obj h.inv hlt
      have hpp : p ∈ ps := by
        obtain ⟨q, hq⟩ := h.pre
        rw [hq]
        exact List.mem_append_left _ (List.mem_of_getElem? hp.get)
      have hob := h.inv.ob p (List.mem_of_getElem? hp.get)
      have hrl := rst_length hob
      have hh' : s'.2.getD o 0 = W.getD p.1 0 := by
        rw [h.snd, List.getD_eq_getElem?_getD, List.getElem?_take, if_pos hlt, ← List.getD_eq_getElem?_getD, ← hd.head hpp, hp.place]
      rw [hp.head] at hf ⊢
      rw [hh']
      have hpos := szX_pos (W.getD p.1 0)
      have hfs : ∃ q, ps = (stp W F o s).1 ++ q := by
        obtain ⟨q, hq⟩ := hf
        obtain ⟨e, he⟩ := goP_grew W F n (o + szX (W.getD p.1 0)) (stp W F o s)
        rw [he, List.append_assoc] at hq
        exact ⟨_, hq⟩
      obtain ⟨t1, t2, t3, t4⟩ := ht.stp h.inv hd.good ha hp hfs
      have hs : Sim W F V ps (stp W F o s) (stp V (Go.Proofs.Ytkdhajiplonloaa.mk W ps) o s') := by
        unfold stp at hfs ⊢
        rw [hp.head] at hfs ⊢
        rw [hh']
        by_cases h3 : W.getD p.1 0 % 256 = 3
        · rw [if_pos h3, if_pos h3]
          exact h
        · rw [if_neg h3] at hfs ⊢
          rw [if_neg h3]
          exact Sim.prts hd h (ht.way hp.get h.inv.ob) ha hp h3 _ (by omega) hfs
      exact Sim.goP hd n n' (m + 1) _ _ _ hs t4 t1 (by omega) (by omega) hf
    · rw [if_neg hlt] at hf ⊢
      rw [if_neg (by omega)]
      exact h
end

theorem col_done {W : List Nat} {F : List Bool} (hg : Good W F) (hs : Sound W F) (xs : List Nat) : Done W F (colS W F xs).2 (colS W F xs).1 := by
  obtain ⟨h1, h2, h3, h4, h5⟩ := col_form hg xs
  exact ⟨hg, hs, h2, h1, h5⟩
/-- Collected twice it is as collected once. -/
theorem col_twice {W : List Nat} {F : List Bool} (hg : Good W F) (hs : Sound W F) (xs : List Nat) (hx : ∀ x ∈ xs, x % 2 = 1 ∨ isObj W F x = true) :
    (colS (colS W F xs).2 (mk W (colS W F xs).1) (colR W F xs)).2 = (colS W F xs).2 ∧ mk (colS W F xs).2 (colS (colS W F xs).2 (mk W (colS W F xs).1) (colR W F xs)).1 = mk W (colS W F xs).1 ∧ colR (colS W F xs).2 (mk W (colS W F xs).1) (colR W F xs) = colR W F xs := by
  have hd := col_done hg hs xs
  obtain ⟨h1, h2, h3, h4, h5⟩ := col_form hg xs
  obtain ⟨q, hq⟩ := goP_grew W F (W.length + 1) 0 (mvs W F ([], []) xs).1
  have hcs : (colS W F xs).1 = (mvs W F ([], []) xs).1.1 ++ q := hq
  have h0 : Sim W F (colS W F xs).2 (colS W F xs).1 ([], []) ([], []) := ⟨Inv.nil W F, ⟨_, (List.nil_append _).symm⟩, rfl, by simp⟩
  obtain ⟨s1, s2⟩ := Sim.mvs hd xs ([], []) ([], []) h0 hx ⟨q, hcs⟩
  obtain ⟨e, m1, _⟩ := mvs_form W F ([], []) xs
  have ht : Til W F (colS W F xs).1 (mvs W F ([], []) xs).1 0 := by
    refine ⟨?_, by simp⟩
    rw [m1]
    simp [tobjs]
  have hgo := Sim.goP hd (W.length + 1) ((colS W F xs).2.length + 1) 0 0 _ _ s1 ⟨Nat.zero_le _, rfl⟩ ht (by omega) (by omega) ⟨[], by simp [colS]⟩
  rw [← h3] at hgo s2
  have e1 := hgo.fst
  have e2 := hgo.snd
  have e3 : goP W F (W.length + 1) 0 (mvs W F ([], []) xs).1 = colS W F xs := rfl
  have e4 : goP (colS W F xs).2 (mk W (colS W F xs).1) ((colS W F xs).2.length + 1) 0 (mvs (colS W F xs).2 (mk W (colS W F xs).1) ([], []) (colR W F xs)).1 = colS (colS W F xs).2 (mk W (colS W F xs).1) (colR W F xs) := rfl
  rw [e4, e3] at e1 e2
  rw [List.take_length] at e2
  refine ⟨e2, ?_, s2⟩
  rw [e1]
  unfold mk dup
  rw [List.flatMap_map]
  rw [List.flatMap_def, List.flatMap_def]
  congr 1
  apply List.map_congr_left
  intro p hp
  simp only
  rw [hd.head hp]
end Go.Proofs.Ytkdhajiplonloaa
