/- Collected once more it is as it is (plain). -/
import Derived.Test.YtmljelcmjagjjaaHeaU
namespace Go.Proofs.Ytmljelcmjagjjaa
open Go.RowKit HeaM

section
variable {W : List Nat} {F : List Bool} {V : List Nat} {ps : List (Nat × Nat)}

theorem Sim.mvs (hd : Done W F V ps) : ∀ (ys : List Nat) (s s' : St), Sim W F V ps s s' → (∀ y ∈ ys, y % 2 = 1 ∨ isObj W F y = true) → (∃ q, ps = (Go.Proofs.Ytmljelcmjagjjaa.mvs W F s ys).1.1 ++ q) →
    Sim W F V ps (Go.Proofs.Ytmljelcmjagjjaa.mvs W F s ys).1 (Go.Proofs.Ytmljelcmjagjjaa.mvs V (Go.Proofs.Ytmljelcmjagjjaa.mk W ps) s' (ys.map (trW W F ps))).1 ∧ (Go.Proofs.Ytmljelcmjagjjaa.mvs V (Go.Proofs.Ytmljelcmjagjjaa.mk W ps) s' (ys.map (trW W F ps))).2 = ys.map (trW W F ps) := by
  intro ys
  induction ys using snoc_ind with
  | h0 => intro s s' h _ _; exact ⟨h, rfl⟩
  | h1 ys y ih =>
    intro s s' h hy hp
    rw [mvs_snoc] at hp
    simp only at hp
    obtain ⟨e, he, _⟩ := mv_form W F (Go.Proofs.Ytmljelcmjagjjaa.mvs W F s ys).1 y
    obtain ⟨i1, i2⟩ := ih s s' h (fun z hz => hy z (List.mem_append_left _ hz)) (by
      obtain ⟨q, hq⟩ := hp
      rw [he, List.append_assoc] at hq
      exact ⟨_, hq⟩)
    obtain ⟨j1, j2⟩ := i1.mv hd (hy y (by simp)) hp
    rw [List.map_append, List.map_cons, List.map_nil, mvs_snoc, mvs_snoc]
    exact ⟨j1, by simp only; rw [i2, j2]⟩

theorem take_set_same (V : List Nat) (n j : Nat) (h : j < V.length) : (V.take n).set j (V.getD j 0) = V.take n := by
  apply List.ext_getElem?
  intro k
  rw [List.getElem?_set]
  split
  · rename_i e
    subst e
    rw [List.length_take]
    split
    · rename_i hl
      rw [List.getElem?_take, if_pos (by omega), List.getD_eq_getElem?_getD, List.getElem?_eq_getElem h]
      rfl
    · rename_i hl
      symm
      rw [List.getElem?_eq_none_iff, List.length_take]
      omega
  · rfl

theorem Sim.prt (hd : Done W F V ps) {s s' : St} {m i o : Nat} {p : Nat × Nat} (h : Sim W F V ps s s') (hw : Way W F ps s m i p) (hm : o = tot W (s.1.take m)) (hk : W.getD p.1 0 % 256 ≠ 3) (hi : i < (rst W p.1).length) (hp : ∃ q, ps = (Go.Proofs.Ytmljelcmjagjjaa.prt W F o s i).1 ++ q) (hin : Inv W F (Go.Proofs.Ytmljelcmjagjjaa.prt W F o s i)) :
    Sim W F V ps (Go.Proofs.Ytmljelcmjagjjaa.prt W F o s i) (Go.Proofs.Ytmljelcmjagjjaa.prt V (Go.Proofs.Ytmljelcmjagjjaa.mk W ps) o s' i) := by
  have hob := h.inv.ob p (List.mem_of_getElem? hw.get)
  have hml : m < s.1.length := (List.getElem?_eq_some_iff.1 hw.get).1
  have hx := hw.part h.inv.ob hm hi
  have hrl := rst_length hob
  have hpp : p ∈ ps := by
    obtain ⟨q, hq⟩ := h.pre
    rw [hq]
    exact List.mem_append_left _ (List.mem_of_getElem? hw.get)
  have hpo : p.2 = o := by rw [h.inv.pos m p hw.get, hm]
  have hrs := hd.parts hpp hk
  have hol : o + 1 + i < s.2.length := by
    have ht := tot_take (W := W) hw.get
    have hmo := tot_mono (W := W) (ps := s.1) (show m + 1 ≤ s.1.length by omega)
    rw [List.take_length] at hmo
    rw [h.inv.len]
    omega
  have hle := h.le hd
  have hmem : (rst W p.1).getD i 0 ∈ rst W p.1 := by
    rw [List.getD_eq_getElem?_getD, List.getElem?_eq_getElem hi]
    exact List.getElem_mem hi
  have hV : V.getD (o + 1 + i) 0 = trW W F ps ((rst W p.1).getD i 0) := by
    have h1 : (rst V p.2).getD i 0 = V.getD (o + 1 + i) 0 := by
      unfold rst
      rw [hd.head hpp, hpo]
      rw [List.getD_eq_getElem?_getD, List.getElem?_take, if_pos (by omega), List.getElem?_drop, ← List.getD_eq_getElem?_getD]
    rw [← h1, hrs, List.getD_eq_getElem?_getD, List.getElem?_map, List.getD_eq_getElem?_getD, List.getElem?_eq_getElem hi]
    rfl
  have hx' : s'.2.getD (o + 1 + i) 0 = trW W F ps ((rst W p.1).getD i 0) := by
    rw [h.snd, List.getD_eq_getElem?_getD, List.getElem?_take, if_pos hol, ← List.getD_eq_getElem?_getD, hV]
  unfold Go.Proofs.Ytmljelcmjagjjaa.prt at hp hin ⊢
  rw [hx] at hp hin ⊢
  rw [hx']
  simp only at hp
  obtain ⟨j1, j2⟩ := h.mv hd (hd.sound _ hob hk _ hmem) hp
  refine ⟨hin, hp, j1.fst, ?_⟩
  simp only
  rw [List.length_set, j1.snd, j2, ← hV, take_set_same V _ _ (by omega)]

theorem Sim.prts (hd : Done W F V ps) {s s' : St} {m o : Nat} {p : Nat × Nat} (h : Sim W F V ps s s') (hw : Way W F ps s m 0 p) (ha : AtP W s m o) (hp : OAt W F s m o p) (hk : W.getD p.1 0 % 256 ≠ 3) : ∀ n, n ≤ (rst W p.1).length → (∃ q, ps = (Go.Proofs.Ytmljelcmjagjjaa.prts W F o s n).1 ++ q) →
    Sim W F V ps (Go.Proofs.Ytmljelcmjagjjaa.prts W F o s n) (Go.Proofs.Ytmljelcmjagjjaa.prts V (Go.Proofs.Ytmljelcmjagjjaa.mk W ps) o s' n)
  | 0, _, _ => h
  | n + 1, hn, hf => by
    have hob := h.inv.ob p (List.mem_of_getElem? hp.get)
    have hrl := rst_length hob
    have hf' : ∃ q, ps = (Go.Proofs.Ytmljelcmjagjjaa.prts W F o s n).1 ++ q := by
      obtain ⟨q, hq⟩ := hf
      obtain ⟨e, he⟩ := prt_grew W F o (Go.Proofs.Ytmljelcmjagjjaa.prts W F o s n) n
      rw [prts_succ, he, List.append_assoc] at hq
      exact ⟨_, hq⟩
    have hs := Sim.prts hd h hw ha hp hk n (by omega) hf'
    have hpi := PI.all h.inv ha hp hd.good n (by omega)
    have hpi2 := PI.all h.inv ha hp hd.good (n + 1) (by omega)
    have hw2 := Way.parts hw h.inv hd.good ha hp n (by omega) hf'
    rw [prts_succ] at hf hpi2 ⊢
    rw [prts_succ]
    exact hs.prt hd hw2 (ha.grew hpi.grew).at_ hk (by omega) hf hpi2.inv

theorem Sim.goP (hd : Done W F V ps) : ∀ (n n' m o : Nat) (s s' : St), Sim W F V ps s s' → AtP W s m o → Til W F ps s m → W.length < n + o → V.length < n' + o → (∃ q, ps = (Go.Proofs.Ytmljelcmjagjjaa.goP W F n o s).1 ++ q) →
    Sim W F V ps (Go.Proofs.Ytmljelcmjagjjaa.goP W F n o s) (Go.Proofs.Ytmljelcmjagjjaa.goP V (Go.Proofs.Ytmljelcmjagjjaa.mk W ps) n' o s')
  | 0, n', m, o, s, s', h, ha, ht, hn, hn', hf => by
    have h1 := h.inv.tot_le
    have h2 := ha.at_
    have h3 := tot_mono (W := W) (ps := s.1) ha.le
    rw [List.take_length] at h3
    omega
  | n + 1, 0, m, o, s, s', h, ha, ht, hn, hn', hf => by
    have h1 := h.le hd
    have h2 := ha.at_
    have h3 := tot_mono (W := W) (ps := s.1) ha.le
    rw [List.take_length] at h3
    have h4 := h.inv.len
    omega
  | n + 1, n' + 1, m, o, s, s', h, ha, ht, hn, hn', hf => by
    have hle := h.le hd
    have hsl : s'.2.length = s.2.length := by rw [h.snd, List.length_take]; omega
    unfold Go.Proofs.Ytmljelcmjagjjaa.goP at hf ⊢
    by_cases hlt : o < s.2.length
    · rw [if_pos hlt] at hf ⊢
      rw [if_pos (by omega)]
      obtain ⟨p, hp⟩ := ha.obj h.inv hlt
      have hpp : p ∈ ps := by
        obtain ⟨q, hq⟩ := h.pre
        rw [hq]
        exact List.mem_append_left _ (List.mem_of_getElem? hp.get)
      have hob := h.inv.ob p (List.mem_of_getElem? hp.get)
      have hrl := rst_length hob
      have hh' : s'.2.getD o 0 = W.getD p.1 0 := by
        rw [h.snd, List.getD_eq_getElem?_getD, List.getElem?_take, if_pos hlt, ← List.getD_eq_getElem?_getD, ← hd.head hpp, hp.place]
      rw [hp.head] at hf ⊢
      rw [hh']
      have hpos := szX_pos (W.getD p.1 0)
      have hfs : ∃ q, ps = (stp W F o s).1 ++ q := by
        obtain ⟨q, hq⟩ := hf
        obtain ⟨e, he⟩ := goP_grew W F n (o + szX (W.getD p.1 0)) (stp W F o s)
        rw [he, List.append_assoc] at hq
        exact ⟨_, hq⟩
      obtain ⟨t1, t2, t3, t4⟩ := ht.stp h.inv hd.good ha hp hfs
      have hs : Sim W F V ps (stp W F o s) (stp V (Go.Proofs.Ytmljelcmjagjjaa.mk W ps) o s') := by
        unfold stp at hfs ⊢
        rw [hp.head] at hfs ⊢
        rw [hh']
        by_cases h3 : W.getD p.1 0 % 256 = 3
        · rw [if_pos h3, if_pos h3]
          exact h
        · rw [if_neg h3] at hfs ⊢
          rw [if_neg h3]
          exact Sim.prts hd h (ht.way hp.get h.inv.ob) ha hp h3 _ (by omega) hfs
      exact Sim.goP hd n n' (m + 1) _ _ _ hs t4 t1 (by omega) (by omega) hf
    · rw [if_neg hlt] at hf ⊢
      rw [if_neg (by omega)]
      exact h
end

theorem col_done {W : List Nat} {F : List Bool} (hg : Good W F) (hs : Sound W F) (xs : List Nat) : Done W F (colS W F xs).2 (colS W F xs).1 := by
  obtain ⟨h1, h2, h3, h4, h5⟩ := col_form hg xs
  exact ⟨hg, hs, h2, h1, h5⟩
/-- Collected twice it is as collected once. -/
theorem col_twice {W : List Nat} {F : List Bool} (hg : Good W F) (hs : Sound W F) (xs : List Nat) (hx : ∀ x ∈ xs, x % 2 = 1 ∨ isObj W F x = true) :
    (colS (colS W F xs).2 (mk W (colS W F xs).1) (colR W F xs)).2 = (colS W F xs).2 ∧ mk (colS W F xs).2 (colS (colS W F xs).2 (mk W (colS W F xs).1) (colR W F xs)).1 = mk W (colS W F xs).1 ∧ colR (colS W F xs).2 (mk W (colS W F xs).1) (colR W F xs) = colR W F xs := by
  have hd := col_done hg hs xs
  obtain ⟨h1, h2, h3, h4, h5⟩ := col_form hg xs
  obtain ⟨q, hq⟩ := goP_grew W F (W.length + 1) 0 (mvs W F ([], []) xs).1
  have hcs : (colS W F xs).1 = (mvs W F ([], []) xs).1.1 ++ q := hq
  have h0 : Sim W F (colS W F xs).2 (colS W F xs).1 ([], []) ([], []) := ⟨Inv.nil W F, ⟨_, (List.nil_append _).symm⟩, rfl, by simp⟩
  obtain ⟨s1, s2⟩ := Sim.mvs hd xs ([], []) ([], []) h0 hx ⟨q, hcs⟩
  obtain ⟨e, m1, _⟩ := mvs_form W F ([], []) xs
  have ht : Til W F (colS W F xs).1 (mvs W F ([], []) xs).1 0 := by
    refine ⟨?_, by simp⟩
    rw [m1]
    simp [tobjs]
  have hgo := Sim.goP hd (W.length + 1) ((colS W F xs).2.length + 1) 0 0 _ _ s1 ⟨Nat.zero_le _, rfl⟩ ht (by omega) (by omega) ⟨[], by simp [colS]⟩
  rw [← h3] at hgo s2
  have e1 := hgo.fst
  have e2 := hgo.snd
  have e3 : goP W F (W.length + 1) 0 (mvs W F ([], []) xs).1 = colS W F xs := rfl
  have e4 : goP (colS W F xs).2 (mk W (colS W F xs).1) ((colS W F xs).2.length + 1) 0 (mvs (colS W F xs).2 (mk W (colS W F xs).1) ([], []) (colR W F xs)).1 = colS (colS W F xs).2 (mk W (colS W F xs).1) (colR W F xs) := rfl
  rw [e4, e3] at e1 e2
  rw [List.take_length] at e2
  refine ⟨e2, ?_, s2⟩
  rw [e1]
  unfold mk dup
  rw [List.flatMap_map]
  rw [List.flatMap_def, List.flatMap_def]
  congr 1
  apply List.map_congr_left
  intro p hp
  simp only
  rw [hd.head hp]
end Go.Proofs.Ytmljelcmjagjjaa
