/- The parts of what was moved, in the plain. -/
/- parts of an object. -/
import Derived.Test.YtkdhajiplonloaaHeaY
namespace Go.Proofs.Ytkdhajiplonloaa
open Go.RowKit HeaM

/-- Part i of the object at `at`, moved. -/
def prt (W : List Nat) (F : List Bool) (o : Nat) (s : St) (i : Nat) : St :=
  ((mv W F s (s.2.getD (o + 1 + i) 0)).1.1, (mv W F s (s.2.getD (o + 1 + i) 0)).1.2.set (o + 1 + i) (mv W F s (s.2.getD (o + 1 + i) 0)).2)
def prts (W : List Nat) (F : List Bool) (o : Nat) (s : St) (n : Nat) : St := (List.range n).foldl (prt W F o) s
/-- The object at `o`. -/
def stp (W : List Nat) (F : List Bool) (o : Nat) (s : St) : St := if s.2.getD o 0 % 256 = 3 then s else prts W F o s (szX (s.2.getD o 0) - 1)
/-- All objects from `o` on. -/
def goP (W : List Nat) (F : List Bool) : Nat → Nat → St → St
  | 0, _, s => s
  | n + 1, o, s => if o < s.2.length then goP W F n (o + szX (s.2.getD o 0)) (stp W F o s) else s

theorem prts_succ (W : List Nat) (F : List Bool) (o : Nat) (s : St) (n : Nat) : prts W F o s (n + 1) = prt W F o (prts W F o s n) n := by
  unfold prts; rw [List.range_succ, List.foldl_append]; rfl
theorem prts_zero (W : List Nat) (F : List Bool) (o : Nat) (s : St) : prts W F o s 0 = s := rfl

/-- The m-th object begins at o. -/
structure AtP (W : List Nat) (s : St) (m o : Nat) : Prop where
  le : m ≤ s.1.length
  at_ : o = tot W (s.1.take m)

theorem tot_take {W : List Nat} {ps : List (Nat × Nat)} {m : Nat} {p : Nat × Nat} (h : ps[m]? = some p) : tot W (ps.take (m + 1)) = tot W (ps.take m) + szX (W.getD p.1 0) := by
  obtain ⟨h1, h2⟩ := List.getElem?_eq_some_iff.1 h
  rw [List.take_succ_eq_append_getElem h1, tot_snoc, h2]
theorem tot_mono {W : List Nat} {ps : List (Nat × Nat)} {a b : Nat} (h : a ≤ b) : tot W (ps.take a) ≤ tot W (ps.take b) := by
  have e : ps.take a = (ps.take b).take a := by rw [List.take_take, Nat.min_eq_left h]
  conv => rhs; rw [← List.take_append_drop a (ps.take b)]
  rw [e]
  simp only [tot, List.map_append, List.sum_append]
  omega

/-- What holds of the object at o. -/
structure OAt (W : List Nat) (F : List Bool) (s : St) (m o : Nat) (p : Nat × Nat) : Prop where
  get : s.1[m]? = some p
  place : p.2 = o
  head : s.2.getD o 0 = W.getD p.1 0
  fits : o + szX (W.getD p.1 0) ≤ s.2.length
  next : AtP W s (m + 1) (o + szX (W.getD p.1 0))

theorem AtP.obj {W : List Nat} {F : List Bool} {s : St} {m o : Nat} (h : AtP W s m o) (hi : Inv W F s) (ho : o < s.2.length) : ∃ p, OAt W F s m o p := by
  have hm : m < s.1.length := by
    rcases Nat.lt_or_ge m s.1.length with h1 | h1
    · exact h1
    · have h2 := h.at_
      rw [List.take_of_length_le h1, ← hi.len] at h2
      omega
  have hg := List.getElem?_eq_getElem hm
  have hp := hi.pos m _ hg
  have ht := tot_take (W := W) hg
  refine ⟨s.1[m], hg, hp.trans h.at_.symm, ?_, ?_, by omega, by rw [ht, ← h.at_]⟩
  · have := hi.head s.1[m] (List.getElem_mem hm)
    rw [hp, ← h.at_] at this
    exact this
  · rw [hi.len, h.at_, ← ht]
    have := tot_mono (W := W) (ps := s.1) (show m + 1 ≤ s.1.length by omega)
    rw [List.take_length] at this
    exact this

theorem mk_at {W : List Nat} {F : List Bool} {s : St} {m o : Nat} {p : Nat × Nat} (h : OAt W F s m o p) (ha : AtP W s m o) : (mk W s.1)[o]? = some true := by
  obtain ⟨h1, h2⟩ := List.getElem?_eq_some_iff.1 h.get
  have e : s.1 = s.1.take m ++ p :: s.1.drop (m + 1) := by rw [← h2, ← List.drop_eq_getElem_cons h1, List.take_append_drop]
  have e2 : mk W s.1 = mk W (s.1.take m) ++ ((true :: List.replicate (szX (W.getD p.1 0) - 1) false) ++ mk W (s.1.drop (m + 1))) := by
    conv => lhs; rw [e]
    simp [mk]
  rw [e2, List.getElem?_append_right (by rw [mk_length, ha.at_]; exact Nat.le_refl _), mk_length, ha.at_, Nat.sub_self]
  rfl
theorem objAt_to {W : List Nat} {F : List Bool} {s : St} {m o : Nat} {p : Nat × Nat} (h : OAt W F s m o p) (ha : AtP W s m o) (hi : Inv W F s) :
    ObjAt s.2 (mk W s.1) o (W.getD p.1 0) (W.getD p.1 0 % 256) (W.getD p.1 0 / 256) (szX (W.getD p.1 0)) := by
  have hp := szX_pos (W.getD p.1 0)
  have hf := h.fits
  refine ⟨mk_at h ha, ?_, (hi.ob p (List.mem_of_getElem? h.get)).lt, rfl, rfl, rfl, hf⟩
  have := h.head
  rw [List.getD_eq_getElem?_getD, List.getElem?_eq_getElem (by omega)] at this
  rw [List.getElem?_eq_getElem (by omega)]
  exact congrArg some this

/-- More objects behind the others. -/
structure Grew (s s' : St) : Prop where
  pre : ∃ q, s'.1 = s.1 ++ q
  len : s.2.length ≤ s'.2.length
theorem Grew.refl (s : St) : Grew s s := ⟨⟨[], by simp⟩, Nat.le_refl _⟩
theorem Grew.trans {a b c : St} (h : Grew a b) (k : Grew b c) : Grew a c := by
  obtain ⟨q, hq⟩ := h.pre
  obtain ⟨r, hr⟩ := k.pre
  exact ⟨⟨q ++ r, by rw [hr, hq, List.append_assoc]⟩, Nat.le_trans h.len k.len⟩
theorem AtP.grew {W : List Nat} {s s' : St} {m o : Nat} (h : AtP W s m o) (hg : Grew s s') : AtP W s' m o := by
  obtain ⟨q, hq⟩ := hg.pre
  have h1 := h.le
  refine ⟨by rw [hq, List.length_append]; omega, ?_⟩
  rw [hq, List.take_append_of_le_length h1]
  exact h.at_
theorem mv_grew (W : List Nat) (F : List Bool) (s : St) (x : Nat) : Grew s (mv W F s x).1 ∧ ∀ j, j < s.2.length → (mv W F s x).1.2[j]? = s.2[j]? := by
  unfold mv
  split
  · split
    · exact ⟨Grew.refl _, fun _ _ => rfl⟩
    · exact ⟨⟨⟨_, rfl⟩, by simp⟩, fun j hj => List.getElem?_append_left hj⟩
  · exact ⟨Grew.refl _, fun _ _ => rfl⟩

/-- A word inside an object may be another one. -/
theorem Inv.set {W : List Nat} {F : List Bool} {s : St} {m o j y : Nat} {p : Nat × Nat} (h : Inv W F s) (ha : AtP W s m o) (ho : OAt W F s m o p) (h1 : o < j) (h2 : j < o + szX (W.getD p.1 0)) (hy : y < 18446744073709551616) : Inv W F (s.1, s.2.set j y) := by
  refine ⟨h.nodup, h.ob, h.pos, by simp only [List.length_set]; exact h.len, ?_, ?_⟩
  · intro q hq
    simp only
    have hne : q.2 ≠ j := by
      obtain ⟨m', hm'⟩ := List.getElem?_of_mem hq
      have hp := h.pos m' q hm'
      rcases Nat.lt_or_ge m' (m + 1) with hlt | hge
      · have := tot_mono (W := W) (ps := s.1) (show m' ≤ m by omega)
        rw [← ha.at_] at this
        omega
      · have := tot_mono (W := W) (ps := s.1) hge
        have e := ho.next.at_
        omega
    have := h.head q hq
    rw [List.getD_eq_getElem?_getD, List.getElem?_set_ne (Ne.symm hne), ← List.getD_eq_getElem?_getD]
    exact this
  · intro x hx
    rcases List.mem_or_eq_of_mem_set hx with hx | rfl
    · exact h.words x hx
    · exact hy

theorem mv_lt {W : List Nat} {F : List Bool} {s : St} {x : Nat} (h : Inv W F s) (hg : Good W F) (hx : x < 18446744073709551616) : (mv W F s x).2 < 18446744073709551616 := by
  have hm := hg.max
  have ht := h.tot_le
  unfold mv
  split
  · split
    · rename_i j hj
      obtain ⟨m, hmm⟩ := List.getElem?_of_mem (look_some hj)
      have h1 := h.pos m _ hmm
      have h3 := tot_mono (W := W) (ps := s.1) (show m ≤ s.1.length by have := (List.getElem?_eq_some_iff.1 hmm).1; omega)
      rw [List.take_length] at h3
      simp only at h1 ⊢
      omega
    · have := h.len
      simp only
      omega
  · exact hx

/-- What holds behind i parts. -/
structure PI (W : List Nat) (F : List Bool) (s s' : St) (o i : Nat) : Prop where
  inv : Inv W F s'
  grew : Grew s s'
  same : ∀ j, j < s.2.length → ¬ (o < j ∧ j < o + 1 + i) → s'.2[j]? = s.2[j]?
theorem PI.zero {W : List Nat} {F : List Bool} {s : St} {o : Nat} (h : Inv W F s) : PI W F s s o 0 := ⟨h, Grew.refl _, fun _ _ _ => rfl⟩
theorem OAt.grew {W : List Nat} {F : List Bool} {s s' : St} {m o : Nat} {p : Nat × Nat} (h : OAt W F s m o p) (g : Grew s s') (hs : s'.2[o]? = s.2[o]?) : OAt W F s' m o p := by
  obtain ⟨q, hq⟩ := g.pre
  refine ⟨?_, h.place, ?_, Nat.le_trans h.fits g.len, h.next.grew g⟩
  · rw [hq, List.getElem?_append_left (List.getElem?_eq_some_iff.1 h.get).1]
    exact h.get
  · rw [List.getD_eq_getElem?_getD, hs, ← List.getD_eq_getElem?_getD]
    exact h.head
theorem getD_lt {l : List Nat} (h : ∀ x ∈ l, x < 18446744073709551616) (j : Nat) : l.getD j 0 < 18446744073709551616 := by
  rw [List.getD_eq_getElem?_getD]
  rcases e : l[j]? with _ | x
  · simp
  · exact h x (List.mem_of_getElem? e)
theorem PI.step {W : List Nat} {F : List Bool} {s s' : St} {m o i : Nat} {p : Nat × Nat} (h : PI W F s s' o i) (ha : AtP W s m o) (ho : OAt W F s m o p) (hi : o + 1 + i < o + szX (W.getD p.1 0)) (hg : Good W F) : PI W F s (prt W F o s' i) o (i + 1) := by
  have hx := getD_lt h.inv.words (o + 1 + i)
  have hv := mv_lt (x := s'.2.getD (o + 1 + i) 0) h.inv hg hx
  have hm := inv_mv h.inv hg (s'.2.getD (o + 1 + i) 0)
  obtain ⟨g1, g2⟩ := mv_grew W F s' (s'.2.getD (o + 1 + i) 0)
  have hf := ho.fits
  have hl := h.grew.len
  have ho' : OAt W F (mv W F s' (s'.2.getD (o + 1 + i) 0)).1 m o p := (ho.grew h.grew (h.same o (by omega) (by omega))).grew g1 (g2 o (by omega))
  refine ⟨hm.set (ha.grew (h.grew.trans g1)) ho' (by omega) hi hv, ?_, ?_⟩
  · obtain ⟨q, hq⟩ := (h.grew.trans g1).pre
    exact ⟨⟨q, hq⟩, by have := (h.grew.trans g1).len; unfold prt; simp only [List.length_set]; exact this⟩
  · intro j hj hn
    unfold prt
    simp only
    rw [List.getElem?_set_ne (by omega), g2 j (by omega)]
    exact h.same j hj (by omega)
theorem PI.all {W : List Nat} {F : List Bool} {s : St} {m o : Nat} {p : Nat × Nat} (hv : Inv W F s) (ha : AtP W s m o) (ho : OAt W F s m o p) (hg : Good W F) : ∀ n, n ≤ szX (W.getD p.1 0) - 1 → PI W F s (prts W F o s n) o n
  | 0, _ => PI.zero hv
  | n + 1, h => by
    rw [prts_succ]
    exact (PI.all hv ha ho hg n (by omega)).step ha ho (by omega) hg
end Go.Proofs.Ytkdhajiplonloaa
namespace Go.Proofs.Ytkdhajiplonloaa
open Go.RowKit HeaM

def PartsPost (w w' : World) (v1 : Value) (W : List Nat) (i N : Nat) (e : Ending) : Prop :=
  ∃ g cap A K nq, v1 = .slice (some ⟨g, 0, none⟩) W.length cap ∧ (N - 1 = 0 ∨ A = ⟨g, i + 1, none⟩) ∧ N - 1 ≤ K ∧ K ≤ maxLen ∧ e = .returned (.slice (some A) (N - 1) K) ∧ w' = w.drewN nq

set_option maxHeartbeats 2000000 in
set_option maxRecDepth 100000 in
theorem parts_text (b base q c : Nat) (v1 v2 : Value) (W : List Nat) (F : List Bool) (i X n N : Nat) (w : World) (h : HAt w b base q c v1 v2 W F) (hO : ObjAt W F i X 3 n N) (hF : F.length = W.length) (hW : W.length ≤ 1000000000) :
    Calls Try.prog 29 #[.pointer (some ⟨b, 0, none⟩), .int .u64 ((2 * i : Nat) : Int)] w fun e w' => e = .returned (.slice none 0 0) ∧ ∃ nq, w' = w.drewN nq := by
  have hpos := hO.pos
  have hfit := hO.fits
  have hXlt := hO.lt
  have HO := Lib.hid (object_t b base q c v1 v2 W F i X 3 n N w h hO hF hW)
  have HK := Lib.hid hO.kind
  obtain ⟨g, cap, hv1, hcap, hmax⟩ : ∃ g cap, v1 = .slice (some ⟨g, 0, none⟩) W.length cap ∧ W.length ≤ cap ∧ cap ≤ maxLen := by
    rcases h.own1.2 with ⟨_, hn⟩ | ⟨g, cap, cur, e, _, _, hc, hm, _⟩
    · omega
    · exact ⟨g, cap, e, hc, hm⟩
  have own1 := h.own1
  rw [hv1] at own1
  have hm : w.cell? ⟨g, i, none⟩ = some (.int .u64 (X : Int)) := by
    rw [own1.cellAt i (by omega)]
    simp [Ws, hO.get, Wv]
  have hgl := (own1.lt g rfl).2
  have HV := Lib.hid hv1
  clear h hO own1 hv1
  have hX' : (X : Int) ≤ 18446744073709551615 := by omega
  have hNz : ((N : Int) == 0) = false := by rw [beq_eq_false_iff_ne]; omega
  have hNp : 0 < N := by omega
  go_enter Try.func29, Try.ntmps29
  go_wp2_with fail
  refine HO.out.mono ?_
  rintro e w' ⟨g', cap', nq, hv, -, -, rfl, rfl⟩
  rw [HV.out] at hv
  simp only [Value.slice.injEq, Option.some.injEq, Addr.mk.injEq, and_true] at hv
  obtain ⟨rfl, -, rfl⟩ := hv
  have hmq := ((below_drewN w.heap.size nq w).cell (p := ⟨g, i, none⟩) hgl).trans hm
  go_wp2_with fail
  refine (kind_k X 3 _ hXlt HK).mono ?_
  rintro e w' ⟨rfl, rfl⟩
  go_wp2_with fail
  go_ret
  exact ⟨rfl, nq, rfl⟩

set_option maxHeartbeats 2000000 in
set_option maxRecDepth 100000 in
theorem parts_t (b base q c : Nat) (v1 v2 : Value) (W : List Nat) (F : List Bool) (i X k n N : Nat) (w : World) (h : HAt w b base q c v1 v2 W F) (hO : ObjAt W F i X k n N) (hF : F.length = W.length) (hW : W.length ≤ 1000000000) (hk3 : k ≠ 3) :
    Calls Try.prog 29 #[.pointer (some ⟨b, 0, none⟩), .int .u64 ((2 * i : Nat) : Int)] w fun e w' => PartsPost w w' v1 W i N e := by
  have hpos := hO.pos
  have hfit := hO.fits
  have hXlt := hO.lt
  have HO := Lib.hid (object_t b base q c v1 v2 W F i X k n N w h hO hF hW)
  have HK := Lib.hid hO.kind
  obtain ⟨g, cap, hv1, hcap, hmax⟩ : ∃ g cap, v1 = .slice (some ⟨g, 0, none⟩) W.length cap ∧ W.length ≤ cap ∧ cap ≤ maxLen := by
    rcases h.own1.2 with ⟨_, hn⟩ | ⟨g, cap, cur, e, _, _, hc, hm, _⟩
    · omega
    · exact ⟨g, cap, e, hc, hm⟩
  have own1 := h.own1
  rw [hv1] at own1
  have hm : w.cell? ⟨g, i, none⟩ = some (.int .u64 (X : Int)) := by
    rw [own1.cellAt i (by omega)]
    simp [Ws, hO.get, Wv]
  have hgl := (own1.lt g rfl).2
  have HV := Lib.hid hv1
  clear h hO own1 hv1
  have hX' : (X : Int) ≤ 18446744073709551615 := by omega
  have hNz : ((N : Int) == 0) = false := by rw [beq_eq_false_iff_ne]; omega
  have hNp : 0 < N := by omega
  have hNi : (1 : Int) ≤ (N : Int) := by omega
  have hk' : ((k : Int) == 3) = false := by rw [beq_eq_false_iff_ne]; omega
  unfold maxLen at hmax
  have fin1 : ∀ nq, cap - i = 1 → PartsPost w (w.drewN nq) v1 W i N (.returned (.slice (some ⟨g, i, none⟩) 0 0)) := fun nq h1 => ⟨g, cap, ⟨g, i, none⟩, 0, nq, HV.out, .inl (by omega), by omega, Nat.zero_le _, by rw [show N - 1 = 0 by omega], rfl⟩
  have fin2 : ∀ nq, PartsPost w (w.drewN nq) v1 W i N (.returned (.slice (some ⟨g, i + 1, none⟩) (N - 1) (cap - i - 1))) := fun nq => ⟨g, cap, _, _, nq, HV.out, .inr rfl, by omega, by unfold maxLen; omega, rfl, rfl⟩
  have FIN1 := Lib.hid fin1
  have FIN2 := Lib.hid fin2
  clear fin1 fin2 hk3
  by_cases hc1 : cap - i = 1
  · obtain rfl : N = 1 := by omega
    have HC1 : Hid (cap - i = 1) := hc1
    go_enter Try.func29, Try.ntmps29
    go_wp2_with fail
    refine HO.out.mono ?_
    rintro e w' ⟨g', cap', nq, hv, -, -, rfl, rfl⟩
    rw [HV.out] at hv
    simp only [Value.slice.injEq, Option.some.injEq, Addr.mk.injEq, and_true] at hv
    obtain ⟨rfl, -, rfl⟩ := hv
    have hmq := ((below_drewN w.heap.size nq w).cell (p := ⟨g, i, none⟩) hgl).trans hm
    go_wp2_with fail
    refine (kind_k X k _ hXlt HK).mono ?_
    rintro e w' ⟨rfl, rfl⟩
    go_wp2_with fail
    go_ret
    exact FIN1.out nq HC1.out
  · go_enter Try.func29, Try.ntmps29
    go_wp2_with fail
    refine HO.out.mono ?_
    rintro e w' ⟨g', cap', nq, hv, -, -, rfl, rfl⟩
    rw [HV.out] at hv
    simp only [Value.slice.injEq, Option.some.injEq, Addr.mk.injEq, and_true] at hv
    obtain ⟨rfl, -, rfl⟩ := hv
    have hmq := ((below_drewN w.heap.size nq w).cell (p := ⟨g, i, none⟩) hgl).trans hm
    go_wp2_with fail
    refine (kind_k X k _ hXlt HK).mono ?_
    rintro e w' ⟨rfl, rfl⟩
    go_wp2_with fail
    go_ret
    exact FIN2.out nq
end Go.Proofs.Ytkdhajiplonloaa
