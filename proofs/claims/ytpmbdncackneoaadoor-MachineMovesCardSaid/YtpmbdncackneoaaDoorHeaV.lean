/- move: where an object stands in the other heap. -/
import Derived.Test.YtpmbdncackneoaaDoorHeaG
import Derived.Test.YtpmbdncackneoaaDoorHeaR
namespace Go.Proofs.YtpmbdncackneoaaDoor
open Go.RowKit HeaM

theorem isObj_fwd (W : List Nat) (F : List Bool) (ps : List (Nat × Nat)) (x : Nat) : isObj (fwd W ps) F x = isObj W F x := by unfold isObj; rw [fwd_length]

/-- An object that was not moved stands as it did. -/
theorem fwd_in {W : List Nat} {F : List Bool} {ps : List (Nat × Nat)} {i j : Nat} (ho : ∀ p ∈ ps, Ob W F p.1) (hl : look ps i = none) (hi : Ob W F i) (h1 : i ≤ j) (h2 : j < i + szX (W.getD i 0)) : (fwd W ps)[j]? = W[j]? := by
  refine fwd_other W ps j fun p hp e => ?_
  rcases Nat.lt_or_ge i j with h | h
  · have h3 := hi.rest j h h2
    rw [← e, (ho p hp).mark] at h3
    cases h3
  · have : j = i := by omega
    subst this
    exact look_none.1 hl p hp e
theorem fwd_getD {W : List Nat} {F : List Bool} {ps : List (Nat × Nat)} {i : Nat} (ho : ∀ p ∈ ps, Ob W F p.1) (hl : look ps i = none) (hi : Ob W F i) : (fwd W ps)[i]? = some (W.getD i 0) := by
  have h1 := hi.fits
  have h2 := szX_pos (W.getD i 0)
  rw [fwd_in ho hl hi (Nat.le_refl _) (by omega), List.getD_eq_getElem?_getD, List.getElem?_eq_getElem (by omega)]
  rfl
theorem fwd_objAt {W : List Nat} {F : List Bool} {ps : List (Nat × Nat)} {i : Nat} (ho : ∀ p ∈ ps, Ob W F p.1) (hl : look ps i = none) (hi : Ob W F i) :
    ObjAt (fwd W ps) F i (W.getD i 0) (W.getD i 0 % 256) (W.getD i 0 / 256) (szX (W.getD i 0)) :=
  ⟨hi.mark, fwd_getD ho hl hi, hi.lt, rfl, rfl, rfl, by rw [fwd_length]; exact hi.fits⟩

/-- Two heaps in memory while things are moved from the one to the other. -/
structure MS (w : World) (b base q c : Nat) (v1 v2 : Value) (t B0 gt : Nat) (u2 : Value) (W : List Nat) (F : List Bool) (s : St) : Prop where
  h : HAt w b base q c v1 v2 (fwd W s.1) F
  to : HAt w t B0 0 0 (.slice (some ⟨gt, 0, none⟩) s.2.length W.length) u2 s.2 (mk W s.1)
  inv : Inv W F s
  far : ∀ k, three b v1 v2 k → k < B0
  tB : B0 ≤ t
  size : B0 ≤ w.heap.size
/-- The blocks that may be written. -/
def SS (b : Nat) (v1 v2 : Value) (B0 : Nat) : Nat → Prop := fun k => three b v1 v2 k ∨ B0 ≤ k

theorem MS.drewN {w : World} {b base q c : Nat} {v1 v2 : Value} {t B0 gt : Nat} {u2 : Value} {W : List Nat} {F : List Bool} {s : St} (h : MS w b base q c v1 v2 t B0 gt u2 W F s) (n : Nat) : MS (w.drewN n) b base q c v1 v2 t B0 gt u2 W F s :=
  ⟨⟨h.h.cell, h.h.own1, h.h.own2⟩, ⟨h.to.cell, h.to.own1, h.to.own2⟩, h.inv, h.far, h.tB, h.size⟩
theorem MS.below {w w' : World} {b base q c : Nat} {v1 v2 : Value} {t B0 gt : Nat} {u2 : Value} {W : List Nat} {F : List Bool} {s : St} (h : MS w b base q c v1 v2 t B0 gt u2 W F s) (hb : Below w.heap.size w w') : MS w' b base q c v1 v2 t B0 gt u2 W F s :=
  ⟨h.h.below hb (Nat.le_refl _), h.to.below hb (Nat.le_refl _), h.inv, h.far, h.tB, Nat.le_trans h.size hb.size⟩
theorem Kept.drewN {S : Nat → Prop} {a b : World} (h : Kept S a b) (n : Nat) : Kept S a (b.drewN n) := ⟨h.os, h.tape, h.output, h.size, h.block⟩
theorem MS.toB {w : World} {b base q c : Nat} {v1 v2 : Value} {t B0 gt : Nat} {u2 : Value} {W : List Nat} {F : List Bool} {s : St} (h : MS w b base q c v1 v2 t B0 gt u2 W F s) : ∀ k, three t (.slice (some ⟨gt, 0, none⟩) s.2.length W.length) u2 k → B0 ≤ k := by
  intro k hk
  rcases hk with rfl | hk | hk
  · exact h.tB
  · exact (h.to.own1.lt k hk).1
  · exact (h.to.own2.lt k hk).1

/-- A word that is written anew. -/
theorem HAt.store {w : World} {b base q c g cap i x : Nat} {v2 : Value} {n : Nat} {W : List Nat} {F : List Bool} (h : HAt w b base q c (.slice (some ⟨g, 0, none⟩) n cap) v2 W F) :
    HAt (w.setCell ⟨g, i, none⟩ (.int .u64 (x : Int))) b base q c (.slice (some ⟨g, 0, none⟩) n cap) v2 (W.set i x) F := by
  have hn : n = W.length := by
    obtain ⟨o, k, e, _⟩ := own_slice h.own1
    injection e
  subst hn
  have hg : g ≠ b := fun e => h.ne1 (by rw [e]; rfl)
  refine ⟨?_, ?_, ?_⟩
  · rw [heap_setCell_other w ⟨g, i, none⟩ b _ (fun e => hg e.symm)]
    exact h.cell
  · have h1 := (h.own1.stored i (.int .u64 (x : Int))).1
    unfold OwnW
    rw [List.length_set]
    rw [show Ws (W.set i x) = (Ws W).set i (.int .u64 (x : Int)) by unfold Ws; rw [List.map_set]; rfl]
    exact h1
  · exact ownsRow_setCell_other h.own2 (fun e => h.ne12 g rfl e) _
theorem HAt.setOther {w : World} {b base q c g i : Nat} {v1 v2 u : Value} {W : List Nat} {F : List Bool} (h : HAt w b base q c v1 v2 W F) (hg : ¬ three b v1 v2 g) : HAt (w.setCell ⟨g, i, none⟩ u) b base q c v1 v2 W F := by
  refine ⟨?_, ?_, ?_⟩
  · rw [heap_setCell_other w ⟨g, i, none⟩ b _ (fun e => hg (.inl e.symm))]
    exact h.cell
  · exact ownsRow_setCell_other h.own1 (fun e => hg (.inr (.inl e))) _
  · exact ownsRow_setCell_other h.own2 (fun e => hg (.inr (.inr e))) _

/-- The blocks that one call of move may write. -/
def S2 (b : Nat) (v1 v2 : Value) (t gt : Nat) (u2 : Value) : Nat → Prop := fun k => three b v1 v2 k ∨ k = t ∨ k = gt ∨ u2.ownBlock = some k
theorem MS.s2 {w : World} {b base q c : Nat} {v1 v2 : Value} {t B0 gt : Nat} {u2 : Value} {W : List Nat} {F : List Bool} {s : St} (h : MS w b base q c v1 v2 t B0 gt u2 W F s) (k : Nat) (hk : S2 b v1 v2 t gt u2 k) : SS b v1 v2 B0 k := by
  rcases hk with hk | rfl | rfl | hk
  · exact .inl hk
  · exact .inr h.tB
  · exact .inr (h.toB k (.inr (.inl rfl)))
  · exact .inr (h.toB k (.inr (.inr hk)))
def MovePost (w w' : World) (b base q c : Nat) (v1 v2 : Value) (t B0 gt : Nat) (u2 : Value) (W : List Nat) (F : List Bool) (r : St × Nat) (e : Ending) : Prop :=
  e = .returned (.int .u64 (r.2 : Int)) ∧ ∃ u2', MS w' b base q c v1 v2 t B0 gt u2' W F r.1 ∧ Kept (S2 b v1 v2 t gt u2) w w'

set_option maxHeartbeats 2000000 in
set_option maxRecDepth 100000 in
theorem move_no (b base q c : Nat) (v1 v2 : Value) (t B0 gt : Nat) (u2 : Value) (W : List Nat) (F : List Bool) (s : St) (x : Nat) (w : World) (h : MS w b base q c v1 v2 t B0 gt u2 W F s) (hg : Good W F) (hx : x < 18446744073709551616) (ho : isObj W F x = false) :
    Calls Tryd.prog 81 #[.pointer (some ⟨b, 0, none⟩), .pointer (some ⟨t, 0, none⟩), .int .u64 (x : Int)] w fun e w' => MovePost w w' b base q c v1 v2 t B0 gt u2 W F (s, x) e := by
  have HO := isobject_t b base q c v1 v2 _ F x w h.h hx (by rw [fwd_length]; exact hg.len) (by rw [fwd_length]; have := hg.max; omega)
  rw [isObj_fwd, ho] at HO
  have H := Lib.hid HO
  have FIN : Hid (MovePost w w b base q c v1 v2 t B0 gt u2 W F (s, x) (.returned (.int .u64 (x : Int)))) := ⟨rfl, u2, h, Kept.refl _ _⟩
  clear HO h ho
  go_enter Tryd.func81, Tryd.ntmps81
  go_wp2_with fail
  refine H.out.mono ?_
  rintro e w' ⟨rfl, rfl⟩
  go_wp2_with fail
  go_ret
  exact FIN.out

set_option maxHeartbeats 2000000 in
set_option maxRecDepth 100000 in
theorem move_old (b base q c : Nat) (v1 v2 : Value) (t B0 gt : Nat) (u2 : Value) (W : List Nat) (F : List Bool) (s : St) (i j : Nat) (w : World) (h : MS w b base q c v1 v2 t B0 gt u2 W F s) (hg : Good W F) (hi : Ob W F i) (hj : look s.1 i = some j) :
    Calls Tryd.prog 81 #[.pointer (some ⟨b, 0, none⟩), .pointer (some ⟨t, 0, none⟩), .int .u64 ((2 * i : Nat) : Int)] w fun e w' => MovePost w w' b base q c v1 v2 t B0 gt u2 W F (s, 2 * j) e := by
  have hmax := hg.max
  have hfit := hi.fits
  have hpos := szX_pos (W.getD i 0)
  have HO := isobject_t b base q c v1 v2 _ F (2 * i) w h.h (by omega) (by rw [fwd_length]; exact hg.len) (by rw [fwd_length]; omega)
  have hob : isObj W F (2 * i) = true := isObj_iff.2 ⟨by omega, by omega, by rw [show 2 * i / 2 = i by omega]; exact hi.mark⟩
  rw [isObj_fwd, hob] at HO
  have H := Lib.hid HO
  have FIN : Hid (MovePost w w b base q c v1 v2 t B0 gt u2 W F (s, 2 * j) (.returned (.int .u64 ((2 * j : Nat) : Int)))) := ⟨rfl, u2, h, Kept.refl _ _⟩
  have hjl : j ≤ W.length := by
    obtain ⟨m, hm⟩ := List.getElem?_of_mem (look_some hj)
    have h1 := h.inv.pos m _ hm
    have h2 := h.inv.tot_le
    have h3 : tot W (s.1.take m) ≤ tot W s.1 := by
      conv => rhs; rw [← List.take_append_drop m s.1]
      simp only [tot, List.map_append, List.sum_append]
      omega
    simp only at h1
    omega
  have hmv := fwd_moved W s.1 h.inv.nodup i j (look_some hj) (by omega)
  obtain ⟨c0, c1, c2, c3⟩ := h.h.cells
  obtain ⟨g, cap, hv1, hcap⟩ : ∃ g cap, v1 = .slice (some ⟨g, 0, none⟩) W.length cap ∧ W.length ≤ cap := by
    rcases h.h.own1.2 with ⟨_, hn⟩ | ⟨g, cap, cur, e, _, _, hc, hm, _⟩
    · rw [fwd_length] at hn; omega
    · rw [fwd_length] at e hc
      exact ⟨g, cap, e, hc⟩
  have own1 := h.h.own1
  rw [hv1] at own1
  unfold OwnW at own1
  rw [fwd_length] at own1
  have hm : w.cell? ⟨g, i, none⟩ = some (.int .u64 ((j * 256 : Nat) : Int)) := by
    rw [own1.cellAt i (by omega)]
    simp only [Ws, List.getElem?_map, hmv]
    rfl
  obtain ⟨X, hX⟩ : ∃ X : Nat, j * 256 = X := ⟨_, rfl⟩
  rw [hX] at hm
  have HK : Hid (X % 256 = 0) := by show X % 256 = 0; omega
  have HS : Hid (X / 256 = j) := by show X / 256 = j; omega
  have hXlt : X < 18446744073709551616 := by omega
  have hX' : (X : Int) ≤ 18446744073709551615 := by omega
  have hi0 : (i : Int) < (W.length : Int) := by omega
  have hj0 : (j : Int) ≤ 10000000 := by omega
  have hdiv : (2 * (i : Int)) / 2 = (i : Int) := by omega
  have hmx : (W.length : Int) ≤ 10000000 := by omega
  clear HO h hob hmv own1 hX hj
  subst hv1
  go_enter Tryd.func81, Tryd.ntmps81
  go_wp2_with fail
  refine H.out.mono ?_
  rintro e w' ⟨rfl, rfl⟩
  go_wp2_with fail
  refine (kind_k X 0 _ hXlt HK).mono ?_
  rintro e w' ⟨rfl, rfl⟩
  go_wp2_with fail
  refine (size_k X j _ hXlt HS).mono ?_
  rintro e w' ⟨rfl, rfl⟩
  go_wp2_with fail
  go_ret
  have h := FIN.out
  rw [show ((2 * j : Nat) : Int) = 2 * (j : Int) by omega] at h
  exact h
end Go.Proofs.YtpmbdncackneoaaDoor
