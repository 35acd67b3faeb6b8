/- lay: an object behind all others. -/
import Derived.Test.YtpmbdncackneoaaDoorHeaH
namespace Go.Proofs.YtpmbdncackneoaaDoor
open Go.RowKit

/-- What a call that writes a heap leaves. -/
structure LPost (w w' : World) (b base q c : Nat) (v1 v2 v1' v2' : Value) (W' : List Nat) (F' : List Bool) : Prop where
  at_ : HAt w' b base q c v1' v2' W' F'
  new : ∀ k, three b v1' v2' k → three b v1 v2 k ∨ w.heap.size ≤ k
  kept : Kept (three b v1 v2) w w'

theorem setCell_two {w : World} {b : Nat} {x0 x1 x2 x3 u : Value} {t : TypeId} (h : w.heap[b]? = some (.cells #[x0, x1, x2, x3] t (0, 0))) : (w.setCell ⟨b, 2, none⟩ u).heap[b]? = some (.cells #[x0, x1, u, x3] t (0, 0)) := heap_setCell_same w b 2 _ t u h
theorem setCell_three {w : World} {b : Nat} {x0 x1 x2 x3 u : Value} {t : TypeId} (h : w.heap[b]? = some (.cells #[x0, x1, x2, x3] t (0, 0))) : (w.setCell ⟨b, 3, none⟩ u).heap[b]? = some (.cells #[x0, x1, x2, u] t (0, 0)) := heap_setCell_same w b 3 _ t u h
theorem setCell_one {w : World} {b : Nat} {x0 x1 x2 x3 u : Value} {t : TypeId} (h : w.heap[b]? = some (.cells #[x0, x1, x2, x3] t (0, 0))) : (w.setCell ⟨b, 1, none⟩ u).heap[b]? = some (.cells #[x0, u, x2, x3] t (0, 0)) := heap_setCell_same w b 1 _ t u h

theorem RdV.lit (w : World) (u : Value) (t : TypeId) : RdV (w.alloc (.cells #[u] t)) (.slice (some ⟨w.heap.size, 0, none⟩) 1 1) [u] :=
  .inr ⟨_, _, rfl, Nat.le_refl _, by unfold maxLen; omega, fun j x hx => by
    rw [add_none, Nat.zero_add, cell_of_row _ w.heap.size j _ _ (0, 0) (heap_alloc_new w _)]
    simpa using hx⟩

/-- What lay leaves. -/
def LayPost (w w' : World) (b base q c : Nat) (v1 v2 : Value) (W : List Nat) (F : List Bool) (hd : Nat) (R : List Nat) (e : Ending) : Prop :=
  e = .returned (.int .u64 ((2 * W.length : Nat) : Int)) ∧
      ∃ v1' v2', LPost w w' b base q c v1 v2 v1' v2' (W ++ hd :: R) (F ++ true :: List.replicate R.length false) ∧
        (∀ g cap, v1 = .slice (some ⟨g, 0, none⟩) W.length cap → W.length + (R.length + 1) ≤ cap → v1' = .slice (some ⟨g, 0, none⟩) (W.length + (R.length + 1)) cap)

set_option maxHeartbeats 4000000 in
set_option maxRecDepth 100000 in
theorem lay_t (b base q c : Nat) (v1 v2 : Value) (W : List Nat) (F : List Bool) (hd : Nat) (s : Value) (R : List Nat) (w : World) (h : HAt w b base q c v1 v2 W F) (hbase : base ≤ w.heap.size)
    (hsk : ∀ w', Kept (three b v1 v2) w w' → RdW w' s R) (hl : W.length + R.length ≤ 1000000000) (hF : F.length ≤ W.length) :
    Calls Tryd.prog 24 #[.pointer (some ⟨b, 0, none⟩), .int .u64 (hd : Int), s] w fun e w' => LayPost w w' b base q c v1 v2 W F hd R e := by
  obtain ⟨c0, c1, c2, c3⟩ := h.cells
  have hlt := h.lt
  have hs0 := hsk w (Kept.refl _ _)
  obtain ⟨o, k, rfl⟩ : ∃ o k, s = .slice o R.length k := by
    rcases hs0 with ⟨rfl, hr⟩ | ⟨a, k, rfl, _⟩
    · have : R = [] := by simpa [Ws] using hr
      subst this
      exact ⟨_, _, rfl⟩
    · exact ⟨some a, k, by rw [Ws_length]⟩
  obtain ⟨o1, k1, hv1, hk1, hm1⟩ := own_slice h.own1
  obtain ⟨o2, k2, hv2, _⟩ := own_slice h.own2
  -- the head behind the words
  obtain ⟨u1, w1, r1, ow1, g1, a1⟩ := append_one (ty := 52) (t := 52) wordInfo Tryd.underlying52 rfl (h.own1.alloc (.cells #[.int .u64 (hd : Int)] 31)) (RdV.lit w (.int .u64 (hd : Int)) 31) (by intro u hu; simp at hu; subst hu; rfl) (by simp; omega) (by simp; omega) (by simp; omega)
  have k1' : Kept (three b v1 v2) w w1 := ((Kept.refl _ w).alloc _).grown g1 (fun j hj => .inl (.inr (.inl hj)))
  simp only [List.length_singleton] at ow1
  -- the rest
  obtain ⟨u2, w2, r2, ow2, g2, a2⟩ := append_one (ty := 52) (t := 52) wordInfo Tryd.underlying52 rfl ow1 (hsk w1 k1') (Ws_one R) (by rw [Ws_length]; omega) (by rw [Ws_length]; omega) (by have := k1'.size; omega)
  obtain ⟨p2, d2, hu2, _⟩ := own_slice ow2
  have n1 : ∀ j, u1.ownBlock = some j → v1.ownBlock = some j ∨ w.heap.size ≤ j := by
    intro j hj
    rcases a1 with a1 | a1
    · exact .inl (by rw [← a1]; exact hj)
    · rw [a1] at hj; injection hj with hj; right; rw [← hj]; simp
  have n2 : ∀ j, u2.ownBlock = some j → v1.ownBlock = some j ∨ w.heap.size ≤ j := by
    intro j hj
    rcases a2 with a2 | a2
    · exact n1 j (by rw [← a2]; exact hj)
    · rw [a2] at hj; injection hj with hj; have := k1'.size; right; omega
  have k2' : Kept (three b v1 v2) w w2 := k1'.grown g2 (fun j hj => (n1 j hj).imp (fun e => .inr (.inl e)) id)
  have hB2 : w2.heap[b]? = some (.cells #[.int .i64 (q : Int), .int .i64 (c : Int), v1, v2] 72 (0, 0)) := by
    have e1 : w1.heap[b]? = w.heap[b]? := by
      rw [g1.block b (by simp; omega) (Ne.symm h.ne1)]
      exact Below.heap_alloc _ _ _ hlt
    rw [g2.block b (by have := k1'.size; omega) (by
      intro e
      rcases n1 b e.symm with e | e
      · exact h.ne1 e
      · omega), e1]
    exact h.cell
  have hbu2 : u2.ownBlock ≠ some b := fun e => (n2 b e).elim h.ne1 (by omega)
  have hB3 := setCell_two (u := u2) hB2
  have own2' : (w2.setCell ⟨b, 2, none⟩ u2).ownsRow base 4 1 v2 F.length (Fs F) := by
    refine ownsRow_setCell_other (own_kept (S := fun j => v1.ownBlock = some j ∨ w.heap.size ≤ j) h.own2 ⟨k2'.os, k2'.tape, k2'.output, k2'.size, fun j hj hs => ?_⟩ ?_) h.ne2 _
    · rw [g2.block j (by have := k1'.size; omega) (fun e => hs (n1 j e.symm)), g1.block j (by simp; omega) (fun e => hs (.inl e.symm))]
      exact Below.heap_alloc _ _ _ hj
    · intro j hj hs
      rcases hs with hs | hs
      · exact h.ne12 j hs hj
      · have := (h.own2.lt j hj).2; omega
  have own1' : (w2.setCell ⟨b, 2, none⟩ u2).ownsRow base 31 1 u2 (W ++ hd :: R).length (Ws (W ++ hd :: R)) := by
    have e : (W ++ hd :: R).length = W.length + 1 + (Ws R).length := by simp [Ws_length]; omega
    rw [e, show Ws (W ++ hd :: R) = Ws W ++ [.int .u64 (hd : Int)] ++ Ws R by simp [Ws, Wv]]
    exact ownsRow_setCell_other ow2 hbu2 _
  have kS : Kept (three b v1 v2) w (w2.setCell ⟨b, 2, none⟩ u2) := k2'.setCell (.inl (.inl rfl)) _
  have sS : (w2.setCell ⟨b, 2, none⟩ u2).heap.size = w2.heap.size := by simp
  -- the marks
  obtain ⟨u3, w3, r3, ow3, g3, a3⟩ := append_one (ty := 70) (t := 70) boolInfo Tryd.underlying70 rfl (own2'.alloc (.cells #[.bool true] 4)) (RdV.lit _ (.bool true) 4) (by intro u hu; simp at hu; subst hu; rfl) (by simp; omega) (by simp; omega) (by have := k2'.size; simp; omega)
  simp only [List.length_singleton] at ow3
  rw [sS] at r3
  have k3' : Kept (three b v1 v2) w w3 := (kS.alloc _).grown g3 (fun j hj => .inl (.inr (.inr hj)))
  obtain ⟨u4, w4, r4, ow4, g4, a4⟩ := append_zeros (ty := 70) (t := 70) (tn := 3) (k := R.length) boolInfo Tryd.underlying70 Tryd.underlying3 rfl rfl ow3 (by omega) (by omega) (by omega) (by have := k3'.size; omega)
  obtain ⟨p4, d4, hu4, _⟩ := own_slice ow4
  have n3 : ∀ j, u3.ownBlock = some j → v2.ownBlock = some j ∨ w2.heap.size ≤ j := by
    intro j hj
    rcases a3 with a3 | a3
    · exact .inl (by rw [← a3]; exact hj)
    · rw [a3] at hj; injection hj with hj; right; rw [← hj]; simp
  have n4 : ∀ j, u4.ownBlock = some j → v2.ownBlock = some j ∨ w2.heap.size ≤ j := by
    intro j hj
    rcases a4 with a4 | a4
    · exact n3 j (by rw [← a4]; exact hj)
    · rw [a4] at hj; injection hj with hj; right; have := g3.size; simp at this; omega
  have s2 := k2'.size
  have k4' : Kept (three b v1 v2) w w4 := k3'.grown g4 (fun j hj => (n3 j hj).elim (fun e => .inl (.inr (.inr e))) (fun e => .inr (by omega)))
  have far : ∀ j, j < w2.heap.size → v2.ownBlock ≠ some j → w4.heap[j]? = (w2.setCell ⟨b, 2, none⟩ u2).heap[j]? := by
    intro j hj hn
    rw [g4.block j (by have := g3.size; simp at this; omega) (fun e => (n3 j e.symm).elim hn (by omega)), g3.block j (by simp; omega) (fun e => hn e.symm)]
    exact Below.heap_alloc _ _ _ (by simp; omega)
  have hB4 : w4.heap[b]? = some (.cells #[.int .i64 (q : Int), .int .i64 (c : Int), u2, v2] 72 (0, 0)) := (far b (by omega) h.ne2).trans hB3
  have hbu4 : u4.ownBlock ≠ some b := fun e => (n4 b e).elim h.ne2 (by omega)
  have hB5 := setCell_three (u := u4) hB4
  have lt2 : ∀ j, u2.ownBlock = some j → j < w2.heap.size := fun j hj => by have := (own1'.lt j hj).2; simpa using this
  have ne24 : ∀ j, u2.ownBlock = some j → v2.ownBlock ≠ some j := fun j hj e => (n2 j hj).elim (fun e1 => h.ne12 j e1 e) (fun e1 => by have := (h.own2.lt j e).2; omega)
  have fin : LPost w (w4.setCell ⟨b, 3, none⟩ u4) b base q c v1 v2 u2 u4 (W ++ hd :: R) (F ++ true :: List.replicate R.length false) := by
    refine ⟨⟨hB5, ?_, ?_⟩, ?_, k4'.setCell (.inl (.inl rfl)) _⟩
    · refine ownsRow_setCell_other ⟨own1'.1, ?_⟩ hbu2 _
      rcases own1'.2 with e | ⟨g, cap, cur, e, hb, hg, rest⟩
      · exact .inl e
      · subst e
        exact .inr ⟨g, cap, cur, rfl, hb, (far g (lt2 g rfl) (ne24 g rfl)).trans hg, rest⟩
    · have e : (F ++ true :: List.replicate R.length false).length = F.length + 1 + R.length := by simp; omega
      unfold OwnF
      rw [e, show Fs (F ++ true :: List.replicate R.length false) = Fs F ++ [.bool true] ++ List.replicate R.length (.bool false) by simp [Fs]]
      exact ownsRow_setCell_other ow4 hbu4 _
    · intro j hj
      rcases hj with rfl | hj | hj
      · exact .inl (.inl rfl)
      · exact (n2 j hj).elim (fun e => .inl (.inr (.inl e))) .inr
      · exact (n4 j hj).elim (fun e => .inl (.inr (.inr e))) (fun e => .inr (by omega))
  have room : ∀ g cap, v1 = .slice (some ⟨g, 0, none⟩) W.length cap → W.length + (R.length + 1) ≤ cap → u2 = .slice (some ⟨g, 0, none⟩) (W.length + (R.length + 1)) cap := by
    intro g cap hg hc
    subst hg
    have e1 := append_fits wordInfo Tryd.underlying52 (h.own1.alloc (.cells #[.int .u64 (hd : Int)] 31)) (RdV.lit w (.int .u64 (hd : Int)) 31) (by intro u hu; simp at hu; subst hu; rfl) (by simp; omega) r1
    simp only [List.length_singleton] at e1
    subst e1
    have e2 := append_fits wordInfo Tryd.underlying52 ow1 (hsk w1 k1') (Ws_one R) (by rw [Ws_length]; omega) r2
    rw [e2, Ws_length, Nat.add_assoc, Nat.add_comm 1]
  have FIN := Lib.hid (And.intro fin room)
  have t2 := (cell_of_row w2 b 2 _ _ (0, 0) hB2)
  have f2 : w2.frozen? ⟨b, 2, none⟩ = false := frozen_of_row w2 b 2 _ _ hB2
  have t3 := (cell_of_row _ b 3 _ _ (0, 0) hB3)
  have t4 := (cell_of_row w4 b 3 _ _ (0, 0) hB4)
  have f4 : w4.frozen? ⟨b, 3, none⟩ = false := frozen_of_row w4 b 3 _ _ hB4
  have R1 := Lib.hid r1
  have R2 := Lib.hid r2
  have R3 := Lib.hid r3
  have R4 := Lib.hid r4
  have eL : IntKind.i64.wrap (2 * (W.length : Int)) = 2 * (W.length : Int) := IntWalk.i64_in _ (by omega)
  have hWl : (W.length : Int) ≤ 1000000000 := by omega
  have HV1 := Lib.hid hv1
  have HV2 := Lib.hid hv2
  have HU2 := Lib.hid hu2
  have HU4 := Lib.hid hu4
  clear fin room r1 r2 r3 r4 ow1 ow2 ow3 ow4 own1' own2' hB2 hB3 hB4 hB5 n1 n2 n3 n4 far lt2 ne24 a1 a2 a3 a4 g1 g2 g3 g4 k1' k2' k3' k4' kS hsk hs0 eL
  clear hv1 hv2 hu2 hu4
  obtain rfl := HV1.out
  obtain rfl := HV2.out
  obtain rfl := HU2.out
  obtain rfl := HU4.out
  simp only [List.getElem?_toArray, List.getElem?_cons_succ, List.getElem?_cons_zero] at t2 t3 t4
  go_enter Tryd.func24, Tryd.ntmps24
  go_wp2_with (at_builtin; first
    | refine wpList_append_known rfl (.tmp 19) (.tmp 21) 52 52 (by rfl) _ _ _ (by rfl) (by rfl) R1.out ?_
    | refine wpList_append_known rfl (.tmp 22) (.tmp 23) 52 52 (by rfl) _ _ _ (by rfl) (by rfl) R2.out ?_
    | refine wpList_append_known rfl (.tmp 31) (.tmp 32) 70 70 (by rfl) _ _ _ (by rfl) (by rfl) R3.out ?_
    | refine wpList_append_known rfl (.tmp 33) (.tmp 35) 70 3 (by rfl) _ _ _ (by rfl) (by rfl) R4.out ?_)
  go_ret
  exact ⟨by first | rfl | (congr 2; omega), _, _, FIN.out.1, FIN.out.2⟩
end Go.Proofs.YtpmbdncackneoaaDoor
