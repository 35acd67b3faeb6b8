/- Kind, Part, SetPart, Text of an object. -/
import Derived.Test.YtkdhajiplonloaaHeaPk
namespace Go.Proofs.Ytkdhajiplonloaa
open Go.RowKit HeaM

set_option maxHeartbeats 1000000 in
set_option maxRecDepth 100000 in
theorem hkind_t (b base q c : Nat) (v1 v2 : Value) (W : List Nat) (F : List Bool) (i X k n N : Nat) (w : World) (h : HAt w b base q c v1 v2 W F) (hO : ObjAt W F i X k n N) (hF : F.length = W.length) (hW : W.length ≤ 1000000000) :
    Calls Try.prog 33 #[.pointer (some ⟨b, 0, none⟩), .int .u64 ((2 * i : Nat) : Int)] w fun e w' => e = .returned (.int .u8 (k : Int)) ∧ ∃ nq, w' = w.drewN nq := by
  have HO := Lib.hid (object_t b base q c v1 v2 W F i X k n N w h hO hF hW)
  have hpos := hO.pos
  have hX := hO.lt
  have hfit := hO.fits
  have hsz : Hid (X % 256 = k) := hO.kind
  have hcell : ∀ g cap, v1 = .slice (some ⟨g, 0, none⟩) W.length cap → w.cell? ⟨g, i, none⟩ = some (.int .u64 (X : Int)) := by
    intro g cap e
    have o1 := h.own1
    rw [e] at o1
    rw [World.ownsRow.cellAt o1 i (by omega)]
    simp only [Ws, List.getElem?_map, hO.get]
    rfl
  have HC := Lib.hid hcell
  clear h hO hcell
  go_enter Try.func33, Try.ntmps33
  go_wp2_with fail
  refine HO.out.mono ?_
  rintro e w' ⟨g, cap, nq, hv, hc1, hc2, rfl, rfl⟩
  have hm := (below_drewN w.heap.size nq w).cell (p := ⟨g, i, none⟩) (World.block_lt_of_cell? w _ (HC.out g cap hv))
  rw [HC.out g cap hv] at hm
  have HW : Hid (∃ nq', w.drewN nq = w.drewN nq') := ⟨nq, rfl⟩
  clear hv
  generalize w.drewN nq = w1 at *
  have hN : 0 < N := hpos
  have hNi : (0 : Int) < (N : Int) := by omega
  unfold maxLen at hc2
  go_wp2_with fail
  refine (kind_k X k _ hX hsz).mono ?_
  rintro e w' ⟨rfl, rfl⟩
  go_wp2_with fail
  go_ret
  exact ⟨rfl, HW.out⟩

/-- The parts of an object, as Part has them. -/
def prs (W : List Nat) (i : Nat) : List Nat := if W.getD i 0 % 256 ≠ 3 then rst W i else []

/-- parts, of any object. -/
theorem parts_any (b base q c : Nat) (v1 v2 : Value) (W : List Nat) (F : List Bool) (i : Nat) (w : World) (h : HAt w b base q c v1 v2 W F) (hg : Good W F) (hi : Ob W F i) :
    Calls Try.prog 29 #[.pointer (some ⟨b, 0, none⟩), .int .u64 ((2 * i : Nat) : Int)] w fun e w' => ∃ o c' nq, e = .returned (.slice o (prs W i).length c') ∧ c' ≤ maxLen ∧ (prs W i).length ≤ c' ∧ w' = w.drewN nq ∧ ∀ j, j < (prs W i).length → ∃ g cap, v1 = .slice (some ⟨g, 0, none⟩) W.length cap ∧ o = some ⟨g, i + 1, none⟩ ∧ i + 1 + j < W.length ∧ W.getD (i + 1 + j) 0 = (prs W i).getD j 0 := by
  have hmx := hg.max
  have hrl := rst_length hi
  have hfit := hi.fits
  by_cases h3 : W.getD i 0 % 256 = 3
  · have hO := hi.objAt
    rw [h3] at hO
    have hp : prs W i = [] := by unfold prs; rw [if_neg (fun h => h h3)]
    refine (parts_text b base q c v1 v2 W F i _ _ _ w h hO hg.len (by omega)).mono ?_
    rintro e w' ⟨rfl, nq, rfl⟩
    rw [hp]
    exact ⟨none, 0, nq, rfl, Nat.zero_le _, Nat.le_refl _, rfl, fun j hj => absurd hj (Nat.not_lt_zero _)⟩
  · have hp : prs W i = rst W i := by unfold prs; rw [if_pos h3]
    refine (parts_t b base q c v1 v2 W F i _ _ _ _ w h hi.objAt hg.len (by omega) h3).mono ?_
    rintro e w' ⟨g, cap, A, K, nq, hv, hA, hK, hKm, rfl, rfl⟩
    rw [hp, hrl]
    refine ⟨some A, K, nq, rfl, hKm, hK, rfl, fun j hj => ?_⟩
    rcases hA with hA | hA
    · omega
    · refine ⟨g, cap, hv, by rw [hA], by omega, ?_⟩
      rw [List.getD_eq_getElem?_getD (l := rst W i), List.getElem?_eq_getElem (by omega), ← rst_get (by omega)]
      rfl

set_option maxHeartbeats 1000000 in
set_option maxRecDepth 100000 in
theorem hpart_t (b base q c : Nat) (v1 v2 : Value) (W : List Nat) (F : List Bool) (i j : Nat) (w : World) (h : HAt w b base q c v1 v2 W F) (hg : Good W F) (hi : Ob W F i) (hj : j < (prs W i).length) :
    Calls Try.prog 35 #[.pointer (some ⟨b, 0, none⟩), .int .u64 ((2 * i : Nat) : Int), .int .i64 (j : Int)] w fun e w' => e = .returned (.tuple #[.int .u64 ((prs W i).getD j 0 : Int), .int .i64 0]) ∧ ∃ nq, w' = w.drewN nq := by
  have HP := Lib.hid (parts_any b base q c v1 v2 W F i w h hg hi)
  obtain ⟨y, hy⟩ : ∃ y, (prs W i).getD j 0 = y := ⟨_, rfl⟩
  rw [hy]
  have HY := Lib.hid hy
  have hcell : ∀ g cap, v1 = .slice (some ⟨g, 0, none⟩) W.length cap → i + 1 + j < W.length → w.cell? ⟨g, i + 1 + j, none⟩ = some (.int .u64 (W.getD (i + 1 + j) 0 : Int)) := by
    intro g cap e hlt
    have o1 := h.own1
    rw [e] at o1
    rw [World.ownsRow.cellAt o1 _ (by omega)]
    simp only [Ws, List.getElem?_map, List.getElem?_eq_getElem hlt, List.getD_eq_getElem?_getD]
    rfl
  have HC := Lib.hid hcell
  have hmx := hg.max
  have hfit := hi.fits
  have hpl : (prs W i).length ≤ 10000000 := by
    unfold prs
    have := rst_length hi
    split
    · omega
    · exact Nat.zero_le _
  have hji : (j : Int) < ((prs W i).length : Int) := by omega
  have hpi : ((prs W i).length : Int) ≤ 10000000 := by omega
  clear h hg hi hcell hy
  go_enter Try.func35, Try.ntmps35
  go_wp2_with fail
  refine HP.out.mono ?_
  rintro e w' ⟨o, c', nq, rfl, hc1, hc2, rfl, hx⟩
  obtain ⟨g, cap, hv, rfl, hlt, hgx⟩ := hx j hj
  have hc0 := HC.out g cap hv hlt
  rw [hgx, HY.out] at hc0
  have hm := (below_drewN w.heap.size nq w).cell (p := ⟨g, i + 1 + j, none⟩) (World.block_lt_of_cell? w _ hc0)
  rw [hc0] at hm
  have HW : Hid (∃ nq', w.drewN nq = w.drewN nq') := ⟨nq, rfl⟩
  clear hv hgx hx hc0
  generalize w.drewN nq = w1 at *
  generalize (prs W i).length = L at *
  unfold maxLen at hc1
  go_wp2_with fail
  go_ret2
  exact ⟨rfl, HW.out⟩
set_option maxHeartbeats 1000000 in
set_option maxRecDepth 100000 in
theorem hpart_no (b base q c : Nat) (v1 v2 : Value) (W : List Nat) (F : List Bool) (i j : Nat) (w : World) (h : HAt w b base q c v1 v2 W F) (hg : Good W F) (hi : Ob W F i) (hj : (prs W i).length ≤ j) (hj2 : j ≤ 10000000) :
    Calls Try.prog 35 #[.pointer (some ⟨b, 0, none⟩), .int .u64 ((2 * i : Nat) : Int), .int .i64 (j : Int)] w fun e w' => e = .returned (.tuple #[.int .u64 0, .int .i64 1]) ∧ ∃ nq, w' = w.drewN nq := by
  have HP := Lib.hid (parts_any b base q c v1 v2 W F i w h hg hi)
  have hji : ((prs W i).length : Int) ≤ (j : Int) := by omega
  have hpi : (j : Int) ≤ 10000000 := by omega
  clear h hg hi
  go_enter Try.func35, Try.ntmps35
  go_wp2_with fail
  refine HP.out.mono ?_
  rintro e w' ⟨o, c', nq, rfl, hc1, hc2, rfl, -⟩
  have HW : Hid (∃ nq', w.drewN nq = w.drewN nq') := ⟨nq, rfl⟩
  generalize w.drewN nq = w1 at *
  generalize (prs W i).length = L at *
  unfold maxLen at hc1
  go_wp2_with fail
  go_ret2
  exact ⟨rfl, HW.out⟩

set_option maxHeartbeats 1000000 in
set_option maxRecDepth 100000 in
theorem hset_no (b base q c : Nat) (v1 v2 : Value) (W : List Nat) (F : List Bool) (i j : Nat) (y : Int) (w : World) (h : HAt w b base q c v1 v2 W F) (hg : Good W F) (hi : Ob W F i) (hj : (prs W i).length ≤ j) (hj2 : j ≤ 10000000) :
    Calls Try.prog 15 #[.pointer (some ⟨b, 0, none⟩), .int .u64 ((2 * i : Nat) : Int), .int .i64 (j : Int), .int .u64 y] w fun e w' => e = .returned (.int .i64 1) ∧ ∃ nq, w' = w.drewN nq := by
  have HP := Lib.hid (parts_any b base q c v1 v2 W F i w h hg hi)
  have hji : ((prs W i).length : Int) ≤ (j : Int) := by omega
  have hpi : (j : Int) ≤ 10000000 := by omega
  clear h hg hi
  go_enter Try.func15, Try.ntmps15
  go_wp2_with fail
  refine HP.out.mono ?_
  rintro e w' ⟨o, c', nq, rfl, hc1, hc2, rfl, -⟩
  have HW : Hid (∃ nq', w.drewN nq = w.drewN nq') := ⟨nq, rfl⟩
  generalize w.drewN nq = w1 at *
  generalize (prs W i).length = L at *
  unfold maxLen at hc1
  go_wp2_with fail
  go_ret
  exact ⟨rfl, HW.out⟩
set_option maxHeartbeats 1000000 in
set_option maxRecDepth 100000 in
theorem hset_t (b base q c : Nat) (v1 v2 : Value) (W : List Nat) (F : List Bool) (i j y : Nat) (w : World) (h : HAt w b base q c v1 v2 W F) (hg : Good W F) (hi : Ob W F i) (hj : j < (prs W i).length) :
    Calls Try.prog 15 #[.pointer (some ⟨b, 0, none⟩), .int .u64 ((2 * i : Nat) : Int), .int .i64 (j : Int), .int .u64 (y : Int)] w fun e w' => e = .returned (.int .i64 0) ∧ HAt w' b base q c v1 v2 (W.set (i + 1 + j) y) F ∧ Kept (fun k => v1.ownBlock = some k) w w' := by
  have HP := Lib.hid (parts_any b base q c v1 v2 W F i w h hg hi)
  have H := Lib.hid h
  have hcell : ∀ g cap, v1 = .slice (some ⟨g, 0, none⟩) W.length cap → i + 1 + j < W.length → w.cell? ⟨g, i + 1 + j, none⟩ = some (.int .u64 (W.getD (i + 1 + j) 0 : Int)) ∧ w.frozen? ⟨g, i + 1 + j, none⟩ = false := by
    intro g cap e hlt
    have o1 := h.own1
    rw [e] at o1
    refine ⟨?_, o1.frozenAt _⟩
    rw [World.ownsRow.cellAt o1 _ (by omega)]
    simp only [Ws, List.getElem?_map, List.getElem?_eq_getElem hlt, List.getD_eq_getElem?_getD]
    rfl
  have HC := Lib.hid hcell
  have hmx := hg.max
  have hfit := hi.fits
  have hpl : (prs W i).length ≤ 10000000 := by
    unfold prs
    have := rst_length hi
    split
    · omega
    · exact Nat.zero_le _
  have hji : (j : Int) < ((prs W i).length : Int) := by omega
  have hpi : ((prs W i).length : Int) ≤ 10000000 := by omega
  clear h hg hi hcell
  go_enter Try.func15, Try.ntmps15
  go_wp2_with fail
  refine HP.out.mono ?_
  rintro e w' ⟨o, c', nq, rfl, hc1, hc2, rfl, hx⟩
  obtain ⟨g, cap, hv, rfl, hlt, -⟩ := hx j hj
  obtain ⟨hc0, hfr⟩ := HC.out g cap hv hlt
  have hlt0 := World.block_lt_of_cell? w _ hc0
  have hm := (below_drewN w.heap.size nq w).cell (p := ⟨g, i + 1 + j, none⟩) hlt0
  have hfm := (below_drewN w.heap.size nq w).frozen (p := ⟨g, i + 1 + j, none⟩) hlt0
  rw [hc0] at hm
  rw [hfr] at hfm
  have hfin : HAt ((w.drewN nq).setCell ⟨g, i + 1 + j, none⟩ (.int .u64 (y : Int))) b base q c v1 v2 (W.set (i + 1 + j) y) F ∧ Kept (fun k => v1.ownBlock = some k) w ((w.drewN nq).setCell ⟨g, i + 1 + j, none⟩ (.int .u64 (y : Int))) := by
    have h1 := H.out.drewN nq
    rw [hv] at h1 ⊢
    exact ⟨h1.store, Kept.setCell (S := fun k => (Value.slice (some (⟨g, 0, none⟩ : Addr)) W.length cap).ownBlock = some k) (p := ⟨g, i + 1 + j, none⟩) ((Kept.refl _ _).drewN nq) (.inl rfl) _⟩
  have FIN := Lib.hid hfin
  clear hv hx hc0 hfr hfin
  generalize w.drewN nq = w1 at *
  generalize (prs W i).length = L at *
  unfold maxLen at hc1
  go_wp2_with fail
  go_ret
  exact ⟨rfl, FIN.out⟩

set_option maxHeartbeats 1000000 in
set_option maxRecDepth 100000 in
theorem htext_no (b base q c : Nat) (v1 v2 : Value) (W : List Nat) (F : List Bool) (i X k n N : Nat) (w : World) (h : HAt w b base q c v1 v2 W F) (hO : ObjAt W F i X k n N) (hF : F.length = W.length) (hW : W.length ≤ 100000000) (hk : k ≠ 3) :
    Calls Try.prog 22 #[.pointer (some ⟨b, 0, none⟩), .int .u64 ((2 * i : Nat) : Int)] w fun e w' => e = .returned (.string ⟨#[]⟩) ∧ ∃ nq, w' = w.drewN nq := by
  have HO := Lib.hid (object_t b base q c v1 v2 W F i X k n N w h hO hF (by omega))
  have hpos := hO.pos
  have hX := hO.lt
  have hfit := hO.fits
  have hsz : Hid (X % 256 = k) := hO.kind
  have hk256 : k < 256 := by rw [← hO.kind]; omega
  have hcell : ∀ g cap, v1 = .slice (some ⟨g, 0, none⟩) W.length cap → w.cell? ⟨g, i, none⟩ = some (.int .u64 (X : Int)) := by
    intro g cap e
    have o1 := h.own1
    rw [e] at o1
    rw [World.ownsRow.cellAt o1 i (by omega)]
    simp only [Ws, List.getElem?_map, hO.get]
    rfl
  have HC := Lib.hid hcell
  clear h hO hcell
  have hk3 : ((k : Int) != 3) = true := by rw [bne_iff_ne]; omega
  go_enter Try.func22, Try.ntmps22
  go_wp2_with fail
  refine HO.out.mono ?_
  rintro e w' ⟨g, cap, nq, hv, hc1, hc2, rfl, rfl⟩
  have hm := (below_drewN w.heap.size nq w).cell (p := ⟨g, i, none⟩) (World.block_lt_of_cell? w _ (HC.out g cap hv))
  rw [HC.out g cap hv] at hm
  have HW : Hid (∃ nq', w.drewN nq = w.drewN nq') := ⟨nq, rfl⟩
  clear hv
  generalize w.drewN nq = w1 at *
  have hN : ((N : Int) == 0) = false := by rw [beq_eq_false_iff_ne]; omega
  have hNi : (0 : Int) < (N : Int) := by omega
  unfold maxLen at hc2
  go_wp2_with fail
  refine (kind_k X k _ hX hsz).mono ?_
  rintro e w' ⟨rfl, rfl⟩
  go_wp2_with fail
  go_ret
  exact ⟨rfl, HW.out⟩
end Go.Proofs.Ytkdhajiplonloaa
