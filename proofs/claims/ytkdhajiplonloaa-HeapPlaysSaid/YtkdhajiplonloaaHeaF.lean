/- pointers, Len; roots that are a row of one's own. -/
import Derived.Test.YtkdhajiplonloaaHeaD
namespace Go.Proofs.Ytkdhajiplonloaa
open Go.RowKit HeaM

set_option maxHeartbeats 1000000 in
set_option maxRecDepth 100000 in
theorem hlen_t (b base q c : Nat) (v1 v2 : Value) (W : List Nat) (F : List Bool) (i X k n N : Nat) (w : World) (h : HAt w b base q c v1 v2 W F) (hO : ObjAt W F i X k n N) (hF : F.length = W.length) (hW : W.length ≤ 1000000000) :
    Calls Try.prog 34 #[.pointer (some ⟨b, 0, none⟩), .int .u64 ((2 * i : Nat) : Int)] w fun e w' => e = .returned (.int .i64 (n : Int)) ∧ ∃ nq, w' = w.drewN nq := by
  have HO := Lib.hid (object_t b base q c v1 v2 W F i X k n N w h hO hF hW)
  have hpos := hO.pos
  have hX := hO.lt
  have hfit := hO.fits
  have hsz : Hid (X / 256 = n) := hO.size
  have hcell : ∀ g cap, v1 = .slice (some ⟨g, 0, none⟩) W.length cap → w.cell? ⟨g, i, none⟩ = some (.int .u64 (X : Int)) := by
    intro g cap e
    have o1 := h.own1
    rw [e] at o1
    rw [World.ownsRow.cellAt o1 i (by omega)]
    simp only [Ws, List.getElem?_map, hO.get]
    rfl
  have HC := Lib.hid hcell
  clear h hO hcell
  go_enter Try.func34, Try.ntmps34
  go_wp2_with fail
  refine HO.out.mono ?_
  rintro e w' ⟨g, cap, nq, hv, hc1, hc2, rfl, rfl⟩
  have hm := (below_drewN w.heap.size nq w).cell (p := ⟨g, i, none⟩) (World.block_lt_of_cell? w _ (HC.out g cap hv))
  rw [HC.out g cap hv] at hm
  have HW : Hid (∃ nq', w.drewN nq = w.drewN nq') := ⟨nq, rfl⟩
  clear hv
  generalize w.drewN nq = w1 at *
  have hN : 0 < N := hpos
  have hNi : (0 : Int) < (N : Int) := by omega
  unfold maxLen at hc2
  go_wp2_with fail
  refine (size_k X n _ hX hsz).mono ?_
  rintro e w' ⟨rfl, rfl⟩
  go_wp2_with fail
  go_ret
  exact ⟨rfl, HW.out⟩

/-- The places of a row's cells. -/
def rsOf (v : Value) (n : Nat) : List Addr := match v with
  | .slice (some a) _ _ => (List.range n).map fun j => ⟨a.block, a.off + j, none⟩
  | _ => []
def ptrV (a : Addr) : Value := .pointer (some a)
theorem rsOf_some (g n cap m : Nat) : rsOf (.slice (some ⟨g, 0, none⟩) n cap) m = (List.range m).map fun j => ⟨g, j, none⟩ := by
  simp [rsOf]

set_option maxHeartbeats 2000000 in
set_option maxRecDepth 100000 in
theorem pointers_some (g n cap : Nat) (w : World) (hc : n ≤ cap) (_hm : cap ≤ maxLen) (hn : n ≤ 1000000) :
    Calls Try.prog 17 #[.slice (some ⟨g, 0, none⟩) n cap] w fun e w' => ∃ v', e = .returned v' ∧ w'.ownsRow w.heap.size 74 1 v' n (((List.range n).map fun j => (⟨g, j, none⟩ : Addr)).map ptrV) ∧ Below w.heap.size w w' := by
  have hn' : (n : Int) ≤ 1000000 := by omega
  go_enter Try.func17, Try.ntmps17
  go_wp2_with fail
  go_loopw [3, 4] (fun v i wr => ∃ k : Nat, k ≤ n ∧ i = .int .i64 k ∧ wr.ownsRow w.heap.size 74 1 v k (((List.range k).map fun j => (⟨g, j, none⟩ : Addr)).map ptrV) ∧ Below w.heap.size w wr) (fun _ i _ => n - (intOf i).toNat)
  case atStart => exact ⟨0, Nat.zero_le _, rfl, World.ownsRow_nil _ _ _ _, Below.refl _ _⟩
  case round =>
    obtain ⟨k, hk, rfl, hown, hb⟩ := hrel
    by_cases hlt : k < n
    · have hk0 : (k : Int) < (n : Int) := by omega
      obtain ⟨v', w2, r2, o2, g2, a2⟩ := append_one (ty := 54) (t := 54) ptrInfo Try.underlying54 rfl (hown.alloc (.cells #[.pointer (some ⟨g, k, none⟩)] 74)) (RdV.lit wr (.pointer (some ⟨g, k, none⟩)) 74) (by intro u hu; simp at hu; subst hu; rfl) (by simp; omega) (by simp; omega) (by have := hb.size; simp; omega)
      have hfin : w2.ownsRow w.heap.size 74 1 v' (k + 1) (((List.range (k + 1)).map fun j => (⟨g, j, none⟩ : Addr)).map ptrV) ∧ Below w.heap.size w w2 := by
        refine ⟨?_, (hb.alloc hb.size _).grown g2 (by have := hb.size; simp; omega) (fun j hj => (hown.lt j hj).1)⟩
        rw [List.range_succ, List.map_append, List.map_append]
        exact o2
      have FIN := Lib.hid hfin
      have R2 := Lib.hid r2
      clear hown hb r2 o2 g2 a2 hfin
      go_wp2_with (at_builtin; refine wpList_append_known rfl (.tmp 11) (.tmp 15) 54 54 (by rfl) _ _ _ (by rfl) (by rfl) R2.out ?_)
      go_roundw
      case rel => exact ⟨k + 1, by omega, by go_num, FIN.out⟩
      case measure => simp [intOf]; omega
    · obtain rfl : k = n := by omega
      have HO := Lib.hid hown
      have HB := Lib.hid hb
      clear hown hb
      go_wp2_with fail
      go_ret
      exact ⟨_, rfl, HO.out, HB.out⟩
set_option maxHeartbeats 1000000 in
theorem pointers_none (w : World) :
    Calls Try.prog 17 #[.slice none 0 0] w fun e w' => e = .returned (.slice none 0 0) ∧ w = w' := by
  go_enter Try.func17, Try.ntmps17
  go_wp2_with fail
  refine wp_loop_rounds 1 ?_
  rw [rounds_succ]
  go_wp2_with fail
  go_ret
  exact ⟨rfl, rfl⟩
/-- pointers of a row of the call's own. -/
theorem pointers_own (base n : Nat) (v : Value) (xs : List Value) (w : World) (h : w.ownsRow base 37 1 v n xs) (hn : n ≤ 1000000) :
    Calls Try.prog 17 #[v] w fun e w' => ∃ v', e = .returned v' ∧ w'.ownsRow w.heap.size 74 1 v' n ((rsOf v n).map ptrV) ∧ Below w.heap.size w w' := by
  rcases h.2 with ⟨rfl, rfl⟩ | ⟨g, cap, cur, rfl, _, _, hc, hm, _⟩
  · exact (pointers_none w).mono fun e w' ⟨he, hw⟩ => ⟨_, he, World.ownsRow_nil _ _ _ _, hw ▸ Below.refl _ _⟩
  · rw [rsOf_some]
    exact pointers_some g n cap w hc hm hn

theorem rsOf_mem {base n : Nat} {v : Value} {xs : List Value} {w : World} (h : w.ownsRow base 37 1 v n xs) {a : Addr} (ha : a ∈ rsOf v n) : v.ownBlock = some a.block ∧ a.spot = none ∧ a.off < n := by
  rcases h.2 with ⟨rfl, rfl⟩ | ⟨g, cap, cur, rfl, _, _, hc, hm, _⟩
  · simp [rsOf] at ha
  · rw [rsOf_some] at ha
    obtain ⟨j, hj, rfl⟩ := List.mem_map.1 ha
    rw [List.mem_range] at hj
    exact ⟨rfl, rfl, hj⟩
theorem rsOf_length {base n : Nat} {v : Value} {xs : List Value} {w : World} (h : w.ownsRow base 37 1 v n xs) : (rsOf v n).length = n := by
  rcases h.2 with ⟨rfl, rfl⟩ | ⟨g, cap, cur, rfl, _⟩
  · rfl
  · rw [rsOf_some]; simp
/-- Such roots are fit to be collected from. -/
theorem roots_own {base base' b q c n : Nat} {v v1 v2 rv : Value} {W : List Nat} {F : List Bool} {xs : List Nat} {w w' : World} (h : OwnW w base v xs) (hn : xs.length = n) (hH : HAt w b base' q c v1 v2 W F) (hd : ∀ j, v.ownBlock = some j → ¬ three b v1 v2 j) (hx : ∀ x ∈ xs, x < 18446744073709551616) (hn2 : n ≤ 1000000)
    (hr : w'.ownsRow w.heap.size 74 1 rv n ((rsOf v n).map ptrV)) (hb : Below w.heap.size w w') : RootsOK w' b v1 v2 rv (rsOf v n) xs := by
  subst hn
  have h' : OwnW w' base v xs := own_kept (S := fun k => w.heap.size ≤ k) h (Below.kept (n := w.heap.size) hb fun k h1 _ => h1) fun k hk hs => by
    have := (h.lt k hk).2; omega
  have hlen := rsOf_length h
  refine ⟨⟨RdV.of_own hr, hlen.symm, ?_, hx⟩, ?_, ?_, ?_, ?_, by omega⟩
  · intro j a x hj hx
    rcases h'.2 with ⟨rfl, hn⟩ | ⟨g, cap, cur, rfl, _, _, hc, hm, _⟩
    · simp [rsOf] at hj
    · rw [rsOf_some, List.getElem?_map] at hj
      have hjl : j < xs.length := (List.getElem?_eq_some_iff.1 hx).1
      rw [List.getElem?_range hjl] at hj
      simp at hj
      subst hj
      rw [World.ownsRow.cellAt h' j (by omega)]
      simp only [Ws, List.getElem?_map, hx]
      rfl
  · rcases h'.2 with ⟨rfl, hn⟩ | ⟨g, cap, cur, rfl, _, _, hc, hm, _⟩
    · exact List.nodup_nil
    · rw [rsOf_some]
      exact List.Pairwise.map _ (fun i j h e => h (by injection e)) List.nodup_range
  · intro a ha
    obtain ⟨h1, h2, h3⟩ := rsOf_mem h ha
    rcases h'.2 with ⟨rfl, hn⟩ | ⟨g, cap, cur, rfl, _, hg, hc, hm, _⟩
    · simp [Value.ownBlock] at h1
    · simp only [Value.ownBlock, Option.some.injEq] at h1
      subst h1
      have := frozen_of_row w' a.block a.off cur _ hg
      obtain ⟨ab, ao, asp⟩ := a
      simp only at h2
      subst h2
      exact this
  · intro a ha
    exact hd _ (rsOf_mem h ha).1
  · intro a m k e
    rcases hr.2 with ⟨rfl, _⟩ | ⟨g, cap, cur, rfl, hg, hgg, _⟩
    · cases e
    · simp only [Value.slice.injEq, Option.some.injEq] at e
      obtain ⟨rfl, -⟩ := e
      refine ⟨fun hs => ?_, lt_of_block hgg, fun r hr e => ?_⟩
      · have := hH.own_lt _ hs
        simp only at this
        omega
      · have := (h.lt _ (rsOf_mem h hr).1).2
        simp only at e
        omega

/-- The roots behind a collection. -/
theorem own_after {base n : Nat} {v : Value} {xs ys : List Nat} {w w' : World} (h : OwnW w base v xs) (hn : xs.length = n) (hy : ys.length = n) (hs : Shape (rsOf v n) w w') (h0 : ∀ k, v.ownBlock = some k → (∀ a ∈ rsOf v n, a.block ≠ k) → w'.heap[k]? = w.heap[k]?) (hc : ∀ (j : Nat) (a : Addr) (y : Nat), (rsOf v n)[j]? = some a → ys[j]? = some y → w'.cell? a = some (.int .u64 (y : Int))) : OwnW w' base v ys := by
  subst hn
  refine ⟨by simp [Ws_length], ?_⟩
  rcases h.2 with ⟨rfl, hn⟩ | ⟨g, cap, cur, rfl, hb, hg, hcap, hm, hsz, htk⟩
  · exact .inl ⟨rfl, by omega⟩
  · by_cases hz : xs.length = 0
    · refine .inr ⟨g, cap, cur, by rw [hy], hb, (h0 g rfl (fun a ha => ?_)).trans hg, by omega, hm, hsz, ?_⟩
      · rw [rsOf_some, hz] at ha
        simp at ha
      · rw [hy, hz, List.eq_nil_of_length_eq_zero (hy.trans hz)]
        rfl
    · rw [rsOf_some] at hs hc
      obtain ⟨cur', g1, g2, g3⟩ := hs g cur _ _ ⟨⟨g, 0, none⟩, List.mem_map.2 ⟨0, by rw [List.mem_range]; omega, rfl⟩, rfl⟩ hg
      refine .inr ⟨g, cap, cur', by rw [hy], hb, g1, by omega, hm, by omega, ?_⟩
      apply List.ext_getElem?
      intro j
      rw [List.getElem?_take]
      by_cases hj : j < ys.length * 1
      · rw [if_pos hj]
        have hjn : j < xs.length := by omega
        have h1 := hc j ⟨g, j, none⟩ (ys[j]'(by omega)) (by rw [List.getElem?_map, List.getElem?_range hjn]; rfl) (List.getElem?_eq_getElem (by omega))
        rw [cell_of_row w' g j cur' _ _ g1] at h1
        rw [Array.getElem?_toList, h1]
        simp only [Ws, List.getElem?_map]
        rw [List.getElem?_eq_getElem (by omega)]
        rfl
      · rw [if_neg hj]
        symm
        rw [List.getElem?_eq_none_iff, Ws_length]
        omega
end Go.Proofs.Ytkdhajiplonloaa
