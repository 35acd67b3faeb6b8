/- Clones; Copy, Words; the law's words and same. -/
import Derived.Test.YtkdhajiplonloaaHeaA
namespace Go.Proofs.Ytkdhajiplonloaa
open Go.RowKit HeaM

theorem RdV.slice {w : World} {v : Value} {xs : List Value} (h : RdV w v xs) : ∃ o c, v = .slice o xs.length c ∧ xs.length ≤ c ∧ c ≤ maxLen := by
  rcases h with ⟨rfl, rfl⟩ | ⟨a, c, rfl, h1, h2, _⟩
  · exact ⟨_, _, rfl, Nat.le_refl _, Nat.zero_le _⟩
  · exact ⟨_, _, rfl, h1, h2⟩

theorem eqNilW : ∀ (w : World) (a : Option Addr) (n c n' c' : Nat), (binOp .eql 29 (.slice a n c) (.slice none n' c')).run Try.prog w = .ok (.bool a.isNone) w :=
  fun w a n c n' c' => Lib.run_eql_slice_nil w _ _ a n c n' c' Try.underlying29
theorem eqNilF : ∀ (w : World) (a : Option Addr) (n c n' c' : Nat), (binOp .eql 61 (.slice a n c) (.slice none n' c')).run Try.prog w = .ok (.bool a.isNone) w :=
  fun w a n c n' c' => Lib.run_eql_slice_nil w _ _ a n c n' c' Try.underlying61

set_option maxHeartbeats 2000000 in
set_option maxRecDepth 100000 in
theorem cloneW (v : Value) (xs : List Value) (w : World) (h : RdV w v xs) (h1 : ∀ u ∈ xs, u.oneCell' = true) (hl : xs.length ≤ 1000000000) :
    Calls Try.prog 28 #[v] w fun e w' => ∃ v', e = .returned v' ∧ w'.ownsRow w.heap.size 37 1 v' xs.length xs ∧ Below w.heap.size w w' := by
  have q := eqNilW
  have h0 := h
  rcases h with ⟨rfl, rfl⟩ | ⟨a, c, rfl, hn, hm, hc⟩
  · go_enter Try.func28, Try.ntmps28
    go_wp2
    go_ret
    exact ⟨_, rfl, World.ownsRow_nil _ _ _ _, Below.refl _ _⟩
  · obtain ⟨v', w1, hr, ho, hg, _⟩ := append_one (ty := 29) (t := 29) wordInfo Try.underlying29 rfl (World.ownsRow_made w (size := 1) (base := w.heap.size) (e := 37) #[] 0 (Nat.le_refl _) (Nat.zero_le _) rfl)
      (RdV.below h0 ((Below.refl _ w).alloc (Nat.le_refl _) (.cells #[] 37))) h1 (by omega) (by omega) (by simp)
    have HR := Lib.hid hr
    have fin : w1.ownsRow w.heap.size 37 1 v' xs.length xs ∧ Below w.heap.size w w1 := by
      refine ⟨by simpa using ho, ((Below.refl _ w).alloc (Nat.le_refl _) _).grown hg (by simp) (by intro k hk; simp [Value.ownBlock] at hk; omega)⟩
    have FIN := Lib.hid fin
    clear hr ho hg fin hc h0 h1
    go_enter Try.func28, Try.ntmps28
    go_wp2_with (at_builtin; refine wpList_append_known rfl (.tmp 5) (.tmp 6) 29 29 (by rfl) _ _ _ (by rfl) (by rfl) HR.out ?_)
    go_ret
    exact ⟨v', rfl, FIN.out⟩
set_option maxHeartbeats 2000000 in
set_option maxRecDepth 100000 in
theorem words_t (b base q c : Nat) (v1 v2 : Value) (W : List Nat) (F : List Bool) (w : World) (h : HAt w b base q c v1 v2 W F) (hW : W.length ≤ 1000000000) :
    Calls Try.prog 12 #[.pointer (some ⟨b, 0, none⟩)] w fun e w' => ∃ v', e = .returned v' ∧ OwnW w' w.heap.size v' W ∧ Below w.heap.size w w' := by
  obtain ⟨c0, c1, c2, c3⟩ := h.cells
  have HC := Lib.hid (cloneW v1 (Ws W) w (RdV.of_own h.own1) (Ws_one W) (by rw [Ws_length]; exact hW))
  clear h
  go_enter Try.func12, Try.ntmps12
  go_wp2_with fail
  refine HC.out.mono ?_
  rintro e w1 ⟨v', rfl, ho, hb⟩
  rw [Ws_length] at ho
  have HO := Lib.hid ho
  have HB := Lib.hid hb
  clear ho hb
  go_wp2
  go_ret
  exact ⟨v', rfl, HO.out, HB.out⟩

theorem u64Info : (Try.prog.info? 36).map (fun i => (i.zero, i.size, i.bytes)) = some (some (.int .u64 0), 1, 8) := by kernel_rfl
abbrev OwnU (w : World) (base : Nat) (v : Value) (l : List Nat) : Prop := w.ownsRow base 36 1 v l.length (Ws l)

set_option maxHeartbeats 2000000 in
set_option maxRecDepth 100000 in
/-- The law's words: words as numbers. -/
theorem lwords_t (v : Value) (W : List Nat) (w : World) (h : RdW w v W) (hW : W.length ≤ 1000000000) :
    Calls Try.prog 7 #[v] w fun e w' => ∃ v', e = .returned v' ∧ OwnU w' w.heap.size v' W ∧ Below w.heap.size w w' := by
  have HR := Lib.hid h
  obtain ⟨o, c, hv, hc, hm⟩ := h.slice
  rw [Ws_length] at hv hc
  clear h
  subst hv
  have hW' : (W.length : Int) ≤ 1000000000 := by omega
  go_enter Try.func7, Try.ntmps7
  go_wp2
  go_loopw [3, 4] (fun u i wr => ∃ k : Nat, k ≤ W.length ∧ i = .int .i64 k ∧ OwnU wr w.heap.size u (W.take k) ∧ Below w.heap.size w wr) (fun _ i _ => W.length - (intOf i).toNat)
  case atStart => exact ⟨0, Nat.zero_le _, rfl, World.ownsRow_nil _ _ _ _, Below.refl _ _⟩
  case round =>
    obtain ⟨k, hk, rfl, hown, hb⟩ := hrel
    by_cases hlt : k < W.length
    · obtain ⟨a, hcell⟩ : ∃ a : Addr, o = some a ∧ wr.cell? (a.add k) = some (Wv W[k]) := by
        rcases HR.out with ⟨e, e2⟩ | ⟨a, c', e, _, _, hcl⟩
        · have : W = [] := by simpa [Ws] using e2
          rw [this] at hlt
          simp at hlt
        · have hcl' := hcl k (Wv W[k]) (by simp [Ws, hlt])
          injection e with e1 _ _
          exact ⟨a, e1, (hb.cell (World.block_lt_of_cell? w _ hcl')).trans hcl'⟩
      obtain ⟨ha, hcell⟩ := hcell
      subst ha
      have hlen : (W.take k).length = k := by rw [List.length_take]; omega
      unfold OwnU at hown
      rw [hlen] at hown
      obtain ⟨u2, w2, r2, o2, g2, a2⟩ := append_one (ty := 28) (t := 28) u64Info Try.underlying28 rfl (hown.alloc (.cells #[.int .u64 (W[k] : Int)] 36)) (RdV.lit wr (.int .u64 (W[k] : Int)) 36) (by intro u hu; simp at hu; subst hu; rfl) (by simp; omega) (by simp; omega) (by have := hb.size; simp; omega)
      have fin : OwnU w2 w.heap.size u2 (W.take (k + 1)) ∧ Below w.heap.size w w2 := by
        refine ⟨?_, (hb.alloc hb.size _).grown g2 (by have := hb.size; simp; omega) (fun j hj => (hown.lt j hj).1)⟩
        unfold OwnU
        rw [List.take_succ_eq_append_getElem hlt, List.length_append, hlen]
        rw [Ws_append]
        exact o2
      have FIN := Lib.hid fin
      have R2 := Lib.hid r2
      unfold Wv at hcell
      obtain ⟨ou, cu, hu, _⟩ := own_slice hown
      have hk0 : (k : Int) < (W.length : Int) := by omega
      clear r2 o2 g2 a2 fin hown hb hlen
      generalize W[k] = X at *
      clear hu
      go_wp2_with (at_builtin; refine wpList_append_known rfl (.tmp 11) (.tmp 16) 28 28 (by rfl) _ _ _ (by rfl) (by rfl) R2.out ?_)
      go_roundw
      case rel => exact ⟨k + 1, by omega, by go_num, FIN.out.1, FIN.out.2⟩
      case measure => simp [intOf]; omega
    · obtain rfl : k = W.length := by omega
      rw [List.take_length] at hown
      have HO := Lib.hid hown
      have HB := Lib.hid hb
      clear hown hb
      go_wp2
      go_ret
      exact ⟨_, rfl, HO.out, HB.out⟩

/-- Two slices of one length that read alike. -/
theorem RdV.at {w : World} {v : Value} {xs : List Value} (h : RdV w v xs) {k : Nat} {u : Value} (hk : xs[k]? = some u) : ∃ a : Addr, ∃ c, v = .slice (some a) xs.length c ∧ w.cell? (a.add k) = some u := by
  rcases h with ⟨rfl, rfl⟩ | ⟨a, c, rfl, _, _, hc⟩
  · simp at hk
  · exact ⟨a, c, rfl, hc k u hk⟩

set_option maxHeartbeats 2000000 in
set_option maxRecDepth 100000 in
/-- The law's same, of two lists that are one. -/
theorem same_yes (p q : Value) (l : List Nat) (w : World) (hp : RdW w p l) (hq : RdW w q l) (hl : l.length ≤ 1000000000) :
    Calls Try.prog 11 #[p, q] w fun e w' => e = .returned (.bool true) ∧ Below w.heap.size w w' := by
  have HP := Lib.hid hp
  have HQ := Lib.hid hq
  obtain ⟨o1, k1, hv1, _⟩ := hp.slice
  obtain ⟨o2, k2, hv2, _⟩ := hq.slice
  rw [Ws_length] at hv1 hv2
  clear hp hq
  subst hv1 hv2
  have hl' : (l.length : Int) ≤ 1000000000 := by omega
  have hne : ((l.length : Int) != (l.length : Int)) = false := by simp
  go_enter Try.func11, Try.ntmps11
  go_wp2
  go_loopw [5] (fun i wr => ∃ k : Nat, k ≤ l.length ∧ i = .int .i64 k ∧ Below w.heap.size w wr) (fun i _ => l.length - (intOf i).toNat)
  case atStart => exact ⟨0, Nat.zero_le _, rfl, Below.refl _ _⟩
  case round =>
    obtain ⟨k, hk, rfl, hb⟩ := hrel
    by_cases hlt : k < l.length
    · have hg : (Ws l)[k]? = some (.int .u64 (l[k] : Int)) := by simp [Ws, hlt, Wv]
      obtain ⟨a1, _, e1, hc1⟩ := HP.out.at hg
      obtain ⟨a2, _, e2, hc2⟩ := HQ.out.at hg
      simp only [Value.slice.injEq] at e1 e2
      obtain ⟨rfl, _⟩ := e1
      obtain ⟨rfl, _⟩ := e2
      have d1 := (hb.cell (World.block_lt_of_cell? w _ hc1)).trans hc1
      have d2 := (hb.cell (World.block_lt_of_cell? w _ hc2)).trans hc2
      have hk0 : (k : Int) < (l.length : Int) := by omega
      have hk1 : (k : Int) ≥ 0 := by omega
      have HB := Lib.hid hb
      clear hc1 hc2 hb hg
      generalize l[k] = X at *
      have hX : ((X : Int) != (X : Int)) = false := by simp
      go_wp2
      go_quiet (fail)
      go_wp2
      go_roundw
      case rel => exact ⟨k + 1, by omega, by go_num, HB.out.trans (below_drewN _ _ _)⟩
      case measure => simp [intOf]; omega
    · obtain rfl : k = l.length := by omega
      have HB := Lib.hid hb
      clear hb
      go_wp2
      go_ret
      exact ⟨rfl, HB.out⟩

/-- What Copy leaves: the heap, and another of its own blocks. -/
def CopyPost (w w' : World) (q c : Nat) (W : List Nat) (F : List Bool) (e : Ending) : Prop :=
  ∃ d u1 u2, e = .returned (.pointer (some ⟨d, 0, none⟩)) ∧ HAt w' d w.heap.size q c u1 u2 W F ∧ Below w.heap.size w w' ∧ ∀ k, three d u1 u2 k → w.heap.size ≤ k

end Go.Proofs.Ytkdhajiplonloaa
