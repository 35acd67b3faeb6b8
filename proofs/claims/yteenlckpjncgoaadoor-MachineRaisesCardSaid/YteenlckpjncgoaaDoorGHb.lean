/- HeaA, HeaC, in one text. -/
import Derived.Test.YteenlckpjncgoaaDoorHeaR

namespace Go.Proofs.YteenlckpjncgoaaDoor
open Go.RowKit HeaM

theorem txt_put (A Z : List Nat) (X : Nat) (l : List UInt8) : txt (A ++ X :: (pk l ++ Z)) A.length l.length = l := by
  apply List.ext_getElem (by rw [txt_length])
  intro j h1 h2
  simp only [txt, List.getElem_map, List.getElem_range]
  have hw : j / 8 < nw l.length := by unfold nw; omega
  have e : (A ++ X :: (pk l ++ Z)).getD (A.length + (1 + j / 8)) 0 = wd l l.length (j / 8) := by
    rw [List.getD_eq_getElem?_getD, List.getElem?_append_right (by omega), show A.length + (1 + j / 8) - A.length = j / 8 + 1 by omega, List.getElem?_cons_succ, List.getElem?_append_left (by rw [pk_length]; exact hw)]
    unfold pk
    rw [pkTo_get l _ _ hw]
    rfl
  rw [e]
  apply UInt8.toNat_inj.1
  rw [UInt8.toNat_ofNat']
  exact wd_byte l j h2

theorem objAt_put (A Z : List Nat) (FA FZ : List Bool) (l : List UInt8) (hF : FA.length = A.length) (hl : l.length ≤ 1000000) :
    ObjAt (A ++ (l.length * 256 + 3) :: (pk l ++ Z)) (FA ++ true :: (List.replicate (nw l.length) false ++ FZ)) A.length (l.length * 256 + 3) 3 l.length (need 3 l.length) where
  mark := by rw [← hF, List.getElem?_append_right (Nat.le_refl _)]; simp
  get := by rw [List.getElem?_append_right (Nat.le_refl _)]; simp
  lt := by omega
  kind := by omega
  size := by omega
  need := rfl
  fits := by
    show A.length + (1 + (l.length + 7) / 8) ≤ _
    simp only [List.length_append, List.length_cons, pk_length]
    unfold nw
    omega
theorem pk_lt (l : List UInt8) : ∀ x ∈ pk l, x < 18446744073709551616 := by
  intro x hx
  simp only [pk, pkTo, List.mem_map] at hx
  obtain ⟨i, _, rfl⟩ := hx
  exact wd_lt _ _ _

/-- Text of what was put at the place A.length. -/
theorem text_put (b base q c : Nat) (v1 v2 : Value) (A Z : List Nat) (FA FZ : List Bool) (l : List UInt8) (w : World) (h : HAt w b base q c v1 v2 (A ++ (l.length * 256 + 3) :: (pk l ++ Z)) (FA ++ true :: (List.replicate (nw l.length) false ++ FZ))) (hF : FA.length = A.length) (hZ : FZ.length = Z.length) (hl : l.length ≤ 1000000) (hW : A.length + Z.length ≤ 10000000)
    (hA : ∀ x ∈ A, x < 18446744073709551616) (hZl : ∀ x ∈ Z, x < 18446744073709551616) :
    Calls Tryd.prog 10 #[.pointer (some ⟨b, 0, none⟩), .int .u64 ((2 * A.length : Nat) : Int)] w fun e w' => e = .returned (S l) ∧ Below w.heap.size w w' := by
  have hn : nw l.length ≤ 1000000 := by unfold nw; omega
  have h1 := text_t b base q c v1 v2 _ _ A.length _ l.length _ w h (objAt_put A Z FA FZ l hF hl) (by simp [pk_length, hF, hZ]) (by simp only [List.length_append, List.length_cons, pk_length]; omega) (by
    intro x hx
    simp only [List.mem_append, List.mem_cons] at hx
    rcases hx with hx | rfl | hx | hx
    · exact hA x hx
    · omega
    · exact pk_lt l x hx
    · exact hZl x hx)
  rw [txt_put] at h1
  exact h1

end Go.Proofs.YteenlckpjncgoaaDoor

namespace Go.Proofs.YteenlckpjncgoaaDoor
open Go.RowKit HeaM

theorem RdV.slice {w : World} {v : Value} {xs : List Value} (h : RdV w v xs) : ∃ o c, v = .slice o xs.length c ∧ xs.length ≤ c ∧ c ≤ maxLen := by
  rcases h with ⟨rfl, rfl⟩ | ⟨a, c, rfl, h1, h2, _⟩
  · exact ⟨_, _, rfl, Nat.le_refl _, Nat.zero_le _⟩
  · exact ⟨_, _, rfl, h1, h2⟩

theorem eqNilW : ∀ (w : World) (a : Option Addr) (n c n' c' : Nat), (binOp .eql 54 (.slice a n c) (.slice none n' c')).run Tryd.prog w = .ok (.bool a.isNone) w :=
  fun w a n c n' c' => Lib.run_eql_slice_nil w _ _ a n c n' c' Tryd.underlying54
theorem eqNilF : ∀ (w : World) (a : Option Addr) (n c n' c' : Nat), (binOp .eql 79 (.slice a n c) (.slice none n' c')).run Tryd.prog w = .ok (.bool a.isNone) w :=
  fun w a n c n' c' => Lib.run_eql_slice_nil w _ _ a n c n' c' Tryd.underlying79

set_option maxHeartbeats 2000000 in
set_option maxRecDepth 100000 in
theorem cloneW (v : Value) (xs : List Value) (w : World) (h : RdV w v xs) (h1 : ∀ u ∈ xs, u.oneCell' = true) (hl : xs.length ≤ 1000000000) :
    Calls Tryd.prog 28 #[v] w fun e w' => ∃ v', e = .returned v' ∧ w'.ownsRow w.heap.size 25 1 v' xs.length xs ∧ Below w.heap.size w w' := by
  have q := eqNilW
  have h0 := h
  rcases h with ⟨rfl, rfl⟩ | ⟨a, c, rfl, hn, hm, hc⟩
  · go_enter Tryd.func28, Tryd.ntmps28
    go_wp2
    go_ret
    exact ⟨_, rfl, World.ownsRow_nil _ _ _ _, Below.refl _ _⟩
  · obtain ⟨v', w1, hr, ho, hg, _⟩ := append_one (ty := 54) (t := 54) wordInfo Tryd.underlying54 rfl (World.ownsRow_made w (size := 1) (base := w.heap.size) (e := 25) #[] 0 (Nat.le_refl _) (Nat.zero_le _) rfl)
      (RdV.below h0 ((Below.refl _ w).alloc (Nat.le_refl _) (.cells #[] 25))) h1 (by omega) (by omega) (by simp)
    have HR := Lib.hid hr
    have fin : w1.ownsRow w.heap.size 25 1 v' xs.length xs ∧ Below w.heap.size w w1 := by
      refine ⟨by simpa using ho, ((Below.refl _ w).alloc (Nat.le_refl _) _).grown hg (by simp) (by intro k hk; simp [Value.ownBlock] at hk; omega)⟩
    have FIN := Lib.hid fin
    clear hr ho hg fin hc h0 h1
    go_enter Tryd.func28, Tryd.ntmps28
    go_wp2_with (at_builtin; refine wpList_append_known rfl (.tmp 5) (.tmp 6) 54 54 (by rfl) _ _ _ (by rfl) (by rfl) HR.out ?_)
    go_ret
    exact ⟨v', rfl, FIN.out⟩
set_option maxHeartbeats 2000000 in
set_option maxRecDepth 100000 in
theorem cloneF (v : Value) (xs : List Value) (w : World) (h : RdV w v xs) (h1 : ∀ u ∈ xs, u.oneCell' = true) (hl : xs.length ≤ 1000000000) :
    Calls Tryd.prog 40 #[v] w fun e w' => ∃ v', e = .returned v' ∧ w'.ownsRow w.heap.size 4 1 v' xs.length xs ∧ Below w.heap.size w w' := by
  have q := eqNilF
  have h0 := h
  rcases h with ⟨rfl, rfl⟩ | ⟨a, c, rfl, hn, hm, hc⟩
  · go_enter Tryd.func40, Tryd.ntmps40
    go_wp2
    go_ret
    exact ⟨_, rfl, World.ownsRow_nil _ _ _ _, Below.refl _ _⟩
  · obtain ⟨v', w1, hr, ho, hg, _⟩ := append_one (ty := 79) (t := 79) boolInfo Tryd.underlying79 rfl (World.ownsRow_made w (size := 1) (base := w.heap.size) (e := 4) #[] 0 (Nat.le_refl _) (Nat.zero_le _) rfl)
      (RdV.below h0 ((Below.refl _ w).alloc (Nat.le_refl _) (.cells #[] 4))) h1 (by omega) (by omega) (by simp)
    have HR := Lib.hid hr
    have fin : w1.ownsRow w.heap.size 4 1 v' xs.length xs ∧ Below w.heap.size w w1 := by
      refine ⟨by simpa using ho, ((Below.refl _ w).alloc (Nat.le_refl _) _).grown hg (by simp) (by intro k hk; simp [Value.ownBlock] at hk; omega)⟩
    have FIN := Lib.hid fin
    clear hr ho hg fin hc h0 h1
    go_enter Tryd.func40, Tryd.ntmps40
    go_wp2_with (at_builtin; refine wpList_append_known rfl (.tmp 5) (.tmp 6) 79 79 (by rfl) _ _ _ (by rfl) (by rfl) HR.out ?_)
    go_ret
    exact ⟨v', rfl, FIN.out⟩

theorem u64Info : (Tryd.prog.info? 24).map (fun i => (i.zero, i.size, i.bytes)) = some (some (.int .u64 0), 1, 8) := by kernel_rfl
abbrev OwnU (w : World) (base : Nat) (v : Value) (l : List Nat) : Prop := w.ownsRow base 24 1 v l.length (Ws l)

/-- Two slices of one length that read alike. -/
theorem RdV.at {w : World} {v : Value} {xs : List Value} (h : RdV w v xs) {k : Nat} {u : Value} (hk : xs[k]? = some u) : ∃ a : Addr, ∃ c, v = .slice (some a) xs.length c ∧ w.cell? (a.add k) = some u := by
  rcases h with ⟨rfl, rfl⟩ | ⟨a, c, rfl, _, _, hc⟩
  · simp at hk
  · exact ⟨a, c, rfl, hc k u hk⟩

/-- What Copy leaves: the heap, and another of its own blocks. -/
def CopyPost (w w' : World) (q c : Nat) (W : List Nat) (F : List Bool) (e : Ending) : Prop :=
  ∃ d u1 u2, e = .returned (.pointer (some ⟨d, 0, none⟩)) ∧ HAt w' d w.heap.size q c u1 u2 W F ∧ Below w.heap.size w w' ∧ ∀ k, three d u1 u2 k → w.heap.size ≤ k

set_option maxHeartbeats 4000000 in
set_option maxRecDepth 100000 in
theorem copy_t (b base q c : Nat) (v1 v2 : Value) (W : List Nat) (F : List Bool) (w : World) (h : HAt w b base q c v1 v2 W F) (hW : W.length ≤ 1000000000) (hF : F.length = W.length) :
    Calls Tryd.prog 27 #[.pointer (some ⟨b, 0, none⟩)] w fun e w' => CopyPost w w' q c W F e := by
  obtain ⟨c0, c1, c2, c3⟩ := h.cells
  have h1 : ∀ W1 : World, Below w.heap.size w W1 → Calls Tryd.prog 28 #[v1] W1 fun e w' => ∃ v', e = .returned v' ∧ OwnW w' W1.heap.size v' W ∧ Below W1.heap.size W1 w' := fun W1 hb => by
    have := cloneW v1 (Ws W) W1 (RdV.below (RdV.of_own h.own1) hb) (Ws_one W) (by rw [Ws_length]; exact hW)
    rw [Ws_length] at this
    exact this
  have h2 : ∀ W1 : World, Below w.heap.size w W1 → Calls Tryd.prog 40 #[v2] W1 fun e w' => ∃ v', e = .returned v' ∧ OwnF w' W1.heap.size v' F ∧ Below W1.heap.size W1 w' := fun W1 hb => by
    have := cloneF v2 (Fs F) W1 (RdV.below (RdV.of_own h.own2) hb) (Fs_one F) (by rw [Fs_length]; omega)
    rw [Fs_length] at this
    exact this
  have H1 := Lib.hid h1
  have H2 := Lib.hid h2
  have hlt := h.lt
  clear h h1 h2 hF
  go_enter Tryd.func27, Tryd.ntmps27
  go_wp2_with fail
  go_region_held3 (fun w' => w'.cell? ⟨b, 0, none⟩ = some (.int .i64 (q : Int)) ∧ w'.cell? ⟨b, 1, none⟩ = some (.int .i64 (c : Int)) ∧ w'.cell? ⟨b, 2, none⟩ = some v1 ∧ w'.cell? ⟨b, 3, none⟩ = some v2) (go_keep)
    (first
      | (go_at_call 28; refine (H1.out _ (by first | exact Below.refl _ _ | exact (Below.refl _ _).drew)).mono ?_; rintro e wa ⟨u1, rfl, ho1, hb1⟩; obtain ⟨p1, z1, rfl, -⟩ := own_slice ho1; have d0 := (hb1.cell (p := ⟨b, 0, none⟩) hlt).trans c0; have d1 := (hb1.cell (p := ⟨b, 1, none⟩) hlt).trans c1; have d2 := (hb1.cell (p := ⟨b, 2, none⟩) hlt).trans c2; have d3 := (hb1.cell (p := ⟨b, 3, none⟩) hlt).trans c3; have HB1 : Hid (Below w.heap.size w wa) := ((Below.refl _ w).drew).trans hb1; have HO1 := Lib.hid ho1; clear ho1 hb1)
      | (go_at_call 40; refine (H2.out _ HB1.out).mono ?_; rintro e wb ⟨u2, rfl, ho2, hb2⟩; obtain ⟨p2, z2, rfl, -⟩ := own_slice ho2; have d0 := (hb2.cell (p := ⟨b, 0, none⟩) (by have := HB1.out.size; simp; omega)).trans d0; have d1 := (hb2.cell (p := ⟨b, 1, none⟩) (by have := HB1.out.size; simp; omega)).trans d1; have d2 := (hb2.cell (p := ⟨b, 2, none⟩) (by have := HB1.out.size; simp; omega)).trans d2; have d3 := (hb2.cell (p := ⟨b, 3, none⟩) (by have := HB1.out.size; simp; omega)).trans d3; have HB2 := Lib.hid hb2; have HO2 := Lib.hid ho2; clear ho2 hb2))
  go_wp2
  go_ret
  have s1 := HB1.out.size
  have s2 := HB2.out.size
  have hbw : Below w.heap.size w wb := HB1.out.trans (HB2.out.mono s1)
  refine ⟨wb.heap.size, _, _, rfl, ⟨heap_alloc_new wb _, (own_kept (S := fun k => wa.heap.size ≤ k) HO1.out (Below.kept HB2.out fun _ h _ => h) fun k hk hs => by have := (HO1.out.lt k hk).2; omega).alloc _, (own_base HO2.out s1).alloc _⟩, hbw.alloc (by omega) _, ?_⟩
  intro k hk
  rcases hk with rfl | hk | hk
  · omega
  · exact (HO1.out.lt k hk).1
  · exact Nat.le_trans s1 (HO2.out.lt k hk).1
end Go.Proofs.YteenlckpjncgoaaDoor
