/- Clones; Copy, Words; the law's words and same. -/
import Derived.Test.YtpmbdncackneoaaDoorHeaA
namespace Go.Proofs.YtpmbdncackneoaaDoor
open Go.RowKit HeaM

theorem RdV.slice {w : World} {v : Value} {xs : List Value} (h : RdV w v xs) : ∃ o c, v = .slice o xs.length c ∧ xs.length ≤ c ∧ c ≤ maxLen := by
  rcases h with ⟨rfl, rfl⟩ | ⟨a, c, rfl, h1, h2, _⟩
  · exact ⟨_, _, rfl, Nat.le_refl _, Nat.zero_le _⟩
  · exact ⟨_, _, rfl, h1, h2⟩

theorem eqNilW : ∀ (w : World) (a : Option Addr) (n c n' c' : Nat), (binOp .eql 52 (.slice a n c) (.slice none n' c')).run Tryd.prog w = .ok (.bool a.isNone) w :=
  fun w a n c n' c' => Lib.run_eql_slice_nil w _ _ a n c n' c' Tryd.underlying52
theorem eqNilF : ∀ (w : World) (a : Option Addr) (n c n' c' : Nat), (binOp .eql 70 (.slice a n c) (.slice none n' c')).run Tryd.prog w = .ok (.bool a.isNone) w :=
  fun w a n c n' c' => Lib.run_eql_slice_nil w _ _ a n c n' c' Tryd.underlying70

set_option maxHeartbeats 2000000 in
set_option maxRecDepth 100000 in
theorem cloneW (v : Value) (xs : List Value) (w : World) (h : RdV w v xs) (h1 : ∀ u ∈ xs, u.oneCell' = true) (hl : xs.length ≤ 1000000000) :
    Calls Tryd.prog 18 #[v] w fun e w' => ∃ v', e = .returned v' ∧ w'.ownsRow w.heap.size 31 1 v' xs.length xs ∧ Below w.heap.size w w' := by
  have q := eqNilW
  have h0 := h
  rcases h with ⟨rfl, rfl⟩ | ⟨a, c, rfl, hn, hm, hc⟩
  · go_enter Tryd.func18, Tryd.ntmps18
    go_wp2
    go_ret
    exact ⟨_, rfl, World.ownsRow_nil _ _ _ _, Below.refl _ _⟩
  · obtain ⟨v', w1, hr, ho, hg, _⟩ := append_one (ty := 52) (t := 52) wordInfo Tryd.underlying52 rfl (World.ownsRow_made w (size := 1) (base := w.heap.size) (e := 31) #[] 0 (Nat.le_refl _) (Nat.zero_le _) rfl)
      (RdV.below h0 ((Below.refl _ w).alloc (Nat.le_refl _) (.cells #[] 31))) h1 (by omega) (by omega) (by simp)
    have HR := Lib.hid hr
    have fin : w1.ownsRow w.heap.size 31 1 v' xs.length xs ∧ Below w.heap.size w w1 := by
      refine ⟨by simpa using ho, ((Below.refl _ w).alloc (Nat.le_refl _) _).grown hg (by simp) (by intro k hk; simp [Value.ownBlock] at hk; omega)⟩
    have FIN := Lib.hid fin
    clear hr ho hg fin hc h0 h1
    go_enter Tryd.func18, Tryd.ntmps18
    go_wp2_with (at_builtin; refine wpList_append_known rfl (.tmp 5) (.tmp 6) 52 52 (by rfl) _ _ _ (by rfl) (by rfl) HR.out ?_)
    go_ret
    exact ⟨v', rfl, FIN.out⟩
set_option maxHeartbeats 2000000 in
set_option maxRecDepth 100000 in
theorem cloneF (v : Value) (xs : List Value) (w : World) (h : RdV w v xs) (h1 : ∀ u ∈ xs, u.oneCell' = true) (hl : xs.length ≤ 1000000000) :
    Calls Tryd.prog 29 #[v] w fun e w' => ∃ v', e = .returned v' ∧ w'.ownsRow w.heap.size 4 1 v' xs.length xs ∧ Below w.heap.size w w' := by
  have q := eqNilF
  have h0 := h
  rcases h with ⟨rfl, rfl⟩ | ⟨a, c, rfl, hn, hm, hc⟩
  · go_enter Tryd.func29, Tryd.ntmps29
    go_wp2
    go_ret
    exact ⟨_, rfl, World.ownsRow_nil _ _ _ _, Below.refl _ _⟩
  · obtain ⟨v', w1, hr, ho, hg, _⟩ := append_one (ty := 70) (t := 70) boolInfo Tryd.underlying70 rfl (World.ownsRow_made w (size := 1) (base := w.heap.size) (e := 4) #[] 0 (Nat.le_refl _) (Nat.zero_le _) rfl)
      (RdV.below h0 ((Below.refl _ w).alloc (Nat.le_refl _) (.cells #[] 4))) h1 (by omega) (by omega) (by simp)
    have HR := Lib.hid hr
    have fin : w1.ownsRow w.heap.size 4 1 v' xs.length xs ∧ Below w.heap.size w w1 := by
      refine ⟨by simpa using ho, ((Below.refl _ w).alloc (Nat.le_refl _) _).grown hg (by simp) (by intro k hk; simp [Value.ownBlock] at hk; omega)⟩
    have FIN := Lib.hid fin
    clear hr ho hg fin hc h0 h1
    go_enter Tryd.func29, Tryd.ntmps29
    go_wp2_with (at_builtin; refine wpList_append_known rfl (.tmp 5) (.tmp 6) 70 70 (by rfl) _ _ _ (by rfl) (by rfl) HR.out ?_)
    go_ret
    exact ⟨v', rfl, FIN.out⟩

theorem u64Info : (Tryd.prog.info? 30).map (fun i => (i.zero, i.size, i.bytes)) = some (some (.int .u64 0), 1, 8) := by kernel_rfl
abbrev OwnU (w : World) (base : Nat) (v : Value) (l : List Nat) : Prop := w.ownsRow base 30 1 v l.length (Ws l)

/-- Two slices of one length that read alike. -/
theorem RdV.at {w : World} {v : Value} {xs : List Value} (h : RdV w v xs) {k : Nat} {u : Value} (hk : xs[k]? = some u) : ∃ a : Addr, ∃ c, v = .slice (some a) xs.length c ∧ w.cell? (a.add k) = some u := by
  rcases h with ⟨rfl, rfl⟩ | ⟨a, c, rfl, _, _, hc⟩
  · simp at hk
  · exact ⟨a, c, rfl, hc k u hk⟩

/-- What Copy leaves: the heap, and another of its own blocks. -/
def CopyPost (w w' : World) (q c : Nat) (W : List Nat) (F : List Bool) (e : Ending) : Prop :=
  ∃ d u1 u2, e = .returned (.pointer (some ⟨d, 0, none⟩)) ∧ HAt w' d w.heap.size q c u1 u2 W F ∧ Below w.heap.size w w' ∧ ∀ k, three d u1 u2 k → w.heap.size ≤ k

set_option maxHeartbeats 4000000 in
set_option maxRecDepth 100000 in
theorem copy_t (b base q c : Nat) (v1 v2 : Value) (W : List Nat) (F : List Bool) (w : World) (h : HAt w b base q c v1 v2 W F) (hW : W.length ≤ 1000000000) (hF : F.length = W.length) :
    Calls Tryd.prog 17 #[.pointer (some ⟨b, 0, none⟩)] w fun e w' => CopyPost w w' q c W F e := by
  obtain ⟨c0, c1, c2, c3⟩ := h.cells
  have h1 : ∀ W1 : World, Below w.heap.size w W1 → Calls Tryd.prog 18 #[v1] W1 fun e w' => ∃ v', e = .returned v' ∧ OwnW w' W1.heap.size v' W ∧ Below W1.heap.size W1 w' := fun W1 hb => by
    have := cloneW v1 (Ws W) W1 (RdV.below (RdV.of_own h.own1) hb) (Ws_one W) (by rw [Ws_length]; exact hW)
    rw [Ws_length] at this
    exact this
  have h2 : ∀ W1 : World, Below w.heap.size w W1 → Calls Tryd.prog 29 #[v2] W1 fun e w' => ∃ v', e = .returned v' ∧ OwnF w' W1.heap.size v' F ∧ Below W1.heap.size W1 w' := fun W1 hb => by
    have := cloneF v2 (Fs F) W1 (RdV.below (RdV.of_own h.own2) hb) (Fs_one F) (by rw [Fs_length]; omega)
    rw [Fs_length] at this
    exact this
  have H1 := Lib.hid h1
  have H2 := Lib.hid h2
  have hlt := h.lt
  clear h h1 h2 hF
  go_enter Tryd.func17, Tryd.ntmps17
  go_wp2_with fail
  go_region_held3 (fun w' => w'.cell? ⟨b, 0, none⟩ = some (.int .i64 (q : Int)) ∧ w'.cell? ⟨b, 1, none⟩ = some (.int .i64 (c : Int)) ∧ w'.cell? ⟨b, 2, none⟩ = some v1 ∧ w'.cell? ⟨b, 3, none⟩ = some v2) (go_keep)
    (first
      | (go_at_call 18; refine (H1.out _ (by first | exact Below.refl _ _ | exact (Below.refl _ _).drew)).mono ?_; rintro e wa ⟨u1, rfl, ho1, hb1⟩; obtain ⟨p1, z1, rfl, -⟩ := own_slice ho1; have d0 := (hb1.cell (p := ⟨b, 0, none⟩) hlt).trans c0; have d1 := (hb1.cell (p := ⟨b, 1, none⟩) hlt).trans c1; have d2 := (hb1.cell (p := ⟨b, 2, none⟩) hlt).trans c2; have d3 := (hb1.cell (p := ⟨b, 3, none⟩) hlt).trans c3; have HB1 : Hid (Below w.heap.size w wa) := ((Below.refl _ w).drew).trans hb1; have HO1 := Lib.hid ho1; clear ho1 hb1)
      | (go_at_call 29; refine (H2.out _ HB1.out).mono ?_; rintro e wb ⟨u2, rfl, ho2, hb2⟩; obtain ⟨p2, z2, rfl, -⟩ := own_slice ho2; have d0 := (hb2.cell (p := ⟨b, 0, none⟩) (by have := HB1.out.size; simp; omega)).trans d0; have d1 := (hb2.cell (p := ⟨b, 1, none⟩) (by have := HB1.out.size; simp; omega)).trans d1; have d2 := (hb2.cell (p := ⟨b, 2, none⟩) (by have := HB1.out.size; simp; omega)).trans d2; have d3 := (hb2.cell (p := ⟨b, 3, none⟩) (by have := HB1.out.size; simp; omega)).trans d3; have HB2 := Lib.hid hb2; have HO2 := Lib.hid ho2; clear ho2 hb2))
  go_wp2
  go_ret
  have s1 := HB1.out.size
  have s2 := HB2.out.size
  have hbw : Below w.heap.size w wb := HB1.out.trans (HB2.out.mono s1)
  refine ⟨wb.heap.size, _, _, rfl, ⟨heap_alloc_new wb _, (own_kept (S := fun k => wa.heap.size ≤ k) HO1.out (Below.kept HB2.out fun _ h _ => h) fun k hk hs => by have := (HO1.out.lt k hk).2; omega).alloc _, (own_base HO2.out s1).alloc _⟩, hbw.alloc (by omega) _, ?_⟩
  intro k hk
  rcases hk with rfl | hk | hk
  · omega
  · exact (HO1.out.lt k hk).1
  · exact Nat.le_trans s1 (HO2.out.lt k hk).1
end Go.Proofs.YtpmbdncackneoaaDoor
