/- A snapshot's bytes. -/
import Derived.Test.YtonahfpnlaolpaaStoC
import Derived.Deep.RegionHeld3
import Derived.OrdersHeld
namespace Go.Proofs.Ytonahfpnlaolpaa
open Go.RowKit OctM

/-- A writer at work since w: its bytes, and nothing else of w has turned. -/
structure EW (w : World) (b : Nat) (v : Value) (bs : List UInt8) (W : World) : Prop where
  at_ : WAt W b w.heap.size v bs
  kept : Kept (fun k => k = b) w W
theorem EW.lt {w W : World} {b : Nat} {v : Value} {bs : List UInt8} (h : EW w b v bs W) : ∀ k, v.ownBlock = some k → w.heap.size ≤ k ∧ k < W.heap.size := fun k hk => h.at_.own.lt k hk
theorem EW.drew {w W : World} {b : Nat} {v : Value} {bs : List UInt8} (h : EW w b v bs W) : EW w b v bs W.drew := ⟨⟨h.at_.cell, h.at_.own⟩, h.kept.drew⟩
theorem EW.put {w W W' : World} {b : Nat} {v : Value} {bs bs' : List UInt8} {e : Ending} (h : EW w b v bs W) (p : WPost W W' b w.heap.size v bs' e) : ∃ v', EW w b v' bs' W' := by
  obtain ⟨v', hat, hor⟩ := p.at_
  exact ⟨v', hat, h.kept.step p.kept (fun k hk => by
    rcases hk with rfl | hk
    · exact .inl rfl
    · exact .inr (h.lt k hk).1)⟩
theorem EW.blk {w W : World} {b : Nat} {v : Value} {bs : List UInt8} (h : EW w b v bs W) {fb : Nat} (hf : fb < w.heap.size) (hb : fb ≠ b) : W.heap[fb]? = w.heap[fb]? := h.kept.block fb hf hb
theorem EW.rd {w W : World} {b : Nat} {v x : Value} {bs l : List UInt8} (h : EW w b v bs W) (hr : ∀ W, Kept (fun k => k = b) w W → Rd W x l) : Rd W x l ∧ ∀ W', Kept (two b v) W W' → Rd W' x l :=
  ⟨hr W h.kept, fun W' hk => hr W' (h.kept.step hk (fun k hk => by
    rcases hk with rfl | hk
    · exact .inl rfl
    · exact .inr (h.lt k hk).1))⟩

theorem rd_kept {w0 w W : World} {b : Nat} {x : Value} {l : List UInt8} (h : Rd w0 x l) (hb : Below w0.heap.size w0 w) (hlt : w0.heap.size ≤ b) (hk : Kept (fun k => k = b) w W) : Rd W x l :=
  h.same fun p hp => (World.cell?_of_block (hk.block p.block (Nat.lt_of_lt_of_le hp hb.size) (fun e => by omega))).trans (hb.cell hp)

set_option maxHeartbeats 4000000 in
set_option maxRecDepth 100000 in
theorem toBytes_any (s : Sn) (v : Value) (w : World) (h : Rd w v s.dat) (h1 : s.ix < 18446744073709551616) (h2 : s.tm < 18446744073709551616) (hl : s.dat.length ≤ 100000000) :
    Calls Try.prog 44 #[snV s v] w fun e w' => ∃ v', e = .returned v' ∧ Own w' w.heap.size v' (snB s) ∧ Below w.heap.size w w' := by
  obtain ⟨ix, tm, l⟩ := s
  dsimp only at h h1 h2 hl
  obtain ⟨o, c, rfl⟩ : ∃ o c, v = .slice o l.length c := by
    rcases h with ⟨rfl, rfl⟩ | ⟨_, c, rfl, _⟩ <;> exact ⟨_, _, rfl⟩
  have H := Lib.hid h
  have h1' : (ix : Int) ≤ 18446744073709551615 := by omega
  have h2' : (tm : Int) ≤ 18446744073709551615 := by omega
  have HH1 := Lib.hid h1'
  have HH2 := Lib.hid h2'
  clear h h1 h2 h1' h2'
  unfold snV
  dsimp only
  go_enter Try.func44, Try.ntmps44
  go_upto_region 2 with fail
  obtain ⟨W, hW⟩ : ∃ W, ((w.alloc (.cells #[.int .u64 (ix : Int), .int .u64 (tm : Int), .slice o l.length c] 55)).alloc (.cells #[.slice none 0 0] 105)) = W := ⟨_, rfl⟩
  have hb : Below w.heap.size w W := by rw [← hW]; exact ((Below.refl _ _).alloc (Nat.le_refl _) _).alloc (by simp) _
  have hs : W.heap.size = w.heap.size + 2 := by rw [← hW]; simp
  have h0 : W.heap[w.heap.size]? = some (.cells #[.int .u64 (ix : Int), .int .u64 (tm : Int), .slice o l.length c] 55 (0, 0)) := by
    rw [← hW, Below.heap_alloc _ _ _ (by simp)]; exact heap_alloc_new _ _
  have hw1 : W.heap[w.heap.size + 1]? = some (.cells #[.slice none 0 0] 105 (0, 0)) := by
    rw [← hW]
    have := heap_alloc_new (w.alloc (.cells #[.int .u64 (ix : Int), .int .u64 (tm : Int), .slice o l.length c] 55)) (.cells #[.slice none 0 0] 105)
    simpa using this
  rw [hW]
  have hew : EW W (w.heap.size + 1) (.slice none 0 0) [] W := ⟨wnew hw1 _, Kept.refl _ _⟩
  have hrd : ∀ W', Kept (fun k => k = w.heap.size + 1) W W' → Rd W' (.slice o l.length c) l := fun W' hk => rd_kept H.out hb (by omega) hk
  have HRD := Lib.hid hrd
  have hbox : ∀ W', Kept (fun k => k = w.heap.size + 1) W W' → W'.heap[w.heap.size]? = some (.cells #[.int .u64 (ix : Int), .int .u64 (tm : Int), .slice o l.length c] 55 (0, 0)) := fun W' hk => (hk.block _ (by omega) (by omega)).trans h0
  have HBOX := Lib.hid hbox
  have HEW := Lib.hid hew
  have HB := Lib.hid hb
  have HL : Hid (l.length ≤ 100000000) := hl
  have HBL : Hid ((body ⟨ix, tm, l⟩).length ≤ 100000031) := by
    have h5 := (snB_bound ⟨ix, tm, l⟩).2
    rw [snB_length] at h5
    have h6 : (body ⟨ix, tm, l⟩).length ≤ 100000031 := by
      have h7 : (Sn.mk ix tm l).dat.length = l.length := rfl
      omega
    exact h6
  obtain ⟨g0, g1, g2, -, -, -, hfl⟩ := kept3 h0
  have hfb : w.heap.size + 1 = w.heap.size + 1 := rfl
  clear hW h0 hw1 hew hrd hbox hb H hl
  refine wp_region_held_drew (S := fun w' => w'.cell? ⟨w.heap.size, 0, none⟩ = some (.int .u64 (ix : Int)) ∧ w'.cell? ⟨w.heap.size, 1, none⟩ = some (.int .u64 (tm : Int)) ∧ w'.cell? ⟨w.heap.size, 2, none⟩ = some (.slice o l.length c)) (by kernel_rfl) ⟨g0, g1, g2⟩ ?_
  intro hHeld
  refine wpAnyH_take (i := 0) (v := ?_) (by simp only [List.getElem?_toArray, List.getElem?_cons_zero]; rfl) (by kernel_rfl) (by kernel_rfl) (by kernel_rfl) (by intro _ _ _ h; exact h) (Or.inl ⟨by rfl, ?_⟩) (by assumption) ?_
  rotate_left
  · (intro w hSw; (try dsimp only at hSw); go_simp; try with_reducible rfl)
  try simp only [Act.put, List.setIfInBounds_toArray, List.set_cons_zero, List.set_cons_succ]
  refine wpAnyH_take (i := 1) (v := ?_) (by simp only [List.getElem?_toArray, List.getElem?_cons_succ, List.getElem?_cons_zero]; rfl) (by kernel_rfl) (by kernel_rfl) (by kernel_rfl) (by intro _ _ _ h; exact h) (Or.inl ⟨by rfl, ?_⟩) (by assumption) ?_
  rotate_left
  · (intro w hSw; (try dsimp only at hSw); go_simp; try with_reducible rfl)
  try simp only [Act.put, List.setIfInBounds_toArray, List.set_cons_zero, List.set_cons_succ]
  refine wpAnyH_take (i := 2) (v := ?_) (by simp only [List.getElem?_toArray, List.getElem?_cons_succ, List.getElem?_cons_zero]; rfl) (by kernel_rfl) (by kernel_rfl) (by kernel_rfl) (by intro _ _ _ h; exact h) (Or.inl ⟨by rfl, ?_⟩) (by assumption) ?_
  rotate_left
  · (intro w hSw; (try dsimp only at hSw); go_simp; try with_reducible rfl)
  try simp only [Act.put, List.setIfInBounds_toArray, List.set_cons_zero, List.set_cons_succ]
  refine wpAnyH_take (i := 4) (v := ?_) (by simp only [List.getElem?_toArray, List.getElem?_cons_succ, List.getElem?_cons_zero]; rfl) (by kernel_rfl) (by kernel_rfl) (by kernel_rfl) (by intro _ _ _ h; exact h) (Or.inl ⟨by rfl, ?_⟩) (by assumption) ?_
  rotate_left
  · (intro w hSw; (try dsimp only at hSw); go_simp; try with_reducible rfl)
  try simp only [Act.put, List.setIfInBounds_toArray, List.set_cons_zero, List.set_cons_succ]
  refine wpAnyH_take (i := 5) (v := ?_) (by simp only [List.getElem?_toArray, List.getElem?_cons_succ, List.getElem?_cons_zero]; rfl) (by kernel_rfl) (by kernel_rfl) (by kernel_rfl) (by intro _ _ _ h; exact h) (Or.inl ⟨by rfl, ?_⟩) (by assumption) ?_
  rotate_left
  · (intro w hSw; (try dsimp only at hSw); go_simp; try with_reducible rfl)
  try simp only [Act.put, List.setIfInBounds_toArray, List.set_cons_zero, List.set_cons_succ]
  refine wpAnyH_take (i := 7) (v := ?_) (by simp only [List.getElem?_toArray, List.getElem?_cons_succ, List.getElem?_cons_zero]; rfl) (by kernel_rfl) (by kernel_rfl) (by kernel_rfl) (by intro _ _ _ h; exact h) (Or.inl ⟨by rfl, ?_⟩) (by assumption) ?_
  rotate_left
  · (intro w hSw; (try dsimp only at hSw); go_simp; try with_reducible rfl)
  try simp only [Act.put, List.setIfInBounds_toArray, List.set_cons_zero, List.set_cons_succ]
  refine wpAnyH_take (i := 8) (v := ?_) (by simp only [List.getElem?_toArray, List.getElem?_cons_succ, List.getElem?_cons_zero]; rfl) (by kernel_rfl) (by kernel_rfl) (by kernel_rfl) (by intro _ _ _ h; exact h) (Or.inl ⟨by rfl, ?_⟩) (by assumption) ?_
  rotate_left
  · (intro w hSw; (try dsimp only at hSw); go_simp; try with_reducible rfl)
  try simp only [Act.put, List.setIfInBounds_toArray, List.set_cons_zero, List.set_cons_succ]
  refine wpAnyH_ready (rs := [3]) (by kernel_rfl) (by simp) ?_
  refine AllReadyH.cons (by simp only [List.getElem?_toArray, List.getElem?_cons_succ, List.getElem?_cons_zero]; rfl) (fun K hK => ?_) AllReadyH.nil
  go_simp
  refine (wuint (w.heap.size + 1) W.heap.size (.slice none 0 0) [] (ix : Int) _ (by omega) HH1.out HEW.out.drew.at_ (Nat.le_refl _) (by simp)).mono ?_
  intro e W1 hp1
  have hret := hp1.ret
  subst hret
  obtain ⟨u1, hew1⟩ := (HEW.out.drew).put hp1
  obtain ⟨q10, q11, q12, -, -, -, -⟩ := kept3 (HBOX.out _ hew1.kept)
  have hz1 : W.heap.size ≤ W1.heap.size := hew1.kept.size
  simp only [List.nil_append, Int.toNat_natCast] at hew1
  have HEW1 := Lib.hid hew1
  clear hp1 hew1
  dsimp only
  refine hK.out _ _ ⟨q10, q11, q12⟩ (fun hHeld => ?_)
  clear hK K
  try simp only [Act.put, List.setIfInBounds_toArray, List.set_cons_zero, List.set_cons_succ]
  refine wpAnyH_ready (rs := [6]) (by kernel_rfl) (by simp) ?_
  refine AllReadyH.cons (by simp only [List.getElem?_toArray, List.getElem?_cons_succ, List.getElem?_cons_zero]; rfl) (fun K hK => ?_) AllReadyH.nil
  go_simp
  refine (wuint (w.heap.size + 1) W.heap.size u1 (enc ix) (tm : Int) W1 (by omega) HH2.out HEW1.out.at_ hz1 (by have := enc_length ix; have := nd_le ix; omega)).mono ?_
  intro e W2 hp2
  have hret := hp2.ret
  subst hret
  obtain ⟨u2, hew2⟩ := (HEW1.out).put hp2
  obtain ⟨q20, q21, q22, -, -, -, -⟩ := kept3 (HBOX.out _ hew2.kept)
  have hz2 : W.heap.size ≤ W2.heap.size := hew2.kept.size
  simp only [Int.toNat_natCast] at hew2
  have HEW2 := Lib.hid hew2
  clear hp2 hew2
  dsimp only
  refine hK.out _ _ ⟨q20, q21, q22⟩ (fun hHeld => ?_)
  clear hK K
  try simp only [Act.put, List.setIfInBounds_toArray, List.set_cons_zero, List.set_cons_succ]
  refine wpAnyH_ready (rs := [9]) (by kernel_rfl) (by simp) ?_
  refine AllReadyH.cons (by simp only [List.getElem?_toArray, List.getElem?_cons_succ, List.getElem?_cons_zero]; rfl) (fun K hK => ?_) AllReadyH.nil
  go_simp
  refine (wbytes (w.heap.size + 1) W.heap.size u2 (enc ix ++ enc tm) (.slice o l.length c) l W2 HEW2.out.at_ hz2 (HEW2.out.rd HRD.out).1 (HEW2.out.rd HRD.out).2 (by have := HL.out; have := enc_length ix; have := nd_le ix; have := enc_length tm; have := nd_le tm; rw [List.length_append]; omega)).mono ?_
  intro e W3 hp3
  have hret := hp3.ret
  subst hret
  obtain ⟨u3, hew3⟩ := (HEW2.out).put hp3
  obtain ⟨q30, q31, q32, -, -, -, -⟩ := kept3 (HBOX.out _ hew3.kept)
  have hz3 : W.heap.size ≤ W3.heap.size := hew3.kept.size
  have ebody : (enc ix ++ enc tm) ++ encB l = body ⟨ix, tm, l⟩ := by simp [body]
  rw [ebody] at hew3
  clear ebody
  have HEW3 := Lib.hid hew3
  clear hp3 hew3
  dsimp only
  refine hK.out _ _ ⟨q30, q31, q32⟩ (fun hHeld => ?_)
  clear hK K
  try simp only [Act.put, List.setIfInBounds_toArray, List.set_cons_zero, List.set_cons_succ]
  refine wpAnyH_ready (rs := [10]) (by kernel_rfl) (by simp) ?_
  refine AllReadyH.cons (by simp only [List.getElem?_toArray, List.getElem?_cons_succ, List.getElem?_cons_zero]; rfl) (fun K hK => ?_) AllReadyH.nil
  go_simp
  refine (wdone (w.heap.size + 1) W.heap.size u3 (body ⟨ix, tm, l⟩) W3 HEW3.out.at_ (by have := HBL.out; omega)).mono ?_
  rintro e W4 ⟨v4, rfl, ho4, hb4⟩
  obtain ⟨q40, q41, q42, -, -, -, -⟩ := kept3 (HBOX.out _ (HEW3.out.kept.trans (kept_of_below hb4)))
  have HR4 := Lib.hid (Rd.of_own ho4)
  have HK4 : Hid (Kept (fun k => k = w.heap.size + 1) W W4) := HEW3.out.kept.trans (kept_of_below hb4)
  have hz4 := hb4.size
  have HB4 : Hid (Below w.heap.size w W4) := HB.out.trans ((HEW3.out.kept.below (n := w.heap.size) (by omega) (fun k hk => by omega)).trans (hb4.mono (by omega)))
  clear ho4 hb4
  dsimp only
  refine hK.out _ _ ⟨q40, q41, q42⟩ (fun hHeld => ?_)
  clear hK K
  try simp only [Act.put, List.setIfInBounds_toArray, List.set_cons_zero, List.set_cons_succ]
  refine wpAnyH_ready (rs := [11]) (by kernel_rfl) (by simp) ?_
  refine AllReadyH.cons (by simp only [List.getElem?_toArray, List.getElem?_cons_succ, List.getElem?_cons_zero]; rfl) (fun K hK => ?_) AllReadyH.nil
  go_simp
  refine (sealC v4 (body ⟨ix, tm, l⟩) W4 HR4.out (by have := HBL.out; omega)).mono ?_
  rintro e W5 ⟨v5, rfl, ho5, hb5⟩
  have hk4 : Kept (fun k => k = w.heap.size + 1) W W4 := by first | exact HK4.out
  obtain ⟨q50, q51, q52, -, -, -, -⟩ := kept3 (HBOX.out _ (hk4.trans (kept_of_below hb5)))
  have HO5 := Lib.hid (own_base ho5 (by have := HB4.out.size; omega : w.heap.size ≤ W4.heap.size))
  have HB5 : Hid (Below w.heap.size w W5) := HB4.out.trans (hb5.mono (by have := HB4.out.size; omega))
  clear ho5 hb5 hk4
  dsimp only
  refine hK.out _ _ ⟨q50, q51, q52⟩ (fun hHeld => ?_)
  clear hK K
  try simp only [Act.put, List.setIfInBounds_toArray, List.set_cons_zero, List.set_cons_succ]
  refine wpAnyH_take (i := 12) (v := ?_) (by simp only [List.getElem?_toArray, List.getElem?_cons_succ, List.getElem?_cons_zero]; rfl) (by kernel_rfl) (by kernel_rfl) (by kernel_rfl) (by intro _ _ _ h; exact h) (Or.inl ⟨by rfl, ?_⟩) (by assumption) ?_
  rotate_left
  · (intro w hSw; (try dsimp only at hSw); go_simp; try with_reducible rfl)
  try simp only [Act.put, List.setIfInBounds_toArray, List.set_cons_zero, List.set_cons_succ]
  refine wpAnyH_done (by kernel_rfl) ?_ _
  go_wp2_with fail
  go_ret
  exact ⟨_, rfl, HO5.out, HB5.out⟩
end Go.Proofs.Ytonahfpnlaolpaa
