/- An entry is written. -/
import Derived.Test.YtdckcjcddibglaaWaB
namespace Go.Proofs.Ytdckcjcddibglaa
open Go.RowKit OctM

set_option maxHeartbeats 4000000 in
set_option maxRecDepth 100000 in
theorem entry_any (b : Nat) (v vx : Value) (bs : List UInt8) (x : En) (w0 w : World) (h : WS w0 b v bs w) (hr : Rd w0 vx x.cl) (hok : x.Ok) (hl : bs.length ≤ 100000000) :
    Calls Try.prog 35 #[.pointer (some ⟨b, 0, none⟩), enV x vx] w fun e w' => e = .returned (.tuple #[]) ∧ (∃ v', WS w0 b v' (bs ++ encE x) w') := by
  obtain ⟨tm, ss, nm, l⟩ := x
  obtain ⟨o1, o2, o3, o4⟩ := hok
  dsimp only at hr o1 o2 o3 o4
  obtain ⟨o, c, rfl⟩ : ∃ o c, vx = .slice o l.length c := by
    rcases hr with ⟨rfl, rfl⟩ | ⟨_, c, rfl, _⟩ <;> exact ⟨_, _, rfl⟩
  have HR := Lib.hid hr
  have HH1 := Lib.hid (show (tm : Int) ≤ 18446744073709551615 by omega)
  have HH2 := Lib.hid (show (ss : Int) ≤ 18446744073709551615 by omega)
  have HH3 := Lib.hid (show (nm : Int) ≤ 18446744073709551615 by omega)
  have HL4 := Lib.hid o4
  have HL := Lib.hid hl
  have H := Lib.hid h
  have hblt := (h.two_lt b (.inl rfl)).2
  clear h hr o1 o2 o3 o4 hl
  unfold enV
  dsimp only
  go_enter Try.func35, Try.ntmps35
  go_upto_region 1 with fail
  have hb : Below w.heap.size w (w.alloc (.cells #[.int .u64 (tm : Int), .int .u64 (ss : Int), .int .u64 (nm : Int), .slice o l.length c] 33)) := (Below.refl _ _).alloc (Nat.le_refl _) _
  have hn := heap_alloc_new w (.cells #[.int .u64 (tm : Int), .int .u64 (ss : Int), .int .u64 (nm : Int), .slice o l.length c] 33)
  have hsz : (w.alloc (.cells #[.int .u64 (tm : Int), .int .u64 (ss : Int), .int .u64 (nm : Int), .slice o l.length c] 33)).heap.size = w.heap.size + 1 := by simp
  generalize (w.alloc (.cells #[.int .u64 (tm : Int), .int .u64 (ss : Int), .int .u64 (nm : Int), .slice o l.length c] 33)) = W at *
  have HEW := Lib.hid (H.out.below hb)
  -- the box stays, whatever the writer does
  have hbox : ∀ W', Kept (fun k => k ≠ w.heap.size) W W' → W'.heap[w.heap.size]? = some (.cells #[.int .u64 (tm : Int), .int .u64 (ss : Int), .int .u64 (nm : Int), .slice o l.length c] 33 (0, 0)) := fun W' hk => (hk.block _ (by omega) (by simp)).trans hn
  have HBOX := Lib.hid hbox
  have g0 : W.cell? ⟨w.heap.size, 0, none⟩ = some (.int .u64 (tm : Int)) := cellk (i := 0) hn rfl
  have g1 : W.cell? ⟨w.heap.size, 1, none⟩ = some (.int .u64 (ss : Int)) := cellk (i := 1) hn rfl
  have g2 : W.cell? ⟨w.heap.size, 2, none⟩ = some (.int .u64 (nm : Int)) := cellk (i := 2) hn rfl
  have g3 : W.cell? ⟨w.heap.size, 3, none⟩ = some (.slice o l.length c) := cellk (i := 3) hn rfl
  have HTW := Lib.hid (show ∀ k, two b v k → k ≠ w.heap.size from fun k hk => Nat.ne_of_lt (H.out.two_lt k hk).2)
  have hkp0 : w.heap.size < W.heap.size := by omega
  clear hbox hb H hn
  refine wp_region_held_drew (S := fun w' => w'.cell? ⟨w.heap.size, 0, none⟩ = some (.int .u64 (tm : Int)) ∧ w'.cell? ⟨w.heap.size, 1, none⟩ = some (.int .u64 (ss : Int)) ∧ w'.cell? ⟨w.heap.size, 2, none⟩ = some (.int .u64 (nm : Int)) ∧ w'.cell? ⟨w.heap.size, 3, none⟩ = some (.slice o l.length c)) (by kernel_rfl) ⟨g0, g1, g2, g3⟩ ?_
  intro hHeld
  refine wpAnyH_take (i := 0) (v := ?_) (by simp only [List.getElem?_toArray, List.getElem?_cons_zero]; rfl) (by kernel_rfl) (by kernel_rfl) (by kernel_rfl) (by intro _ _ _ h; exact h) (Or.inl ⟨by rfl, ?_⟩) (by assumption) ?_
  rotate_left
  · (intro w hSw; (try dsimp only at hSw); go_simp; try with_reducible rfl)
  try simp only [Act.put, List.setIfInBounds_toArray, List.set_cons_zero, List.set_cons_succ]
  refine wpAnyH_take (i := 1) (v := ?_) (by simp only [List.getElem?_toArray, List.getElem?_cons_succ, List.getElem?_cons_zero]; rfl) (by kernel_rfl) (by kernel_rfl) (by kernel_rfl) (by intro _ _ _ h; exact h) (Or.inl ⟨by rfl, ?_⟩) (by assumption) ?_
  rotate_left
  · (intro w hSw; (try dsimp only at hSw); go_simp; try with_reducible rfl)
  try simp only [Act.put, List.setIfInBounds_toArray, List.set_cons_zero, List.set_cons_succ]
  refine wpAnyH_take (i := 2) (v := ?_) (by simp only [List.getElem?_toArray, List.getElem?_cons_succ, List.getElem?_cons_zero]; rfl) (by kernel_rfl) (by kernel_rfl) (by kernel_rfl) (by intro _ _ _ h; exact h) (Or.inl ⟨by rfl, ?_⟩) (by assumption) ?_
  rotate_left
  · (intro w hSw; (try dsimp only at hSw); go_simp; try with_reducible rfl)
  try simp only [Act.put, List.setIfInBounds_toArray, List.set_cons_zero, List.set_cons_succ]
  refine wpAnyH_take (i := 4) (v := ?_) (by simp only [List.getElem?_toArray, List.getElem?_cons_succ, List.getElem?_cons_zero]; rfl) (by kernel_rfl) (by kernel_rfl) (by kernel_rfl) (by intro _ _ _ h; exact h) (Or.inl ⟨by rfl, ?_⟩) (by assumption) ?_
  rotate_left
  · (intro w hSw; (try dsimp only at hSw); go_simp; try with_reducible rfl)
  try simp only [Act.put, List.setIfInBounds_toArray, List.set_cons_zero, List.set_cons_succ]
  refine wpAnyH_take (i := 5) (v := ?_) (by simp only [List.getElem?_toArray, List.getElem?_cons_succ, List.getElem?_cons_zero]; rfl) (by kernel_rfl) (by kernel_rfl) (by kernel_rfl) (by intro _ _ _ h; exact h) (Or.inl ⟨by rfl, ?_⟩) (by assumption) ?_
  rotate_left
  · (intro w hSw; (try dsimp only at hSw); go_simp; try with_reducible rfl)
  try simp only [Act.put, List.setIfInBounds_toArray, List.set_cons_zero, List.set_cons_succ]
  refine wpAnyH_take (i := 7) (v := ?_) (by simp only [List.getElem?_toArray, List.getElem?_cons_succ, List.getElem?_cons_zero]; rfl) (by kernel_rfl) (by kernel_rfl) (by kernel_rfl) (by intro _ _ _ h; exact h) (Or.inl ⟨by rfl, ?_⟩) (by assumption) ?_
  rotate_left
  · (intro w hSw; (try dsimp only at hSw); go_simp; try with_reducible rfl)
  try simp only [Act.put, List.setIfInBounds_toArray, List.set_cons_zero, List.set_cons_succ]
  refine wpAnyH_take (i := 8) (v := ?_) (by simp only [List.getElem?_toArray, List.getElem?_cons_succ, List.getElem?_cons_zero]; rfl) (by kernel_rfl) (by kernel_rfl) (by kernel_rfl) (by intro _ _ _ h; exact h) (Or.inl ⟨by rfl, ?_⟩) (by assumption) ?_
  rotate_left
  · (intro w hSw; (try dsimp only at hSw); go_simp; try with_reducible rfl)
  try simp only [Act.put, List.setIfInBounds_toArray, List.set_cons_zero, List.set_cons_succ]
  refine wpAnyH_take (i := 10) (v := ?_) (by simp only [List.getElem?_toArray, List.getElem?_cons_succ, List.getElem?_cons_zero]; rfl) (by kernel_rfl) (by kernel_rfl) (by kernel_rfl) (by intro _ _ _ h; exact h) (Or.inl ⟨by rfl, ?_⟩) (by assumption) ?_
  rotate_left
  · (intro w hSw; (try dsimp only at hSw); go_simp; try with_reducible rfl)
  try simp only [Act.put, List.setIfInBounds_toArray, List.set_cons_zero, List.set_cons_succ]
  refine wpAnyH_take (i := 11) (v := ?_) (by simp only [List.getElem?_toArray, List.getElem?_cons_succ, List.getElem?_cons_zero]; rfl) (by kernel_rfl) (by kernel_rfl) (by kernel_rfl) (by intro _ _ _ h; exact h) (Or.inl ⟨by rfl, ?_⟩) (by assumption) ?_
  rotate_left
  · (intro w hSw; (try dsimp only at hSw); go_simp; try with_reducible rfl)
  try simp only [Act.put, List.setIfInBounds_toArray, List.set_cons_zero, List.set_cons_succ]
  refine wpAnyH_ready (rs := [3]) (by kernel_rfl) (by simp) ?_
  refine AllReadyH.cons (by simp only [List.getElem?_toArray, List.getElem?_cons_succ, List.getElem?_cons_zero]; rfl) (fun K hK => ?_) AllReadyH.nil
  go_simp
  refine (wuint b w0.heap.size v bs (tm : Int) W.drew (by omega) HH1.out HEW.out.drew.at_ HEW.out.drew.bel.size (by have := HL.out; have := HL4.out; have := enc_length tm; have := nd_le tm; have := enc_length ss; have := nd_le ss; have := enc_length nm; have := nd_le nm; (try simp only [List.length_append]); omega)).mono ?_
  intro e W1 hp1
  have hret := hp1.ret
  subst hret
  obtain ⟨u1, hat1, hor1⟩ := hp1.at_
  have hws1 := (show WS w0 b u1 _ W1 from ⟨hat1, (HEW.out.drew).bel.trans (hp1.kept.below (HEW.out.drew).bel.size (fun k hk => ((HEW.out.drew).two_lt k hk).1)), (HEW.out.drew).ge⟩)
  have hkk1 : Kept (fun k => k ≠ w.heap.size) W W1 := ((Kept.refl _ W).drew).trans (hp1.kept.weak (fun k _ hk => HTW.out k hk))
  have HT1 := Lib.hid (show ∀ k, two b u1 k → k ≠ w.heap.size from fun k hk => by
    rcases hk with rfl | hk
    · exact HTW.out k (.inl rfl)
    · rcases hor1 with h5 | ⟨g, hg, hgs⟩
      · exact HTW.out k (.inr (h5 ▸ hk))
      · have h6 := hkp0; have h7 : W.heap.size ≤ g := hgs; rw [hg] at hk; injection hk with hk; omega)
  have hkp1 : w.heap.size < W1.heap.size := by have := hkk1.size; omega
  have q := HBOX.out _ hkk1
  have q10 := cellk (i := 0) q rfl
  have q11 := cellk (i := 1) q rfl
  have q12 := cellk (i := 2) q rfl
  have q13 := cellk (i := 3) q rfl
  simp only [Int.toNat_natCast] at hws1
  have HEW1 := Lib.hid hws1
  have HKK1 := Lib.hid hkk1
  clear hp1 hws1 hat1 hor1 hkk1 q
  dsimp only
  refine hK.out _ _ ⟨q10, q11, q12, q13⟩ (fun hHeld => ?_)
  clear hK K
  try simp only [Act.put, List.setIfInBounds_toArray, List.set_cons_zero, List.set_cons_succ]
  refine wpAnyH_ready (rs := [6]) (by kernel_rfl) (by simp) ?_
  refine AllReadyH.cons (by simp only [List.getElem?_toArray, List.getElem?_cons_succ, List.getElem?_cons_zero]; rfl) (fun K hK => ?_) AllReadyH.nil
  go_simp
  refine (wuint b w0.heap.size u1 (bs ++ enc tm) (ss : Int) W1 (by omega) HH2.out HEW1.out.at_ HEW1.out.bel.size (by have := HL.out; have := HL4.out; have := enc_length tm; have := nd_le tm; have := enc_length ss; have := nd_le ss; have := enc_length nm; have := nd_le nm; (try simp only [List.length_append]); omega)).mono ?_
  intro e W2 hp2
  have hret := hp2.ret
  subst hret
  obtain ⟨u2, hat2, hor2⟩ := hp2.at_
  have hws2 := (show WS w0 b u2 _ W2 from ⟨hat2, (HEW1.out).bel.trans (hp2.kept.below (HEW1.out).bel.size (fun k hk => ((HEW1.out).two_lt k hk).1)), (HEW1.out).ge⟩)
  have hkk2 : Kept (fun k => k ≠ w.heap.size) W W2 := (HKK1.out).trans (hp2.kept.weak (fun k _ hk => HT1.out k hk))
  have HT2 := Lib.hid (show ∀ k, two b u2 k → k ≠ w.heap.size from fun k hk => by
    rcases hk with rfl | hk
    · exact HT1.out k (.inl rfl)
    · rcases hor2 with h5 | ⟨g, hg, hgs⟩
      · exact HT1.out k (.inr (h5 ▸ hk))
      · have h6 := hkp1; have h7 : W1.heap.size ≤ g := hgs; rw [hg] at hk; injection hk with hk; omega)
  have hkp2 : w.heap.size < W2.heap.size := by have := hkk2.size; omega
  have q := HBOX.out _ hkk2
  have q20 := cellk (i := 0) q rfl
  have q21 := cellk (i := 1) q rfl
  have q22 := cellk (i := 2) q rfl
  have q23 := cellk (i := 3) q rfl
  simp only [Int.toNat_natCast] at hws2
  have HEW2 := Lib.hid hws2
  have HKK2 := Lib.hid hkk2
  clear hp2 hws2 hat2 hor2 hkk2 q
  dsimp only
  refine hK.out _ _ ⟨q20, q21, q22, q23⟩ (fun hHeld => ?_)
  clear hK K
  try simp only [Act.put, List.setIfInBounds_toArray, List.set_cons_zero, List.set_cons_succ]
  refine wpAnyH_ready (rs := [9]) (by kernel_rfl) (by simp) ?_
  refine AllReadyH.cons (by simp only [List.getElem?_toArray, List.getElem?_cons_succ, List.getElem?_cons_zero]; rfl) (fun K hK => ?_) AllReadyH.nil
  go_simp
  refine (wuint b w0.heap.size u2 (bs ++ enc tm ++ enc ss) (nm : Int) W2 (by omega) HH3.out HEW2.out.at_ HEW2.out.bel.size (by have := HL.out; have := HL4.out; have := enc_length tm; have := nd_le tm; have := enc_length ss; have := nd_le ss; have := enc_length nm; have := nd_le nm; (try simp only [List.length_append]); omega)).mono ?_
  intro e W3 hp3
  have hret := hp3.ret
  subst hret
  obtain ⟨u3, hat3, hor3⟩ := hp3.at_
  have hws3 := (show WS w0 b u3 _ W3 from ⟨hat3, (HEW2.out).bel.trans (hp3.kept.below (HEW2.out).bel.size (fun k hk => ((HEW2.out).two_lt k hk).1)), (HEW2.out).ge⟩)
  have hkk3 : Kept (fun k => k ≠ w.heap.size) W W3 := (HKK2.out).trans (hp3.kept.weak (fun k _ hk => HT2.out k hk))
  have HT3 := Lib.hid (show ∀ k, two b u3 k → k ≠ w.heap.size from fun k hk => by
    rcases hk with rfl | hk
    · exact HT2.out k (.inl rfl)
    · rcases hor3 with h5 | ⟨g, hg, hgs⟩
      · exact HT2.out k (.inr (h5 ▸ hk))
      · have h6 := hkp2; have h7 : W2.heap.size ≤ g := hgs; rw [hg] at hk; injection hk with hk; omega)
  have hkp3 : w.heap.size < W3.heap.size := by have := hkk3.size; omega
  have q := HBOX.out _ hkk3
  have q30 := cellk (i := 0) q rfl
  have q31 := cellk (i := 1) q rfl
  have q32 := cellk (i := 2) q rfl
  have q33 := cellk (i := 3) q rfl
  simp only [Int.toNat_natCast] at hws3
  have HEW3 := Lib.hid hws3
  have HKK3 := Lib.hid hkk3
  clear hp3 hws3 hat3 hor3 hkk3 q
  dsimp only
  refine hK.out _ _ ⟨q30, q31, q32, q33⟩ (fun hHeld => ?_)
  clear hK K
  try simp only [Act.put, List.setIfInBounds_toArray, List.set_cons_zero, List.set_cons_succ]
  refine wpAnyH_ready (rs := [12]) (by kernel_rfl) (by simp) ?_
  refine AllReadyH.cons (by simp only [List.getElem?_toArray, List.getElem?_cons_succ, List.getElem?_cons_zero]; rfl) (fun K hK => ?_) AllReadyH.nil
  go_simp
  refine (wbytes b w0.heap.size u3 (bs ++ enc tm ++ enc ss ++ enc nm) (.slice o l.length c) l W3 HEW3.out.at_ HEW3.out.bel.size (HEW3.out.rd HR.out).1 (HEW3.out.rd HR.out).2 (by have := HL.out; have := HL4.out; have := enc_length tm; have := nd_le tm; have := enc_length ss; have := nd_le ss; have := enc_length nm; have := nd_le nm; (try simp only [List.length_append]); omega)).mono ?_
  intro e W4 hp4
  have hret := hp4.ret
  subst hret
  obtain ⟨u4, hat4, hor4⟩ := hp4.at_
  have hws4 := (show WS w0 b u4 _ W4 from ⟨hat4, (HEW3.out).bel.trans (hp4.kept.below (HEW3.out).bel.size (fun k hk => ((HEW3.out).two_lt k hk).1)), (HEW3.out).ge⟩)
  have hkk4 : Kept (fun k => k ≠ w.heap.size) W W4 := (HKK3.out).trans (hp4.kept.weak (fun k _ hk => HT3.out k hk))
  have HT4 := Lib.hid (show ∀ k, two b u4 k → k ≠ w.heap.size from fun k hk => by
    rcases hk with rfl | hk
    · exact HT3.out k (.inl rfl)
    · rcases hor4 with h5 | ⟨g, hg, hgs⟩
      · exact HT3.out k (.inr (h5 ▸ hk))
      · have h6 := hkp3; have h7 : W3.heap.size ≤ g := hgs; rw [hg] at hk; injection hk with hk; omega)
  have hkp4 : w.heap.size < W4.heap.size := by have := hkk4.size; omega
  have q := HBOX.out _ hkk4
  have q40 := cellk (i := 0) q rfl
  have q41 := cellk (i := 1) q rfl
  have q42 := cellk (i := 2) q rfl
  have q43 := cellk (i := 3) q rfl
  have ebody : (bs ++ enc tm ++ enc ss ++ enc nm) ++ encB l = bs ++ encE ⟨tm, ss, nm, l⟩ := by simp [encE]
  rw [ebody] at hws4
  clear ebody
  have HEW4 := Lib.hid hws4
  have HKK4 := Lib.hid hkk4
  clear hp4 hws4 hat4 hor4 hkk4 q
  dsimp only
  refine hK.out _ _ ⟨q40, q41, q42, q43⟩ (fun hHeld => ?_)
  clear hK K
  try simp only [Act.put, List.setIfInBounds_toArray, List.set_cons_zero, List.set_cons_succ]
  refine wpAnyH_done (by kernel_rfl) ?_ _
  go_wp2_with fail
  go_end0
  exact ⟨rfl, ⟨_, HEW4.out⟩⟩
end Go.Proofs.Ytdckcjcddibglaa
