/- StoreKeeps: what is handed in may be written over behind the call, and so may what is told. -/
import Derived.Test.YtonahfpnlaolpaaStoM
namespace Go.Proofs.Ytonahfpnlaolpaa
open Go.RowKit OctM

set_option maxHeartbeats 4000000 in
set_option maxRecDepth 100000 in
theorem stkeeps_out (a : Value) (p : List UInt8) (w : World) (ha : Rd w a p) (hp : p.length ≤ 140737488351232) (h : p.length = 0 ∨ 2000 < p.length) :
    Calls Try.prog 8 #[a] w fun e w' => e = .returned (.bool true) ∧ Below w.heap.size w w' := by
  obtain ⟨oa, ca, rfl⟩ : ∃ o c, a = .slice o p.length c := by
    rcases ha with ⟨rfl, rfl⟩ | ⟨_, c, rfl, _⟩ <;> exact ⟨_, _, rfl⟩
  clear ha
  rcases h with hz | h
  · have hd : ((p.length : Int) == 0) = true := by simp [hz]
    clear hz
    go_enter Try.func8, Try.ntmps8
    go_wp2_with fail
    refine (awake_any w).mono ?_
    rintro e w1 ⟨rfl, hb1⟩
    have HB1 := Lib.hid hb1
    clear hb1
    go_wp2_with fail
    refine (awake_any w1).mono ?_
    rintro e w2 ⟨rfl, hb2⟩
    have HB2 := Lib.hid (HB1.out.trans (hb2.mono HB1.out.size))
    clear hb2
    go_wp2_with fail
    go_ret
    exact ⟨rfl, HB2.out⟩
  · have hd : ((p.length : Int) == 0) = false := beq_eq_false_iff_ne.2 (by omega)
    have hd2 : (2000 : Int) < (p.length : Int) := by omega
    clear h
    go_enter Try.func8, Try.ntmps8
    go_wp2_with fail
    refine (awake_any w).mono ?_
    rintro e w1 ⟨rfl, hb1⟩
    have HB1 := Lib.hid hb1
    clear hb1
    go_wp2_with fail
    refine (awake_any w1).mono ?_
    rintro e w2 ⟨rfl, hb2⟩
    have HB2 := Lib.hid (HB1.out.trans (hb2.mono HB1.out.size))
    clear hb2
    go_wp2_with fail
    go_ret
    exact ⟨rfl, HB2.out⟩

theorem own_form {w : World} {base : Nat} {v : Value} {l : List UInt8} (h : Own w base v l) (hl : 0 < l.length) :
    ∃ g c, v = .slice (some ⟨g, 0, none⟩) l.length c ∧ base ≤ g ∧ g < w.heap.size ∧ (∀ j u, l[j]? = some u → w.cell? ⟨g, j, none⟩ = some (B u)) ∧ ∀ i, w.frozen? ⟨g, i, none⟩ = false := by
  have hc := fun g => World.ownsRow.cells h (g := g)
  have hlt := h.lt
  rcases h.2 with ⟨_, hn⟩ | ⟨g, cap, cur, rfl, hb, hg, _⟩
  · omega
  · refine ⟨g, cap, rfl, hb, (hlt g rfl).2, fun j u hu => ?_, fun i => by simp [World.frozen?, hg]⟩
    have := hc g rfl j (B u) (by simp [Bs, hu])
    rw [add_none] at this
    simpa using this

theorem Fr.out {S : Nat → Prop} {w w' : World} {g : Nat} (h : ¬ S g) (hg : g < w.heap.size) : ¬ Fr S w w' g := fun hk => by
  rcases hk with hk | hk
  · exact h hk
  · omega

/-- A store beside a block that is written over. -/
theorem SAt.beside {w : World} {R : Nat → Prop} {St D T g : Nat} {s : Ss} (h : SAt w R St D T s) (hg : ¬ R g) (i : Nat) (u : Value) : SAt (w.setCell ⟨g, i, none⟩ u) R St D T s :=
  h.block (fun b hb => heap_setCell_other _ _ _ _ (fun (e : b = g) => hg (e ▸ hb))) (by simp [World.setCell]) (fun _ h => h) (fun k hk => by have := h.lt k hk; simpa [World.setCell] using this)

set_option maxHeartbeats 8000000 in
set_option maxRecDepth 100000 in
theorem stkeeps_in (a : Value) (p : List UInt8) (w : World) (ha : Rd w a p) (hz : p.length ≠ 0) (hs : p.length ≤ 2000) :
    Calls Try.prog 8 #[a] w fun e w' => e = .returned (.bool true) ∧ Below w.heap.size w w' := by
  obtain ⟨oa, ca, rfl⟩ : ∃ o c, a = .slice o p.length c := by
    rcases ha with ⟨rfl, rfl⟩ | ⟨_, c, rfl, _⟩ <;> exact ⟨_, _, rfl⟩
  have h0 : (0 : Int) < (p.length : Int) := by omega
  have h1 : (p.length : Int) ≤ 2000 := by omega
  have hd : ((p.length : Int) == 0) = false := beq_eq_false_iff_ne.2 (by omega)
  have hpp : (p == p) = true := by simp
  have HA := Lib.hid ha
  have HZ := Lib.hid (show 0 < p.length by omega)
  have HS := Lib.hid hs
  have kf := field2
  clear ha hz hs
  go_enter Try.func8, Try.ntmps8
  go_wp2_with fail
  refine (awake_any w).mono ?_
  rintro e w1 ⟨rfl, hb1⟩
  have HB1 := Lib.hid hb1
  clear hb1
  go_wp2_with fail
  refine (sopen_any 5000 w1 (by omega) (by omega)).mono ?_
  rintro e w2 ⟨D, T, St, rfl, h2, hb2, -⟩
  have HB2 := Lib.hid (HB1.out.trans (hb2.mono HB1.out.size))
  have hge : ∀ k, w1.heap.size ≤ k ∧ k < w2.heap.size → w1.heap.size ≤ k := fun k hk => hk.1
  obtain ⟨R, hR⟩ : ∃ R, (fun k => w1.heap.size ≤ k ∧ k < w2.heap.size) = R := ⟨_, rfl⟩
  rw [hR] at h2
  have hge : ∀ k, R k → w1.heap.size ≤ k := by subst hR; exact fun k hk => hk.1
  clear hR
  obtain ⟨o, cap, w3, hr, ho, hg, -, -⟩ := append_two (World.ownsRow_nil w2 w2.heap.size 5 1) (l := []) (HA.out.below HB2.out) (by have := HS.out; simp; omega) (Nat.le_refl _) 22
  simp only [List.length_nil, Nat.zero_add, List.nil_append] at hr ho
  have hb3 : Below w2.heap.size w2 w3 := (Below.refl _ w2).grown hg (Nat.le_refl _) (by intro k hk; cases hk)
  have hlt2 := h2.lt
  have HA3 := Lib.hid (h2.below hb3)
  have HB3 := Lib.hid (HB2.out.trans (hb3.mono HB2.out.size))
  have hs1 := HB1.out.size
  have hs2 := hb2.size
  have hs3 := hb3.size
  obtain ⟨gq, cq, hq, hgq0, hgq1, -, -⟩ := own_form ho HZ.out
  injection hq with hq1 _ hq3
  subst hq1 hq3
  have hnq : ¬ R gq := fun h => by have := hlt2 gq h; omega
  have hxo : ∀ g, (Value.slice (some (⟨gq, 0, none⟩ : Addr)) p.length cap).ownBlock = some g → ¬ R g := fun g hg => by
    have : gq = g := by simpa [Value.ownBlock] using hg
    rw [← this]; exact hnq
  have HO3 := Lib.hid ho
  have H4 := Lib.hid (save_ok ⟨1, 0, p⟩ _ w3 HA3.out (sg_new 5000) (by omega) (Hx.own ho hxo) (by show 1 < 18446744073709551616; decide) (by show 0 < 18446744073709551616; decide) (by show 0 < 1; omega) (by show p.length + 31 ≤ 5000; have := HS.out; omega) rfl (by show 0 ≤ 900000; omega))
  unfold snV at H4
  have HXO := Lib.hid hxo
  have HNQ := Lib.hid hnq
  clear h2 ho hg hb2 hb3 hlt2 hxo hnq
  go_wp2_with (at_builtin; refine wpList_append_known rfl _ _ _ _ rfl _ _ _ rfl rfl hr ?_)
  refine H4.out.mono ?_
  rintro e w4 ⟨s4, rfl, ha4, hg4, hn4, -, -, hk4⟩
  have HB4 := Lib.hid (HB3.out.trans (hk4.below (by omega) (fun k hk => by have := hge k hk; omega)))
  have hq4 := own_kept HO3.out hk4 HXO.out
  have hnq4 : ¬ Fr R w3 w4 gq := Fr.out HNQ.out hgq1
  have hs4 := hk4.size
  have hge4 := Fr.ge (w' := w4) hge (by omega : w1.heap.size ≤ w3.heap.size)
  generalize Fr R w3 w4 = R4 at *
  obtain ⟨g', c', hq', _, _, hcq, hfq⟩ := own_form hq4 HZ.out
  injection hq' with hq1 _ hq3
  injection hq1 with hq1
  injection hq1 with hq1 _ _
  subst hq1 hq3
  obtain ⟨x0, hx0⟩ : ∃ x0, p[0]? = some x0 := ⟨p[0]'HZ.out, List.getElem?_eq_getElem _⟩
  have hc0 := hcq 0 x0 hx0
  have hf0 := hfq 0
  unfold B at hc0
  have CR := Lib.hid (fun X => snap_any (w4.setCell ⟨gq, 0, none⟩ X) (ha4.beside hnq4 0 X))
  have CB := Lib.hid (fun X : Value => HB4.out.setCell (p := ⟨gq, 0, none⟩) (by show w.heap.size ≤ gq; omega) X)
  have CA := Lib.hid (fun X : Value => ha4.beside hnq4 0 X)
  have hsX : ∀ X : Value, (w4.setCell ⟨gq, 0, none⟩ X).heap.size = w4.heap.size := fun X => by simp [World.setCell]
  have HSX := Lib.hid hsX
  have HN4 := Lib.hid hn4
  have HL4 := Lib.hid ha4.lt
  clear hsX ha4 hg4 hk4 hq4 hcq hfq hx0 H4 hnq4 HXO HNQ HO3 hn4
  go_wp2_with fail
  refine (CR.out _).mono ?_
  rintro e w5 ⟨v5, rfl, ho5, hb5⟩
  rw [HN4.out] at ho5 ⊢
  have HB5 := Lib.hid ((CB.out _).trans (hb5.mono (by have := (CB.out (.int .u8 0)).size; rw [HSX.out] at this ⊢; exact this)))
  have hA5 := (CA.out _).below hb5
  obtain ⟨g5, c5, rfl, hg50, hg51, hcq, hfq⟩ := own_form ho5 HZ.out
  rw [HSX.out] at hg50
  obtain ⟨x1, hx1⟩ : ∃ x0, p[0]? = some x0 := ⟨p[0]'HZ.out, List.getElem?_eq_getElem _⟩
  have hb6 : Below w5.heap.size w5 (w5.alloc (.cells #[.int .u64 1, .int .u64 0, .slice (some ⟨g5, 0, none⟩) p.length c5] 55)) := (Below.refl _ _).alloc (Nat.le_refl _) _
  have HB6 := Lib.hid (HB5.out.trans (hb6.mono HB5.out.size))
  have hn6 := heap_alloc_new w5 (.cells #[.int .u64 1, .int .u64 0, .slice (some ⟨g5, 0, none⟩) p.length c5] 55)
  have hA6 := hA5.below hb6
  have ht5 : (convert 22 9 (.slice (some ⟨g5, 0, none⟩) p.length c5)).run Try.prog (w5.alloc (.cells #[.int .u64 1, .int .u64 0, .slice (some ⟨g5, 0, none⟩) p.length c5] 55)) = .ok (.string ⟨p.toArray⟩) _ := toStr ((Rd.of_own ho5).below hb6)
  have htp : (convert 22 9 (.slice oa p.length ca)).run Try.prog (w5.alloc (.cells #[.int .u64 1, .int .u64 0, .slice (some ⟨g5, 0, none⟩) p.length c5] 55)) = .ok (.string ⟨p.toArray⟩) _ := toStr (HA.out.below HB6.out)
  have cx := cell_alloc (hcq 0 x1 hx1) (.cells #[.int .u64 1, .int .u64 0, .slice (some ⟨g5, 0, none⟩) p.length c5] 55)
  unfold B at cx
  have fx : (w5.alloc (.cells #[.int .u64 1, .int .u64 0, .slice (some ⟨g5, 0, none⟩) p.length c5] 55)).frozen? ⟨g5, 0, none⟩ = false := (World.frozen?_of_block (Below.heap_alloc _ _ _ hg51)).trans (hfq 0)
  have hs6 : (w5.alloc (.cells #[.int .u64 1, .int .u64 0, .slice (some ⟨g5, 0, none⟩) p.length c5] 55)).heap.size = w5.heap.size + 1 := by simp
  clear hb6 hcq hfq hx1 hA5 hb5 ho5 hc0 hf0
  unfold snV
  go_upto_region 9 with fail
  obtain ⟨b0, b1, b2, -, -, -, bl⟩ := kept3 hn6
  have hg5l : g5 ≠ w5.heap.size := by omega
  have hA6X := fun X : Value => hA6.beside (g := g5) (fun h => by have := HL4.out g5 h; omega) 0 X
  have HA6X := Lib.hid hA6X
  have HG5 := Lib.hid (show w.heap.size ≤ g5 by have := HB4.out.size; omega)
  generalize w5.alloc (.cells #[.int .u64 1, .int .u64 0, .slice (some ⟨g5, 0, none⟩) p.length c5] 55) = w6 at *
  generalize hb5g : w5.heap.size = b5 at *
  clear hn6 hA6 hA6X CR CB CA
  go_wp2_with fail
  go_region
  go_wp2_with fail
  have hA7 := (show SAt (w6.setCell ⟨g5, 0, none⟩ (.int .u8 (bits .xor .u8 (x1.toNat : Int) 2))).drew.drew R4 St D T s4 from (HA6X.out (.int .u8 (bits .xor .u8 (x1.toNat : Int) 2))).block (fun _ _ => rfl) (Nat.le_refl _) (fun _ h => h) (fun k hk => (HA6X.out (.int .u8 (bits .xor .u8 (x1.toNat : Int) 2))).lt k hk))
  have HB7 := Lib.hid (show Below w.heap.size w (w6.setCell ⟨g5, 0, none⟩ (.int .u8 (bits .xor .u8 (x1.toNat : Int) 2))).drew.drew from (HB6.out.setCell (p := ⟨g5, 0, none⟩) HG5.out _).drew.drew)
  generalize (w6.setCell ⟨g5, 0, none⟩ (.int .u8 (bits .xor .u8 (x1.toNat : Int) 2))).drew = w7 at *
  have CS := Lib.hid (snap_any w7.drew hA7)
  have t7 : (convert 22 9 (.slice oa p.length ca)).run Try.prog w7.drew = .ok (.string ⟨p.toArray⟩) w7.drew := toStr (HA.out.below HB7.out)
  clear hA7 HA6X b0 b1 b2 bl ht5 htp cx fx hs6
  refine wp_onlyN ?_
  refine wp_region_held_drew (S := fun w' => (convert 22 9 (.slice oa p.length ca)).run Try.prog w' = .ok (.string ⟨p.toArray⟩) w') (by kernel_rfl) t7 ?_
  intro hHeld
  refine wpAnyH_take (i := 0) (v := ?_) (by simp only [List.getElem?_toArray, List.getElem?_cons_zero]; rfl) (by kernel_rfl) (by kernel_rfl) (by kernel_rfl) (by intro _ _ _ h; exact h) (Or.inl ⟨by rfl, ?_⟩) (by assumption) ?_
  rotate_left
  · (intro w hSw; (try dsimp only at hSw); go_simp; try with_reducible rfl)
  try simp only [Act.put, List.setIfInBounds_toArray, List.set_cons_zero, List.set_cons_succ]
  refine wpAnyH_take (i := 4) (v := ?_) (by simp only [List.getElem?_toArray, List.getElem?_cons_succ, List.getElem?_cons_zero]; rfl) (by kernel_rfl) (by kernel_rfl) (by kernel_rfl) (by intro _ _ _ h; exact h) (Or.inl ⟨by rfl, ?_⟩) (by assumption) ?_
  rotate_left
  · (intro w hSw; (try dsimp only at hSw); go_simp; try with_reducible rfl)
  try simp only [Act.put, List.setIfInBounds_toArray, List.set_cons_zero, List.set_cons_succ]
  refine wpAnyH_take (i := 5) (v := ?_) (by simp only [List.getElem?_toArray, List.getElem?_cons_succ, List.getElem?_cons_zero]; rfl) (by kernel_rfl) (by kernel_rfl) (by kernel_rfl) (by intro _ _ _ h; exact h) (Or.inl ⟨by rfl, ?_⟩) (by assumption) ?_
  rotate_left
  · (intro w hSw; (try dsimp only at hSw); go_simp; try with_reducible rfl)
  try simp only [Act.put, List.setIfInBounds_toArray, List.set_cons_zero, List.set_cons_succ]
  refine wpAnyH_ready (rs := [1]) (by kernel_rfl) (by simp) ?_
  refine AllReadyH.cons (by simp only [List.getElem?_toArray, List.getElem?_cons_succ, List.getElem?_cons_zero]; rfl) (fun K hK => ?_) AllReadyH.nil
  go_simp
  refine (CS.out).mono ?_
  rintro e w8 ⟨v8, rfl, ho8, hb8⟩
  have HB8 := Lib.hid (HB7.out.trans (hb8.mono HB7.out.size))
  rw [HN4.out] at ho8 ⊢
  have t8 : (convert 22 9 (.slice oa p.length ca)).run Try.prog w8 = .ok (.string ⟨p.toArray⟩) w8 := toStr (HA.out.below HB8.out)
  obtain ⟨g8, c8, rfl, -, -, -, -⟩ := own_form ho8 HZ.out
  have u8 : (convert 22 9 (.slice (some ⟨g8, 0, none⟩) p.length c8)).run Try.prog w8 = .ok (.string ⟨p.toArray⟩) w8 := toStr (Rd.of_own ho8)
  clear ho8 hb8
  unfold snV
  dsimp only
  refine hK.out _ _ t8 (fun hHeld => ?_)
  clear hK K
  try simp only [Act.put, List.setIfInBounds_toArray, List.set_cons_zero, List.set_cons_succ]
  refine wpAnyH_take (i := 2) (v := ?_) (by simp only [List.getElem?_toArray, List.getElem?_cons_succ, List.getElem?_cons_zero]; rfl) (by kernel_rfl) (by kernel_rfl) (by kernel_rfl) (by intro _ _ _ h; exact h) (Or.inl ⟨by rfl, ?_⟩) (by assumption) ?_
  rotate_left
  · (intro w hSw; (try dsimp only at hSw); go_simp; try with_reducible rfl)
  try simp only [Act.put, List.setIfInBounds_toArray, List.set_cons_zero, List.set_cons_succ]
  refine wpAnyH_ready (rs := [3]) (by kernel_rfl) (by simp) ?_
  refine AllReadyH.cons (by simp only [List.getElem?_toArray, List.getElem?_cons_succ, List.getElem?_cons_zero]; rfl) (fun K hK => ?_) AllReadyH.nil
  go_simp
  refine hK.out _ _ t8 (fun hHeld => ?_)
  clear hK K
  try simp only [Act.put, List.setIfInBounds_toArray, List.set_cons_zero, List.set_cons_succ]
  refine wpAnyH_take (i := 6) (v := ?_) (by simp only [List.getElem?_toArray, List.getElem?_cons_succ, List.getElem?_cons_zero]; rfl) (by kernel_rfl) (by kernel_rfl) (by kernel_rfl) (by intro _ _ _ h; exact h) (Or.inl ⟨by rfl, ?_⟩) (by assumption) ?_
  rotate_left
  · (intro w hSw; (try dsimp only at hSw); go_simp; try with_reducible rfl)
  try simp only [Act.put, List.setIfInBounds_toArray, List.set_cons_zero, List.set_cons_succ]
  refine wpAnyH_take (i := 7) (v := ?_) (by simp only [List.getElem?_toArray, List.getElem?_cons_succ, List.getElem?_cons_zero]; rfl) (by kernel_rfl) (by kernel_rfl) (by kernel_rfl) (by intro _ _ _ h; exact h) (Or.inl ⟨by rfl, ?_⟩) (by assumption) ?_
  rotate_left
  · (intro w hSw; (try dsimp only at hSw); go_simp; try with_reducible rfl)
  try simp only [Act.put, List.setIfInBounds_toArray, List.set_cons_zero, List.set_cons_succ]
  refine wpAnyH_done (by kernel_rfl) ?_ _
  dsimp only [onlyN]
  go_wp2_with fail
  go_ret
  exact ⟨rfl, HB8.out⟩

/-- The law, whatever comes in. -/
theorem stkeeps_walk (a : Value) (p : List UInt8) (w : World) (ha : Rd w a p) (hp : p.length ≤ 140737488351232) :
    Calls Try.prog 8 #[a] w fun e w' => e = .returned (.bool true) ∧ Below w.heap.size w w' := by
  by_cases h : p.length = 0 ∨ 2000 < p.length
  · exact stkeeps_out a p w ha hp h
  · exact stkeeps_in a p w ha (by omega) (by omega)
end Go.Proofs.Ytonahfpnlaolpaa
