/- The law of what was laid: told as often as one asks, and apart. -/
import Derived.Test.YtbjigdicooochaaOctE
import Derived.Deep.RegionHeld3
namespace Go.Proofs.Ytbjigdicooochaa
open Go.RowKit OctM

theorem own_form {w : World} {base : Nat} {v : Value} {l : List UInt8} (h : Own w base v l) (hl : 0 < l.length) :
    ∃ g c, v = .slice (some ⟨g, 0, none⟩) l.length c ∧ base ≤ g ∧ g < w.heap.size ∧ l.length ≤ c ∧ c ≤ maxLen ∧ ∀ j u, l[j]? = some u → w.cell? ⟨g, j, none⟩ = some (B u) := by
  have hc := fun g => World.ownsRow.cells h (g := g)
  have hlt := h.lt
  rcases h.2 with ⟨_, hn⟩ | ⟨g, cap, cur, rfl, hb, hg, hn, hm, _⟩
  · omega
  · refine ⟨g, cap, rfl, hb, (hlt g rfl).2, hn, hm, fun j u hu => ?_⟩
    have := hc g rfl j (B u) (by simp [Bs, hu])
    rw [add_none, Nat.zero_add] at this
    exact this

theorem own_free {w : World} {base g n c : Nat} {l : List UInt8} (h : Own w base (.slice (some ⟨g, 0, none⟩) n c) l) (hl : 0 < l.length) (i : Nat) : w.frozen? ⟨g, i, none⟩ = false := by
  rcases h.2 with ⟨_, hn⟩ | ⟨g', cap, cur, hv, _, hg, _⟩
  · omega
  · injection hv with hv _ _
    injection hv with hv
    injection hv with hv _ _
    subst hv
    simp [World.frozen?, hg]

theorem Rd.block {w w' : World} {g off n c : Nat} {l : List UInt8} (h : Rd w (.slice (some ⟨g, off, none⟩) n c) l) (hb : w'.heap[g]? = w.heap[g]?) : Rd w' (.slice (some ⟨g, off, none⟩) n c) l := by
  rcases h with ⟨h, _⟩ | ⟨a, c, hv, hl, hm, hc⟩
  · cases h
  · refine .inr ⟨a, c, hv, hl, hm, fun j u hu => ?_⟩
    injection hv with hv _ _
    injection hv with hv
    subst hv
    have := hc j u hu
    rw [add_none] at this ⊢
    exact (World.cell?_of_block (w := w) hb).trans this

theorem own_set {w : World} {base : Nat} {v : Value} {l : List UInt8} (h : Own w base v l) {a : Addr} (ha : v.ownBlock ≠ some a.block) (u : Value) : Own (w.setCell a u) base v l := ownsRow_setCell_other h ha u

set_option maxHeartbeats 4000000 in
set_option maxRecDepth 100000 in
theorem done_out (a b : Value) (la lb : List UInt8) (w : World) (ha : Rd w a la) (hb : Rd w b lb) (hal : la.length ≤ 140737488351232) (hbl : lb.length ≤ 140737488351232) (h : la.length = 0 ∨ 5000 < la.length + lb.length) :
    Calls Try.prog 9 #[a, b] w fun e w' => e = .returned (.bool true) ∧ Below w.heap.size w w' := by
  obtain ⟨oa, ca, rfl⟩ : ∃ o c, a = .slice o la.length c := by
    rcases ha with ⟨rfl, rfl⟩ | ⟨_, c, rfl, _⟩ <;> exact ⟨_, _, rfl⟩
  obtain ⟨ob, cb, rfl⟩ : ∃ o c, b = .slice o lb.length c := by
    rcases hb with ⟨rfl, rfl⟩ | ⟨_, c, rfl, _⟩ <;> exact ⟨_, _, rfl⟩
  have h0 : (0 : Int) ≤ (la.length : Int) := by omega
  have h1 : (la.length : Int) ≤ 140737488351232 := by omega
  have h2 : (0 : Int) ≤ (lb.length : Int) := by omega
  have h3 : (lb.length : Int) ≤ 140737488351232 := by omega
  clear ha hb
  by_cases hz : la.length = 0
  · have hd : ((la.length : Int) == 0) = true := by simp [hz]
    clear hz h
    go_enter Try.func9, Try.ntmps9
    go_wp2_with fail
    refine (awake w).mono ?_
    rintro e w1 ⟨rfl, hb1⟩
    go_wp2_with fail
    refine (awake w1).mono ?_
    rintro e w2 ⟨rfl, hb2⟩
    go_wp2_with fail
    go_ret
    exact ⟨rfl, hb1.trans (hb2.mono hb1.size)⟩
  · have hd : ((la.length : Int) == 0) = false := beq_eq_false_iff_ne.2 (by omega)
    have hd2 : (5000 : Int) < (la.length : Int) + (lb.length : Int) := by omega
    clear hz h
    go_enter Try.func9, Try.ntmps9
    go_wp2_with fail
    refine (awake w).mono ?_
    rintro e w1 ⟨rfl, hb1⟩
    go_wp2_with fail
    refine (awake w1).mono ?_
    rintro e w2 ⟨rfl, hb2⟩
    go_wp2_with fail
    go_ret
    exact ⟨rfl, hb1.trans (hb2.mono hb1.size)⟩

set_option maxHeartbeats 8000000 in
set_option maxRecDepth 100000 in
theorem done_in (a b : Value) (la lb : List UInt8) (w : World) (ha : Rd w a la) (hb : Rd w b lb) (hz : la.length ≠ 0) (hs : la.length + lb.length ≤ 5000) :
    Calls Try.prog 9 #[a, b] w fun e w' => e = .returned (.bool true) ∧ Below w.heap.size w w' := by
  obtain ⟨oa, ca, rfl⟩ : ∃ o c, a = .slice o la.length c := by
    rcases ha with ⟨rfl, rfl⟩ | ⟨_, c, rfl, _⟩ <;> exact ⟨_, _, rfl⟩
  obtain ⟨ob, cb, rfl⟩ : ∃ o c, b = .slice o lb.length c := by
    rcases hb with ⟨rfl, rfl⟩ | ⟨_, c, rfl, _⟩ <;> exact ⟨_, _, rfl⟩
  have h0 : (0 : Int) ≤ (la.length : Int) := by omega
  have h1 : (la.length : Int) ≤ 5000 := by omega
  have h2 : (0 : Int) ≤ (lb.length : Int) := by omega
  have h3 : (la.length : Int) + (lb.length : Int) ≤ 5000 := by omega
  have hd : ((la.length : Int) == 0) = false := beq_eq_false_iff_ne.2 (by omega)
  have hea := encB_length la
  have heb := encB_length lb
  have HA := Lib.hid ha
  have HB := Lib.hid hb
  clear ha hb hz
  go_enter Try.func9, Try.ntmps9
  go_wp2_with fail
  refine (awake w).mono ?_
  rintro e w1 ⟨rfl, hb1⟩
  have s1 := hb1.size
  have hw1 : WAt (w1.alloc (.cells #[.slice none 0 0] 27)) w1.heap.size w1.heap.size (.slice none 0 0) [] := wnew (heap_alloc_new w1 _) _
  have hb1' : Below w.heap.size w (w1.alloc (.cells #[.slice none 0 0] 27)) := hb1.alloc s1 _
  have s1' : (w1.alloc (.cells #[.slice none 0 0] 27)).heap.size = w1.heap.size + 1 := by simp
  have HS := Lib.hid s1'
  clear s1' hb1
  have C := Lib.hid (wbytes w1.heap.size w1.heap.size _ [] (.slice oa la.length ca) la _ hw1 (by have := HS.out; omega) (HA.out.below hb1')
    (fun w' hk => HA.out.below (hb1'.trans (hk.below (by have := HS.out; omega) (by simp [two, Value.ownBlock]; omega)))) (by simp; omega))
  go_wp2_with fail
  refine C.out.mono ?_
  rintro e w2 ⟨rfl, ⟨v2, hw2, hv2⟩, hk2⟩
  have hb2 : Below w.heap.size w w2 := hb1'.trans (hk2.below (by have := HS.out; omega) (by simp [two, Value.ownBlock]; omega))
  have s2 := hk2.size
  rw [HS.out] at s2
  rw [List.nil_append] at hw2
  clear hk2 hw1 hb1' C
  go_wp2_with fail
  refine (wdone _ _ _ _ _ hw2 (by omega)).mono ?_
  rintro e w3 ⟨v3, rfl, ho3, hb3⟩
  have s3 := hb3.size
  have hw3 := hw2.below hb3
  have hb3' : Below w.heap.size w w3 := hb2.trans (hb3.mono (by omega))
  have hl2 := hw2.own.lt
  have hl3 := ho3.lt
  clear hw2 hb2 hb3
  go_wp2_with fail
  refine (wdone _ _ _ _ _ hw3 (by omega)).mono ?_
  rintro e w4 ⟨v4, rfl, ho4, hb4⟩
  have s4 := hb4.size
  have hw4 := hw3.below hb4
  have ho3' := own_below ho3 hb4 (Nat.le_refl _)
  have hb4' : Below w.heap.size w w4 := hb3'.trans (hb4.mono (by omega))
  clear hw3 hb3' hb4 ho3
  have hposA : 0 < (encB la).length := by simp [encB, enc_length]; omega
  have hposB : 0 < (encB lb).length := by simp [encB, enc_length]; omega
  obtain ⟨g3, c3, rfl, hg3, hg3', hc3, hm3, hcell3⟩ := own_form ho3' hposA
  obtain ⟨g4, c4, rfl, hg4, hg4', hc4, hm4, hcell4⟩ := own_form ho4 hposA
  have hg33 := (hl3 g3 rfl).2
  have ht3 := toStr' ho3'
  have ht4 := toStr' ho4
  obtain ⟨x, t, hxt⟩ : ∃ x t, encB la = x :: t := ⟨_, _, rfl⟩
  have hc30 : w4.cell? ⟨g3, 0, none⟩ = some (.int .u8 (x.toNat : Int)) := hcell3 0 x (by rw [hxt]; rfl)
  have hf30 := own_free ho3' hposA 0
  have hxb : (x.toNat : Int) < 256 := by have := x.toNat_lt; omega
  unfold maxLen at hm3 hm4
  have hpi : (0 : Int) < ((encB la).length : Int) := by omega
  clear hcell3 hcell4
  have HXT := Lib.hid hxt
  clear hxt
  go_wp2_with fail
  generalize hu : Value.int IntKind.u8 (bits BinOp.xor IntKind.u8 (x.toNat : Int) 1) = u at *
  clear hu
  have hne2 : v2.ownBlock ≠ some g3 := fun e => by have := (hl2 g3 e).2; omega
  have hA2 : w1.heap.size ≠ g3 := by omega
  have hw5 : WAt (w4.setCell ⟨g3, 0, none⟩ u) w1.heap.size w1.heap.size v2 (encB la) := ⟨(Below.heap_setCell _ _ _ _ hA2).trans hw4.cell, own_set hw4.own hne2 u⟩
  have ho5 : Own (w4.setCell ⟨g3, 0, none⟩ u) w3.heap.size (.slice (some ⟨g4, 0, none⟩) (encB la).length c4) (encB la) := own_set ho4 (by simp only [Value.ownBlock, ne_eq, Option.some.injEq]; show ¬ g4 = g3; omega) u
  have hb5 : Below w.heap.size w (w4.setCell ⟨g3, 0, none⟩ u) := hb4'.setCell (by show w.heap.size ≤ g3; omega) u
  have s5 : (w4.setCell ⟨g3, 0, none⟩ u).heap.size = w4.heap.size := by simp [World.setCell]
  clear hw4 ho4 hb4' ht3 ht4 hc30 hf30 ho3'
  generalize w4.setCell ⟨g3, 0, none⟩ u = w5 at *
  have S5 := Lib.hid s5
  clear s5
  refine (wbytes w1.heap.size w1.heap.size v2 (encB la) (.slice ob lb.length cb) lb w5 hw5 (by have := S5.out; omega) (HB.out.below hb5)
    (fun w' hk => HB.out.below (hb5.trans (hk.below (by have := S5.out; omega) (by rintro k (rfl | hk); omega; have := (hl2 k hk).1; omega)))) (by omega)).mono ?_
  rintro e w6 ⟨rfl, ⟨v6, hw6, -⟩, hk6⟩
  have s6 := hk6.size
  rw [S5.out] at s6
  have ho6 := own_kept ho5 hk6 (by
    intro k hk
    simp only [Value.ownBlock, Option.some.injEq] at hk
    rintro (h | h)
    · omega
    · have := (hl2 k h).2; omega)
  have hb6 : Below w.heap.size w w6 := hb5.trans (hk6.below (by have := S5.out; omega) (by rintro k (rfl | hk); omega; have := (hl2 k hk).1; omega))
  clear hk6 hb5 ho5 hw5
  have hlen6 : (encB la ++ encB lb).length ≤ 6000 := by rw [List.length_append]; omega
  go_wp2_with fail
  refine (wdone _ _ _ _ _ hw6 (by omega)).mono ?_
  rintro e w7 ⟨v7, rfl, ho7, hb7⟩
  have s7 := hb7.size
  have ho4 := own_below ho6 hb7 (Nat.le_refl _)
  have hb7' : Below w.heap.size w w7 := hb6.trans (hb7.mono (by omega))
  clear hb6 hb7 hw6 ho6
  obtain ⟨g7, c7, rfl, hg7, hg7', hc7, hm7, hcell7⟩ := own_form ho7 (by rw [List.length_append]; omega)
  have hlenN : (encB la ++ encB lb).length = (encB la).length + (encB lb).length := List.length_append
  have rt7 : Rd w7 (.slice (some ⟨g7, (encB la).length, none⟩) (encB lb).length (c7 - (encB la).length)) (encB lb) :=
    .inr ⟨_, _, rfl, by omega, by omega, fun j u hu => by
      rw [add_none]
      refine hcell7 _ u ?_
      rw [List.getElem?_append_right (by omega), Nat.add_sub_cancel_left]
      exact hu⟩
  have c70 : w7.cell? ⟨g7, 0, none⟩ = some (.int .u8 (x.toNat : Int)) := hcell7 0 x (by rw [HXT.out]; rfl)
  have hwD : WAt (w7.alloc (.cells #[.slice none 0 0] 27)) w7.heap.size w7.heap.size (.slice none 0 0) [] := wnew (heap_alloc_new w7 _) _
  have c80 : (w7.alloc (.cells #[.slice none 0 0] 27)).cell? ⟨g7, 0, none⟩ = some (.int .u8 (x.toNat : Int)) := cell_alloc c70 _
  have hal : Below w7.heap.size w7 (w7.alloc (.cells #[.slice none 0 0] 27)) := (Below.refl _ _).alloc (Nat.le_refl _) _
  have rt8 := rt7.below hal
  have ht8 := toStr (show Rd (w7.alloc (.cells #[.slice none 0 0] 27)).drew _ _ from rt8.below (Below.refl _ _).drew)
  have ho8 := own_below ho4 hal (Nat.le_refl _)
  have hq8 := toStr' (show Own (w7.alloc (.cells #[.slice none 0 0] 27)).drew _ _ _ from ho8)
  have hb8 : Below w.heap.size w (w7.alloc (.cells #[.slice none 0 0] 27)) := hb7'.alloc (by omega) _
  have s8 : (w7.alloc (.cells #[.slice none 0 0] 27)).heap.size = w7.heap.size + 1 := by simp
  have S8 := Lib.hid s8
  have hL0 : (0 : Int) ≤ ((encB la).length : Int) := by omega
  have hLN : ((encB la).length : Int) < ((encB la).length : Int) + ((encB lb).length : Int) := by omega
  have hLc : ((encB la).length : Int) + ((encB lb).length : Int) ≤ (c7 : Int) := by omega
  have hLc2 : (encB la).length < c7 := by omega
  have hm7' : (c7 : Int) ≤ 9223372036854775807 := by unfold maxLen at hm7; omega
  have hLc3 : ((encB la).length : Int) < (c7 : Int) := by omega
  have hLc4 : ¬ c7 = (encB la).length := by omega
  have hsl : ∀ W, (Instr.slice 25 (.slice (some ⟨g7, 0, none⟩) ((encB la).length + (encB lb).length) c7) (some (.int .i64 ((encB la).length : Int))) none none).run Try.prog W = .ok (.slice (some ⟨g7, (encB la).length, none⟩) (encB lb).length (c7 - (encB la).length)) W := by
    intro W
    simp [go_sem, *]
    intro h
    exact absurd h (by omega)
  have hposN : (0 : Int) < ((encB la).length : Int) + ((encB lb).length : Int) := by omega
  have hs0 : ∀ h : 0 < (encB la).length, (encB la)[0]'h = x := by rw [HXT.out]; intro _; rfl
  have hs1 : ∀ h : 0 < (⟨(encB la).toArray⟩ : ByteArray).size, (⟨(encB la).toArray⟩ : ByteArray)[0]'h = x := by rw [HXT.out]; intro _; rfl
  clear s8 hal ho4 rt7 c70 hb7' hcell7 ho7 hlenN
  go_wp2_with fail
  generalize w7.alloc (.cells #[.slice none 0 0] 27) = w8 at *
  unfold S at ht8
  generalize w7.heap.size = D at *
  refine wp_region_held_drew (S := fun w' => (convert 25 9 (.slice (some ⟨g4, 0, none⟩) (encB la).length c4)).run Try.prog w' = .ok (.string ⟨(encB la).toArray⟩) w' ∧
          w'.cell? ⟨g7, 0, none⟩ = some (.int .u8 (x.toNat : Int)) ∧
          (convert 25 9 (.slice (some ⟨g7, (encB la).length, none⟩) (encB lb).length (c7 - (encB la).length))).run Try.prog w' = .ok (.string ⟨(encB lb).toArray⟩) w') (by kernel_rfl) ⟨hq8, c80, ht8⟩ ?_
  intro hHeld
  refine wpAnyH_take (i := 0) (v := ?_) (by simp only [List.getElem?_toArray, List.getElem?_cons_zero]; rfl) (by kernel_rfl) (by kernel_rfl) (by kernel_rfl) (by intro _ _ _ h; exact h) (Or.inl ⟨by rfl, ?_⟩) (by assumption) ?_
  rotate_left
  · (intro w hSw; (try dsimp only at hSw); go_simp; try with_reducible rfl)
  try simp only [Act.put, List.setIfInBounds_toArray, List.set_cons_zero, List.set_cons_succ]
  refine wpAnyH_take (i := 1) (v := ?_) (by simp only [List.getElem?_toArray, List.getElem?_cons_succ, List.getElem?_cons_zero]; rfl) (by kernel_rfl) (by kernel_rfl) (by kernel_rfl) (by intro _ _ _ h; exact h) (Or.inl ⟨by rfl, ?_⟩) (by assumption) ?_
  rotate_left
  · (intro w hSw; (try dsimp only at hSw); go_simp; try with_reducible rfl)
  try simp only [Act.put, List.setIfInBounds_toArray, List.set_cons_zero, List.set_cons_succ]
  refine wpAnyH_take (i := 2) (v := ?_) (by simp only [List.getElem?_toArray, List.getElem?_cons_succ, List.getElem?_cons_zero]; rfl) (by kernel_rfl) (by kernel_rfl) (by kernel_rfl) (by intro _ _ _ h; exact h) (Or.inl ⟨by rfl, ?_⟩) (by assumption) ?_
  rotate_left
  · (intro w hSw; (try dsimp only at hSw); go_simp; try with_reducible rfl)
  try simp only [Act.put, List.setIfInBounds_toArray, List.set_cons_zero, List.set_cons_succ]
  refine wpAnyH_take (i := 3) (v := ?_) (by simp only [List.getElem?_toArray, List.getElem?_cons_succ, List.getElem?_cons_zero]; rfl) (by kernel_rfl) (by kernel_rfl) (by kernel_rfl) (by intro _ _ _ h; exact h) (Or.inl ⟨by rfl, ?_⟩) (by assumption) ?_
  rotate_left
  · (intro w hSw; (try dsimp only at hSw); go_simp; try with_reducible rfl)
  try simp only [Act.put, List.setIfInBounds_toArray, List.set_cons_zero, List.set_cons_succ]
  refine wpAnyH_take (i := 4) (v := ?_) (by simp only [List.getElem?_toArray, List.getElem?_cons_succ, List.getElem?_cons_zero]; rfl) (by kernel_rfl) (by kernel_rfl) (by kernel_rfl) (by intro _ _ _ h; exact h) (Or.inl ⟨by rfl, ?_⟩) (by assumption) ?_
  rotate_left
  · (intro w hSw; (try dsimp only at hSw); go_simp; try with_reducible rfl)
  try simp only [Act.put, List.setIfInBounds_toArray, List.set_cons_zero, List.set_cons_succ]
  refine wpAnyH_take (i := 5) (v := ?_) (by simp only [List.getElem?_toArray, List.getElem?_cons_succ, List.getElem?_cons_zero]; rfl) (by kernel_rfl) (by kernel_rfl) (by kernel_rfl) (by intro _ _ _ h; exact h) (Or.inl ⟨by rfl, ?_⟩) (by assumption) ?_
  rotate_left
  · (intro w hSw; (try dsimp only at hSw); go_simp; try with_reducible rfl)
  try simp only [Act.put, List.setIfInBounds_toArray, List.set_cons_zero, List.set_cons_succ]
  refine wpAnyH_take (i := 6) (v := ?_) (by simp only [List.getElem?_toArray, List.getElem?_cons_succ, List.getElem?_cons_zero]; rfl) (by kernel_rfl) (by kernel_rfl) (by kernel_rfl) (by intro _ _ _ h; exact h) (Or.inl ⟨by rfl, ?_⟩) (by assumption) ?_
  rotate_left
  · (intro w hSw; (try dsimp only at hSw); go_simp; try with_reducible rfl)
  try simp only [Act.put, List.setIfInBounds_toArray, List.set_cons_zero, List.set_cons_succ]
  refine wpAnyH_take (i := 7) (v := ?_) (by simp only [List.getElem?_toArray, List.getElem?_cons_succ, List.getElem?_cons_zero]; rfl) (by kernel_rfl) (by kernel_rfl) (by kernel_rfl) (by intro _ _ _ h; exact h) (Or.inl ⟨by rfl, ?_⟩) (by assumption) ?_
  rotate_left
  · (intro w hSw; (try dsimp only at hSw); go_simp; try with_reducible rfl)
  try simp only [Act.put, List.setIfInBounds_toArray, List.set_cons_zero, List.set_cons_succ]
  refine wpAnyH_take (i := 8) (v := ?_) (by simp only [List.getElem?_toArray, List.getElem?_cons_succ, List.getElem?_cons_zero]; rfl) (by kernel_rfl) (by kernel_rfl) (by kernel_rfl) (by intro _ _ _ h; exact h) (Or.inl ⟨by rfl, ?_⟩) (by assumption) ?_
  rotate_left
  · (intro w hSw; (try dsimp only at hSw); go_simp; try with_reducible rfl)
  try simp only [Act.put, List.setIfInBounds_toArray, List.set_cons_zero, List.set_cons_succ]
  refine wpAnyH_take (i := 9) (v := ?_) (by simp only [List.getElem?_toArray, List.getElem?_cons_succ, List.getElem?_cons_zero]; rfl) (by kernel_rfl) (by kernel_rfl) (by kernel_rfl) (by intro _ _ _ h; exact h) (Or.inl ⟨by rfl, ?_⟩) (by assumption) ?_
  rotate_left
  · (intro w hSw; (try dsimp only at hSw); go_simp; try with_reducible rfl)
  try simp only [Act.put, List.setIfInBounds_toArray, List.set_cons_zero, List.set_cons_succ]
  refine wpAnyH_take (i := 10) (v := ?_) (by simp only [List.getElem?_toArray, List.getElem?_cons_succ, List.getElem?_cons_zero]; rfl) (by kernel_rfl) (by kernel_rfl) (by kernel_rfl) (by intro _ _ _ h; exact h) (Or.inl ⟨by rfl, ?_⟩) (by assumption) ?_
  rotate_left
  · (intro w hSw; (try dsimp only at hSw); go_simp; try with_reducible rfl)
  try simp only [Act.put, List.setIfInBounds_toArray, List.set_cons_zero, List.set_cons_succ]
  refine wpAnyH_take (i := 11) (v := ?_) (by simp only [List.getElem?_toArray, List.getElem?_cons_succ, List.getElem?_cons_zero]; rfl) (by kernel_rfl) (by kernel_rfl) (by kernel_rfl) (by intro _ _ _ h; exact h) (Or.inl ⟨by rfl, ?_⟩) (by assumption) ?_
  rotate_left
  · (intro w hSw; (try dsimp only at hSw); go_simp; try with_reducible rfl)
  try simp only [Act.put, List.setIfInBounds_toArray, List.set_cons_zero, List.set_cons_succ]
  refine wpAnyH_take (i := 12) (v := ?_) (by simp only [List.getElem?_toArray, List.getElem?_cons_succ, List.getElem?_cons_zero]; rfl) (by kernel_rfl) (by kernel_rfl) (by kernel_rfl) (by intro _ _ _ h; exact h) (Or.inl ⟨by rfl, ?_⟩) (by assumption) ?_
  rotate_left
  · (intro w hSw; (try dsimp only at hSw); go_simp; try with_reducible rfl)
  try simp only [Act.put, List.setIfInBounds_toArray, List.set_cons_zero, List.set_cons_succ]
  refine wpAnyH_take (i := 13) (v := ?_) (by simp only [List.getElem?_toArray, List.getElem?_cons_succ, List.getElem?_cons_zero]; rfl) (by kernel_rfl) (by kernel_rfl) (by kernel_rfl) (by intro _ _ _ h; exact h) (Or.inl ⟨by rfl, ?_⟩) (by assumption) ?_
  rotate_left
  · (intro w hSw; (try dsimp only at hSw); go_simp; try with_reducible rfl)
  try simp only [Act.put, List.setIfInBounds_toArray, List.set_cons_zero, List.set_cons_succ]
  refine wpAnyH_take (i := 14) (v := ?_) (by simp only [List.getElem?_toArray, List.getElem?_cons_succ, List.getElem?_cons_zero]; rfl) (by kernel_rfl) (by kernel_rfl) (by kernel_rfl) (by intro _ _ _ h; exact h) (Or.inl ⟨by rfl, ?_⟩) (by assumption) ?_
  rotate_left
  · (intro w hSw; (try dsimp only at hSw); go_simp; try with_reducible rfl)
  try simp only [Act.put, List.setIfInBounds_toArray, List.set_cons_zero, List.set_cons_succ]
  refine wpAnyH_take (i := 15) (v := ?_) (by simp only [List.getElem?_toArray, List.getElem?_cons_succ, List.getElem?_cons_zero]; rfl) (by kernel_rfl) (by kernel_rfl) (by kernel_rfl) (by intro _ _ _ h; exact h) (Or.inl ⟨by rfl, ?_⟩) (by assumption) ?_
  rotate_left
  · (intro w hSw; (try dsimp only at hSw); go_simp; try with_reducible rfl)
  try simp only [Act.put, List.setIfInBounds_toArray, List.set_cons_zero, List.set_cons_succ]
  refine wpAnyH_ready (rs := [16]) (by kernel_rfl) (by simp) ?_
  refine AllReadyH.cons (by simp only [List.getElem?_toArray, List.getElem?_cons_succ, List.getElem?_cons_zero]; rfl) (fun K hK => ?_) AllReadyH.nil
  go_simp
  refine hK.out _ _ ⟨hq8, c80, ht8⟩ (fun hHeld => ?_)
  clear hK K
  try simp only [Act.put, List.setIfInBounds_toArray, List.set_cons_zero, List.set_cons_succ]
  refine wpAnyH_take (i := 17) (v := ?_) (by simp only [List.getElem?_toArray, List.getElem?_cons_succ, List.getElem?_cons_zero]; rfl) (by kernel_rfl) (by kernel_rfl) (by kernel_rfl) (by intro _ _ _ h; exact h) (Or.inl ⟨by rfl, ?_⟩) (by assumption) ?_
  rotate_left
  · (intro w hSw; (try dsimp only at hSw); go_simp; try with_reducible rfl)
  try simp only [Act.put, List.setIfInBounds_toArray, List.set_cons_zero, List.set_cons_succ]
  refine wpAnyH_take (i := 18) (v := ?_) (by simp only [List.getElem?_toArray, List.getElem?_cons_succ, List.getElem?_cons_zero]; rfl) (by kernel_rfl) (by kernel_rfl) (by kernel_rfl) (by intro _ _ _ h; exact h) (Or.inl ⟨by rfl, ?_⟩) (by assumption) ?_
  rotate_left
  · (intro w hSw; (try dsimp only at hSw); go_simp; try with_reducible rfl)
  try simp only [Act.put, List.setIfInBounds_toArray, List.set_cons_zero, List.set_cons_succ]
  refine wpAnyH_take (i := 19) (v := ?_) (by simp only [List.getElem?_toArray, List.getElem?_cons_succ, List.getElem?_cons_zero]; rfl) (by kernel_rfl) (by kernel_rfl) (by kernel_rfl) (by intro _ _ _ h; exact h) (Or.inl ⟨by rfl, ?_⟩) (by assumption) ?_
  rotate_left
  · (intro w hSw; (try dsimp only at hSw); go_simp; try with_reducible rfl)
  try simp only [Act.put, List.setIfInBounds_toArray, List.set_cons_zero, List.set_cons_succ]
  refine wpAnyH_take (i := 20) (v := ?_) (by simp only [List.getElem?_toArray, List.getElem?_cons_succ, List.getElem?_cons_zero]; rfl) (by kernel_rfl) (by kernel_rfl) (by kernel_rfl) (by intro _ _ _ h; exact h) (Or.inl ⟨by rfl, ?_⟩) (by assumption) ?_
  rotate_left
  · (intro w hSw; (try dsimp only at hSw); go_simp; try with_reducible rfl)
  try simp only [Act.put, List.setIfInBounds_toArray, List.set_cons_zero, List.set_cons_succ]
  refine wpAnyH_take (i := 21) (v := ?_) (by simp only [List.getElem?_toArray, List.getElem?_cons_succ, List.getElem?_cons_zero]; rfl) (by kernel_rfl) (by kernel_rfl) (by kernel_rfl) (by intro _ _ _ h; exact h) (Or.inl ⟨by rfl, ?_⟩) (by assumption) ?_
  rotate_left
  · (intro w hSw; (try dsimp only at hSw); go_simp; try with_reducible rfl)
  try simp only [Act.put, List.setIfInBounds_toArray, List.set_cons_zero, List.set_cons_succ]
  refine wpAnyH_take (i := 22) (v := ?_) (by simp only [List.getElem?_toArray, List.getElem?_cons_succ, List.getElem?_cons_zero]; rfl) (by kernel_rfl) (by kernel_rfl) (by kernel_rfl) (by intro _ _ _ h; exact h) (Or.inl ⟨by rfl, ?_⟩) (by assumption) ?_
  rotate_left
  · (intro w hSw; (try dsimp only at hSw); go_simp; try with_reducible rfl)
  try simp only [Act.put, List.setIfInBounds_toArray, List.set_cons_zero, List.set_cons_succ]
  refine wpAnyH_take (i := 23) (v := ?_) (by simp only [List.getElem?_toArray, List.getElem?_cons_succ, List.getElem?_cons_zero]; rfl) (by kernel_rfl) (by kernel_rfl) (by kernel_rfl) (by intro _ _ _ h; exact h) (Or.inl ⟨by rfl, ?_⟩) (by assumption) ?_
  rotate_left
  · (intro w hSw; (try dsimp only at hSw); go_simp; try with_reducible rfl)
  try simp only [Act.put, List.setIfInBounds_toArray, List.set_cons_zero, List.set_cons_succ]
  refine wpAnyH_take (i := 24) (v := ?_) (by simp only [List.getElem?_toArray, List.getElem?_cons_succ, List.getElem?_cons_zero]; rfl) (by kernel_rfl) (by kernel_rfl) (by kernel_rfl) (by intro _ _ _ h; exact h) (Or.inl ⟨by rfl, ?_⟩) (by assumption) ?_
  rotate_left
  · (intro w hSw; (try dsimp only at hSw); go_simp; try with_reducible rfl)
  try simp only [Act.put, List.setIfInBounds_toArray, List.set_cons_zero, List.set_cons_succ]
  refine wpAnyH_take (i := 25) (v := ?_) (by simp only [List.getElem?_toArray, List.getElem?_cons_succ, List.getElem?_cons_zero]; rfl) (by kernel_rfl) (by kernel_rfl) (by kernel_rfl) (by intro _ _ _ h; exact h) (Or.inl ⟨by rfl, ?_⟩) (by assumption) ?_
  rotate_left
  · (intro w hSw; (try dsimp only at hSw); go_simp; try with_reducible rfl)
  try simp only [Act.put, List.setIfInBounds_toArray, List.set_cons_zero, List.set_cons_succ]
  refine wpAnyH_take (i := 26) (v := ?_) (by simp only [List.getElem?_toArray, List.getElem?_cons_succ, List.getElem?_cons_zero]; rfl) (by kernel_rfl) (by kernel_rfl) (by kernel_rfl) (by intro _ _ _ h; exact h) (Or.inl ⟨by rfl, ?_⟩) (by assumption) ?_
  rotate_left
  · (intro w hSw; (try dsimp only at hSw); go_simp; try with_reducible rfl)
  try simp only [Act.put, List.setIfInBounds_toArray, List.set_cons_zero, List.set_cons_succ]
  refine wpAnyH_ready (rs := [27]) (by kernel_rfl) (by simp) ?_
  refine AllReadyH.cons (by simp only [List.getElem?_toArray, List.getElem?_cons_succ, List.getElem?_cons_zero]; rfl) (fun K hK => ?_) AllReadyH.nil
  go_simp
  (refine (wbytes D D _ [] (.slice ob lb.length cb) lb _ hwD.drew (by have := S8.out; show D ≤ w8.heap.size; omega) (HB.out.below hb8.drew)
    (fun w' hk => HB.out.below (hb8.drew.trans (hk.below (by have := S8.out; show w.heap.size ≤ w8.heap.size; omega) (by rintro k (rfl | h); omega; cases h)))) (by simp; omega)).mono ?_)
  rintro e w9 ⟨rfl, ⟨v9, hw9, -⟩, hk9⟩
  have ho9 := own_kept (show Own w8.drew _ _ _ from ho8) hk9 (by
    intro k hk
    simp only [Value.ownBlock, Option.some.injEq] at hk
    rintro (h | h)
    · omega
    · cases h)
  have hq9 := toStr' ho9
  have hbo9 := hk9.block g7 (by have := S8.out; show g7 < w8.heap.size; omega) (by rintro (h | h); omega; cases h)
  have c90 : w9.cell? ⟨g7, 0, none⟩ = some (.int .u8 (x.toNat : Int)) := (World.cell?_of_block hbo9).trans c80
  have rt9 : Rd w9 (.slice (some ⟨g7, (encB la).length, none⟩) (encB lb).length (c7 - (encB la).length)) (encB lb) := rt8.block hbo9
  have ht9 := toStr rt9
  unfold S at ht9
  have hb9 : Below w.heap.size w w9 := hb8.drew.trans (hk9.below (by have := S8.out; show w.heap.size ≤ w8.heap.size; omega) (by rintro k (rfl | h); omega; cases h))
  have s9 := hk9.size
  clear hk9
  go_wp2_with fail
  refine hK.out _ _ ⟨hq9, c90, ht9⟩ (fun hHeld => ?_)
  clear hK K
  try simp only [Act.put, List.setIfInBounds_toArray, List.set_cons_zero, List.set_cons_succ]
  refine wpAnyH_ready (rs := [28]) (by kernel_rfl) (by simp) ?_
  refine AllReadyH.cons (by simp only [List.getElem?_toArray, List.getElem?_cons_succ, List.getElem?_cons_zero]; rfl) (fun K hK => ?_) AllReadyH.nil
  go_simp
  refine (wdone _ _ _ _ _ hw9 (by simp; omega)).mono ?_
  rintro e w10 ⟨v10, rfl, ho10, hb10⟩
  have hq10 := toStr' (own_below ho9 hb10 (Nat.le_refl _))
  have c100 : w10.cell? ⟨g7, 0, none⟩ = some (.int .u8 (x.toNat : Int)) := (hb10.cell (World.block_lt_of_cell? _ _ c90)).trans c90
  have ht10 := toStr (rt9.below hb10)
  unfold S at ht10
  have htt := toStr' ho10
  have hb10' : Below w.heap.size w w10 := hb9.trans (hb10.mono (by have := S8.out; simp only [World.drew] at s9; omega))
  go_wp2_with fail
  refine hK.out _ _ ⟨hq10, c100, ht10⟩ (fun hHeld => ?_)
  clear hK K
  try simp only [Act.put, List.setIfInBounds_toArray, List.set_cons_zero, List.set_cons_succ]
  refine wpAnyH_ready (rs := [29]) (by kernel_rfl) (by simp) ?_
  refine AllReadyH.cons (by simp only [List.getElem?_toArray, List.getElem?_cons_succ, List.getElem?_cons_zero]; rfl) (fun K hK => ?_) AllReadyH.nil
  go_simp
  refine hK.out _ _ ⟨hq10, c100, ht10⟩ (fun hHeld => ?_)
  clear hK K
  try simp only [Act.put, List.setIfInBounds_toArray, List.set_cons_zero, List.set_cons_succ]
  refine wpAnyH_take (i := 30) (v := ?_) (by simp only [List.getElem?_toArray, List.getElem?_cons_succ, List.getElem?_cons_zero]; rfl) (by kernel_rfl) (by kernel_rfl) (by kernel_rfl) (by intro _ _ _ h; exact h) (Or.inl ⟨by rfl, ?_⟩) (by assumption) ?_
  rotate_left
  · (intro w hSw; (try dsimp only at hSw); go_simp; try with_reducible rfl)
  try simp only [Act.put, List.setIfInBounds_toArray, List.set_cons_zero, List.set_cons_succ]
  refine wpAnyH_take (i := 31) (v := ?_) (by simp only [List.getElem?_toArray, List.getElem?_cons_succ, List.getElem?_cons_zero]; rfl) (by kernel_rfl) (by kernel_rfl) (by kernel_rfl) (by intro _ _ _ h; exact h) (Or.inl ⟨by rfl, ?_⟩) (by assumption) ?_
  rotate_left
  · (intro w hSw; (try dsimp only at hSw); go_simp; try with_reducible rfl)
  try simp only [Act.put, List.setIfInBounds_toArray, List.set_cons_zero, List.set_cons_succ]
  refine wpAnyH_take (i := 32) (v := ?_) (by simp only [List.getElem?_toArray, List.getElem?_cons_succ, List.getElem?_cons_zero]; rfl) (by kernel_rfl) (by kernel_rfl) (by kernel_rfl) (by intro _ _ _ h; exact h) (Or.inl ⟨by rfl, ?_⟩) (by assumption) ?_
  rotate_left
  · (intro w hSw; (try dsimp only at hSw); go_simp; try with_reducible rfl)
  try simp only [Act.put, List.setIfInBounds_toArray, List.set_cons_zero, List.set_cons_succ]
  refine wpAnyH_done (by kernel_rfl) ?_ _
  go_wp2
  go_ret
  exact ⟨rfl, hb10'⟩

theorem done_walk (a b : Value) (la lb : List UInt8) (w : World) (ha : Rd w a la) (hal : la.length ≤ 140737488351232) (hb : Rd w b lb) (hbl : lb.length ≤ 140737488351232) :
    Calls Try.prog 9 #[a, b] w fun e w' => e = .returned (.bool true) ∧ Below w.heap.size w w' := by
  by_cases h : la.length = 0 ∨ 5000 < la.length + lb.length
  · exact done_out a b la lb w ha hb hal hbl h
  · exact done_in a b la lb w ha hb (by omega) (by omega)
end Go.Proofs.Ytbjigdicooochaa
