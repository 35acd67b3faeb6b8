/- The writer: Uint. -/
import Derived.Test.YtdckcjcddibglaaOctW
import Derived.Deep.RegionLaw
namespace Go.Proofs.Ytdckcjcddibglaa
open Go.RowKit OctM

/-- A writer in block b, its bytes l in a row of the call's own. -/
structure WAt (w : World) (b base : Nat) (v : Value) (l : List UInt8) : Prop where
  cell : w.heap[b]? = some (.cells #[v] 79 (0, 0))
  own : Own w base v l

/-- Block b, and the row of v. -/
def two (b : Nat) (v : Value) : Nat → Prop := fun k => k = b ∨ v.ownBlock = some k

/-- What a writer's call leaves: k more bytes; nothing else has turned. -/
structure WPost (w w' : World) (b base : Nat) (v : Value) (l : List UInt8) (e : Ending) : Prop where
  ret : e = .returned (.pointer (some ⟨b, 0, none⟩))
  at_ : ∃ v', WAt w' b base v' l ∧ (v'.ownBlock = v.ownBlock ∨ ∃ g, v'.ownBlock = some g ∧ w.heap.size ≤ g)
  kept : Kept (two b v) w w'

theorem WAt.ne {w : World} {b base : Nat} {v : Value} {l : List UInt8} (h : WAt w b base v l) : v.ownBlock ≠ some b := by
  intro e
  rcases h.own.2 with ⟨rfl, _⟩ | ⟨g, cap, cur, rfl, _, hg, _⟩
  · simp [Value.ownBlock] at e
  · simp only [Value.ownBlock, Option.some.injEq] at e
    subst e
    have h1 := h.cell
    rw [hg] at h1
    injection h1 with h1
    injection h1 with _ h2
    exact absurd h2 (by decide)

/-- Behind j of the number's bytes. -/
structure WRel (w wr : World) (b base : Nat) (v : Value) (l : List UInt8) (N j g cap : Nat) : Prop where
  cell : wr.heap[b]? = some (.cells #[.slice (some ⟨g, 0, none⟩) (l.length + 1 + j) cap] 79 (0, 0))
  own : wr.ownsRow base 5 1 (.slice (some ⟨g, 0, none⟩) (l.length + 1 + j) cap) (l.length + 1 + j) (Bs (l ++ (enc N).take (1 + j)))
  kept : Kept (two b v) w wr
  at_ : v.ownBlock = some g ∨ w.heap.size ≤ g
  ne : g ≠ b

theorem setCell_one {w : World} {b : Nat} {v u : Value} {t : TypeId} (h : w.heap[b]? = some (.cells #[v] t (0, 0))) : (w.setCell ⟨b, 0, none⟩ u).heap[b]? = some (.cells #[u] t (0, 0)) := one_setCell h

theorem dig_int (N m : Nat) : IntKind.u8.wrap ((N : Int) / 2 ^ (8 * (m : Int)).toNat) = ((dig N m).toNat : Int) := by
  have e : (8 * (m : Int)).toNat = 8 * m := by omega
  have e2 : (2 : Int) ^ (8 * m) = ((256 ^ m : Nat) : Int) := by
    rw [Int.natCast_pow, Int.pow_mul]; rfl
  rw [e, e2, ← Int.natCast_ediv, IntKind.wrap_u8, dig]
  have e3 : (UInt8.ofNat (N / 256 ^ m)).toNat = N / 256 ^ m % 256 := by simp
  rw [e3]
  omega

/-- One byte more. -/
theorem wrel_step {w wr w2 : World} {b base : Nat} {v : Value} {l : List UInt8} {N j g cap k m g2 cap2 : Nat} (hr : WRel w wr b base v l N j g cap) (hlt : j < k) (Hk : Hid (nd N = k)) (Hm : Hid (m = k - 1 - j))
    (hown2 : w2.ownsRow base 5 1 (.slice (some ⟨g2, 0, none⟩) (l.length + 1 + j + 1) cap2) (l.length + 1 + j + 1) (Bs (l ++ (enc N).take (1 + j)) ++ [.int .u8 (IntKind.u8.wrap ((N : Int) / 2 ^ (8 * (m : Int)).toNat))]))
    (hgrow : (wr.alloc (.cells #[.int .u8 (IntKind.u8.wrap ((N : Int) / 2 ^ (8 * (m : Int)).toNat))] 5)).drew.grownBy w2 (Value.slice (some ⟨g, 0, none⟩) (l.length + 1 + j) cap).ownBlock)
    (hat : (Value.slice (some ⟨g, 0, none⟩) (l.length + 1 + j) cap).ownBlock = some g2 ∨ g2 = wr.heap.size + 1) :
    WRel w (w2.setCell ⟨b, 0, none⟩ (.slice (some ⟨g2, 0, none⟩) (l.length + 1 + j + 1) cap2)) b base v l N (j + 1) g2 cap2 := by
  have hlt := World.block_lt_of_cell? wr _ (cell_of_one hr.cell)
  simp only at hlt
  have hgb : g2 ≠ b := by
    rcases hat with h | h
    · simp only [Value.ownBlock, Option.some.injEq] at h
      rw [← h]; exact hr.ne
    · omega
  have hcell2 : w2.heap[b]? = some (.cells #[.slice (some ⟨g, 0, none⟩) (l.length + 1 + j) cap] 79 (0, 0)) := by
    rw [hgrow.block b (by simp; omega) (by simp only [Value.ownBlock, ne_eq, Option.some.injEq]; exact fun e => hr.ne e.symm)]
    exact (Below.heap_alloc _ _ _ hlt).trans hr.cell
  have e : Bs (l ++ (enc N).take (1 + (j + 1))) = Bs (l ++ (enc N).take (1 + j)) ++ [.int .u8 (IntKind.u8.wrap ((N : Int) / 2 ^ (8 * (m : Int)).toNat))] := by
    rw [show 1 + (j + 1) = 1 + j + 1 from rfl, enc_take_succ N j (by rw [Hk.out]; omega), ← List.append_assoc, Bs_append, Hk.out, ← Hm.out, dig_int]
    rfl
  refine ⟨one_setCell hcell2, ?_, ?_, ?_, hgb⟩
  · rw [e]
    exact ownsRow_setCell_other hown2 (by simp only [Value.ownBlock, ne_eq, Option.some.injEq]; exact hgb) _
  · refine (((hr.kept.alloc _).drew).grown hgrow (fun k hk => ?_)).setCell (.inl (.inl rfl)) _
    simp only [Value.ownBlock, Option.some.injEq] at hk
    subst hk
    rcases hr.at_ with h | h
    · exact .inl (.inr h)
    · exact .inr h
  · have hs := hr.kept.size
    rcases hat with h | h
    · simp only [Value.ownBlock, Option.some.injEq] at h
      rw [← h]; exact hr.at_
    · right; omega

theorem wrel_end {w wr : World} {b base : Nat} {v : Value} {l : List UInt8} {N k g cap : Nat} (hr : WRel w wr b base v l N k g cap) (Hk : Hid (nd N = k)) :
    WPost w wr b base v (l ++ enc N) (.returned (.pointer (some ⟨b, 0, none⟩))) := by
  have e : (l ++ enc N).length = l.length + 1 + k := by rw [List.length_append, enc_length, Hk.out]; omega
  have e2 : (enc N).take (1 + k) = enc N := by rw [← Hk.out]; exact enc_take_all N
  have ho := hr.own
  rw [e2] at ho
  refine ⟨rfl, ⟨_, ⟨hr.cell, ?_⟩, ?_⟩, hr.kept⟩
  · unfold Own
    rw [e]
    exact ho
  · rcases hr.at_ with h | h
    · exact .inl (by rw [h]; rfl)
    · exact .inr ⟨g, rfl, h⟩

set_option maxHeartbeats 2000000 in
set_option maxRecDepth 100000 in
theorem wuint (b base : Nat) (v : Value) (l : List UInt8) (n : Int) (w : World) (h0 : 0 ≤ n) (h1 : n ≤ 18446744073709551615) (hw : WAt w b base v l) (hb : base ≤ w.heap.size) (hl : l.length ≤ 140737488355000) :
    Calls Try.prog 33 #[.pointer (some ⟨b, 0, none⟩), .int .u64 n] w fun e w' => WPost w w' b base v (l ++ enc n.toNat) e := by
  obtain ⟨i0, hi0, hz0, hz1, hz2⟩ := info_parts u8info
  have hcell := hw.cell
  have hc := cell_of_one hw.cell
  have hf := free_of_one hw.cell
  have hne := hw.ne
  have hown := hw.own
  have hlt := World.block_lt_of_cell? w _ hc
  simp only at hlt
  have Hcell := Lib.hid hcell
  clear hcell
  obtain ⟨N, rfl⟩ := Int.eq_ofNat_of_zero_le h0
  rw [Int.toNat_natCast]
  have hnd := nd_le N
  go_enter Try.func33, Try.ntmps33
  go_wp2_with fail
  refine (len64 _ _ h0 h1).mono ?_
  rintro e w' ⟨⟨L, rfl, hL0, hL1, hL⟩, rfl⟩
  rw [Int.toNat_natCast] at hL
  have HL := Lib.hid hL
  clear hL
  have hk0 : 0 ≤ (L + 7) / 8 := by omega
  have hk1 : (L + 7) / 8 ≤ 8 := by omega
  go_wp2_with (
     at_builtin
     refine wpList_append_lies _ rfl (.tmp 17) (.tmp 20) 22 (by rfl) base 5 i0 _ 1 1 Try.underlying22 hi0 hz0 hz1 hz2 rfl (by omega) v l.length (Bs l) (by rfl) (hown.alloc _) ⟨w.heap.size, 0, none⟩ 1 1 [.int .u8 ((L + 7) / 8)] (by rfl) (by rfl) (cell_one_new _ _ _) (by simp [Value.oneCell']) (by omega) (by unfold maxLen; omega) (by omega) (by simp; omega) (w.heap.size + 1) (by simp) ?_
     intro g cap w1 hown1 hgrow hat hlt1
     have hc1 : w1.cell? ⟨b, 0, none⟩ = some v := by
       rw [hgrow.cell_far ⟨b, 0, none⟩ (by simp; omega) (Ne.symm hne), World.cell?_alloc_past _ _ _ hlt]
       exact hc
     have hf1 : w1.frozen? ⟨b, 0, none⟩ = false := by
       rw [hgrow.frozen_far ⟨b, 0, none⟩ (by simp; omega) (Ne.symm hne), World.frozen?_alloc_past _ _ _ hlt]
       exact hf
     have hlt1' : b < w1.heap.size := World.block_lt_of_cell? _ _ hc1)
  rw [HL.out] at *
  generalize hk : nd N = k at *
  have Hk := Lib.hid hk
  clear hk
  have start : WRel w (w1.setCell ⟨b, 0, none⟩ (.slice (some ⟨g, 0, none⟩) (l.length + 1) cap)) b base v l N 0 g cap := by
    have hgb : g ≠ b := by
      rintro rfl
      rcases hat with h | h
      · exact hne h
      · omega
    have hcell1 : w1.heap[b]? = some (.cells #[v] 79 (0, 0)) := by
      rw [hgrow.block b (by simp; omega) (Ne.symm hne), Below.heap_alloc _ _ _ hlt]
      exact Hcell.out
    refine ⟨one_setCell hcell1, ?_, ?_, ?_, hgb⟩
    · have e : Bs (l ++ (enc N).take (1 + 0)) = Bs l ++ [.int .u8 (k : Int)] := by
        rw [Bs_append, enc_take_one, Hk.out, B_ofNat k (by omega)]
        rfl
      rw [e]
      exact ownsRow_setCell_other hown1 (by simp only [Value.ownBlock, ne_eq, Option.some.injEq]; exact hgb) _
    · exact (((Kept.refl _ w).alloc _).grown hgrow (fun k hk => .inl (.inr hk))).setCell (.inl (.inl rfl)) _
    · rcases hat with h | h
      · exact .inl h
      · right; omega
  clear hown1 hgrow hat hc1 hf1 hc hf hlt1 hlt1' hown
  go_loopw [25] (fun i wr => ∃ j g cap : Nat, j ≤ k ∧ i = .int .i64 j ∧ WRel w wr b base v l N j g cap) (fun i _ => k - (intOf i).toNat)
  case atStart => exact ⟨0, g, cap, by omega, rfl, start⟩
  case round =>
    obtain ⟨j, g, cap, hj, rfl, hr⟩ := hrel
    by_cases hlt : j < k
    · have hc := cell_of_one hr.cell
      have hf := free_of_one hr.cell
      have hlt2 := World.block_lt_of_cell? wr _ hc
      simp only at hlt2
      have hsz := hr.kept.size
      have hown := hr.own
      have hgb : (⟨b, 0, none⟩ : Addr).block ≠ g := fun e => hr.ne e.symm
      obtain ⟨m, hm⟩ : ∃ m : Nat, m = k - 1 - j := ⟨_, rfl⟩
      have hm0 : (0 : Int) ≤ 8 * (m : Int) := by omega
      have hm1 : 8 * (m : Int) ≤ 64 := by omega
      have e1 : IntKind.i64.wrap ((k : Int) - 1) = (k : Int) - 1 := IntWalk.i64_in _ (by omega)
      have e2 : IntKind.i64.wrap ((k : Int) - 1 - (j : Int)) = (m : Int) := (IntWalk.i64_in _ (by omega)).trans (by omega)
      have e3 : IntKind.i64.wrap (8 * (m : Int)) = 8 * (m : Int) := IntWalk.i64_in _ (by omega)
      have Hm := Lib.hid hm
      clear hm
      go_wp2_with fail
      go_region_law (
        (refine step_append_lies _ (by rfl) _ _ _ (by rfl) base 5 i0 _ 1 1 Try.underlying22 hi0 hz0 hz1 hz2 rfl (by omega) (.slice (some ⟨g, 0, none⟩) (l.length + 1 + j) cap) (l.length + 1 + j) _ (by rfl) ((hown.alloc _).drew) ⟨wr.heap.size, 0, none⟩ 1 1 [.int .u8 (IntKind.u8.wrap ((N : Int) / 2 ^ (8 * (m : Int)).toNat))] (by rfl) (by rfl) (cell_one_new wr _ _) (by simp [Value.oneCell']) (by omega) (by unfold maxLen; omega) (by omega) (by simp; omega) (wr.heap.size + 1) (by simp) ?_
         intro g2 cap2 w2 hown2 hgrow hat hlt3
         have hc2 : w2.cell? ⟨b, 0, none⟩ = some (.slice (some ⟨g, 0, none⟩) (l.length + 1 + j) cap) := by
           rw [hgrow.cell_far ⟨b, 0, none⟩ (by simp; omega) (by simpa [Value.ownBlock] using hgb)]
           exact (World.cell?_alloc_past _ _ _ hlt2).trans hc
         have hf2 : w2.frozen? ⟨b, 0, none⟩ = false := by
           rw [hgrow.frozen_far ⟨b, 0, none⟩ (by simp; omega) (by simpa [Value.ownBlock] using hgb)]
           exact (World.frozen?_alloc_past _ _ _ hlt2).trans hf))
      all_goals
        have fin := wrel_step hr hlt Hk Hm hown2 hgrow hat
        clear hown2 hgrow hat hown hr start
        go_wp2
        go_roundw
        case rel => exact ⟨j + 1, g2, cap2, by omega, by go_num, fin⟩
        case measure => simp [intOf]; omega
    · obtain rfl : j = k := by omega
      have fin := wrel_end hr Hk
      clear hr start
      go_wp2_with fail
      go_ret
      exact fin
end Go.Proofs.Ytdckcjcddibglaa
