/- The reference's numbers as bytes. -/
import Derived.Test.YtjbailnnaigjbaaOctT
namespace Go.Proofs.Ytjbailnnaigjbaa
open Go.RowKit OctM

theorem nd_top {N : Nat} (hN : N < 18446744073709551616) : N < 256 ^ nd N := by
  unfold nd
  repeat' split
  all_goals (simp only [Nat.reducePow]; omega)

theorem nd_low (N : Nat) (h : 0 < nd N) : 256 ^ (nd N - 1) ≤ N := by
  unfold nd at h ⊢
  repeat' split
  all_goals first
    | (simp only [Nat.reduceSub, Nat.reducePow]; omega)
    | (simp_all; done)

theorem nd_pos {N j : Nat} (hN : N < 18446744073709551616) (hj : j ≤ nd N) : 0 < N / 256 ^ j ↔ j < nd N := by
  rw [Nat.div_pos_iff]
  constructor
  · intro h
    rcases Nat.lt_or_ge j (nd N) with h' | h'
    · exact h'
    · obtain rfl : j = nd N := by omega
      have := nd_top hN
      omega
  · intro h
    exact ⟨Nat.pow_pos (by decide), Nat.le_trans (Nat.pow_le_pow_right (by decide) (by omega)) (nd_low N (by omega))⟩

theorem digs_take_succ {N j : Nat} (h : j < nd N) : (digs N).take (j + 1) = (digs N).take j ++ [dig N j] := by
  rw [List.take_succ_eq_append_getElem (by rw [digs_length]; exact h)]
  simp [digs]

theorem dig_val (N j : Nat) : ((N / 256 ^ j : Nat) : Int) % 256 = ((dig N j).toNat : Int) := by
  rw [dig]
  have e3 : (UInt8.ofNat (N / 256 ^ j)).toNat = N / 256 ^ j % 256 := by simp
  rw [e3]
  omega

theorem div_next {N j x : Nat} (h : Hid (x = N / 256 ^ j)) : Hid (x / 256 = N / 256 ^ (j + 1)) := by
  show x / 256 = _
  rw [h.out, Nat.pow_succ, Nat.div_div_eq_div_mul]

/-- The lowest j digits lie in the row v. -/
structure VRel (w wr : World) (v : Value) (N j : Nat) : Prop where
  own : wr.ownsRow w.heap.size 5 1 v j (Bs ((digs N).take j))
  bel : Below w.heap.size w wr

theorem vrel_step {w wr w2 : World} {v v2 : Value} {N j x : Nat} (hr : VRel w wr v N j) (hj : j < nd N) (hx : Hid (x = N / 256 ^ j))
    (h2 : w2.ownsRow w.heap.size 5 1 v2 (j + 1) (Bs ((digs N).take j) ++ [.int .u8 ((x : Int) % 256)]))
    (hg : (wr.alloc (.cells #[.int .u8 ((x : Int) % 256)] 5)).grownBy w2 v.ownBlock) : VRel w w2 v2 N (j + 1) := by
  refine ⟨?_, ?_⟩
  · rw [digs_take_succ hj, Bs_append]
    rw [hx.out, dig_val] at h2
    exact h2
  · have hs := hr.bel.size
    exact (hr.bel.alloc hs _).grown hg (by simp; omega) (fun k hk => (hr.own.lt k hk).1)

theorem row_form {w : World} {b : Nat} {v : Value} {n : Nat} {xs : List Value} (h : w.ownsRow b 5 1 v n xs) : ∃ o c, v = .slice o n c := by
  rcases h.2 with ⟨rfl, rfl⟩ | ⟨g, cap, cur, rfl, _⟩ <;> exact ⟨_, _, rfl⟩

theorem row_lit (w : World) (u : Value) : (w.alloc (.cells #[u] 5)).ownsRow w.heap.size 5 1 (.slice (some ⟨w.heap.size, 0, none⟩) 1 1) 1 [u] :=
  ⟨by simp, .inr ⟨_, 1, #[u], rfl, Nat.le_refl _, heap_alloc_new w _, Nat.le_refl _, by decide, rfl, rfl⟩⟩

/-- The row's bytes, one by one. -/
theorem row_at {w : World} {b : Nat} {v : Value} {o : Option Addr} {n c : Nat} {l : List UInt8} (h : w.ownsRow b 5 1 v n (Bs l)) (hv : v = .slice o n c) (i : Nat) (u : UInt8) (hu : l[i]? = some u) :
    ∃ g, o = some ⟨g, 0, none⟩ ∧ w.cell? ⟨g, i, none⟩ = some (B u) ∧ n ≤ c ∧ c ≤ maxLen := by
  have hc := h
  rcases h.2 with ⟨rfl, rfl⟩ | ⟨g, cap, cur, rfl, _, hg, hn, hm, _⟩
  · have hl := h.1
    simp [Bs] at hl
    simp [hl] at hu
  · injection hv with e1 e2 e3
    subst e1 e3
    refine ⟨g, rfl, ?_, hn, hm⟩
    have := World.ownsRow.cells hc rfl i (B u) (by simp [Bs, hu])
    rw [add_none] at this
    simpa using this

/-- Behind j of the digits, the highest first. -/
structure PRel (w wr : World) (v : Value) (N j : Nat) : Prop where
  own : wr.ownsRow w.heap.size 5 1 v (1 + j) (Bs ((enc N).take (1 + j)))
  bel : Below w.heap.size w wr

theorem prel_start {w : World} {N k : Nat} (hk : Hid (nd N = k)) : PRel w (w.alloc (.cells #[.int .u8 (k : Int)] 5)) (.slice (some ⟨w.heap.size, 0, none⟩) 1 1) N 0 := by
  refine ⟨?_, (Below.refl _ w).alloc (Nat.le_refl _) _⟩
  have h8 := nd_le N
  rw [enc_take_one, hk.out]
  have e := B_ofNat k (by have := hk.out; omega)
  show World.ownsRow _ _ _ _ _ _ [B (UInt8.ofNat k)]
  rw [← e]
  exact row_lit w _

theorem prel_step {w wr w2 : World} {v v2 : Value} {N j b k m : Nat} (hr : PRel w wr v N j) (hk : Hid (nd N = k)) (hj : m + 1 + j = k) (hb : Hid (b = (dig N m).toNat))
    (h2 : w2.ownsRow w.heap.size 5 1 v2 (1 + j + 1) (Bs ((enc N).take (1 + j)) ++ [.int .u8 (b : Int)]))
    (hg : (wr.alloc (.cells #[.int .u8 (b : Int)] 5)).grownBy w2 v.ownBlock) : PRel w w2 v2 N (j + 1) := by
  refine ⟨?_, ?_⟩
  · have e := enc_take_succ N j (by rw [hk.out]; omega)
    rw [hk.out, show k - 1 - j = m by omega] at e
    rw [show 1 + (j + 1) = 1 + j + 1 from rfl, e, Bs_append]
    rw [hb.out] at h2
    exact h2
  · have hs := hr.bel.size
    exact (hr.bel.alloc hs _).grown hg (by simp; omega) (fun k hk => (hr.own.lt k hk).1)

theorem prel_end {w w1 wr : World} {v v1 : Value} {N k i : Nat} (hv : VRel w w1 v1 N i) (hr : PRel w1 wr v N k) (hk : Hid (nd N = k)) : Own wr w.heap.size v (enc N) ∧ Below w.heap.size w wr := by
  refine ⟨?_, hv.bel.trans (hr.bel.mono hv.bel.size)⟩
  have h := own_base hr.own hv.bel.size
  have e := enc_take_all N
  rw [hk.out] at e
  rw [e] at h
  unfold Own
  rw [enc_length, hk.out, Nat.add_comm]
  exact h

theorem vrel_at {w w1 : World} {o : Option Addr} {c N k : Nat} (hr : VRel w w1 (.slice o k c) N k) (hk : Hid (nd N = k)) (m : Nat) (hm : m < k) :
    ∃ (g b : Nat), o = some ⟨g, 0, none⟩ ∧ g < w1.heap.size ∧ w1.cell? ⟨g, m, none⟩ = some (.int .u8 (b : Int)) ∧ b < 256 ∧ Hid (b = (dig N m).toNat) ∧ k ≤ c ∧ c ≤ maxLen := by
  have hd : (digs N).take k = digs N := List.take_of_length_le (by rw [digs_length, hk.out]; omega)
  have ho := hr.own
  rw [hd] at ho
  obtain ⟨g, hg, hcell, h1, h2⟩ := row_at ho rfl m (dig N m) (by simp [digs, hk.out, hm])
  exact ⟨g, (dig N m).toNat, hg, World.block_lt_of_cell? _ _ hcell, hcell, (dig N m).toNat_lt, rfl, h1, h2⟩

set_option maxHeartbeats 4000000 in
set_option maxRecDepth 100000 in
theorem refuint (n : Int) (w : World) (h0 : 0 ≤ n) (h1 : n ≤ 18446744073709551615) :
    Calls Try.prog 35 #[.int .u64 n] w fun e w' => ∃ v, e = .returned v ∧ Own w' w.heap.size v (enc n.toNat) ∧ Below w.heap.size w w' := by
  obtain ⟨i0, hi0, hz0, hz1, hz2⟩ := info_parts u8info
  obtain ⟨N, rfl⟩ := Int.eq_ofNat_of_zero_le h0
  rw [Int.toNat_natCast]
  have hN : N < 18446744073709551616 := by omega
  have hk8 := nd_le N
  have HP := Lib.hid (fun j (hj : j ≤ nd N) => nd_pos hN hj)
  generalize hk : nd N = k at *
  have HK := Lib.hid hk
  clear hk
  have start : VRel w w (.slice none 0 0) N 0 := ⟨by simpa [Bs] using World.ownsRow_nil w w.heap.size 5 1, Below.refl _ _⟩
  have HN := Lib.hid hN
  clear hN
  go_enter Try.func35, Try.ntmps35
  go_wp2_with fail
  go_loopw [0, 3] (fun y x wr => ∃ (j z : Nat) (v : Value), j ≤ k ∧ y = .int .u64 z ∧ (z : Int) ≤ 18446744073709551615 ∧ Hid (z = N / 256 ^ j) ∧ v = x ∧ VRel w wr v N j) (fun y _ _ => (intOf y).toNat)
  case atStart => exact ⟨0, N, _, by omega, rfl, by omega, by show N = _; simp, rfl, start⟩
  case round =>
    clear start
    obtain ⟨j, z, x4, hj, rfl, hz, Hz, rfl, hr⟩ := hrel
    have hp := HP.out j hj
    by_cases hlt : j < k
    · have hpos : 0 < z := by rw [Hz.out]; exact hp.2 hlt
      clear hp
      have hposi : (0 : Int) < (z : Int) := by omega
      have hd : decide ((z : Int) > 0) = true := by simp; omega
      have hb := hr.bel.size
      have hown := hr.own
      go_wp2_with (
        at_builtin
        refine wpList_append_own_at _ rfl (.tmp 8) (.tmp 12) 35 (by rfl) w.heap.size 5 i0 (.int .u8 0) 1 1 Try.underlying35 hi0 hz0 hz1 hz2 rfl (by omega) x4 j _ (by rfl) (hown.alloc _) ⟨wr.heap.size, 0, none⟩ 1 1 [.int .u8 ((z : Int) % 256)] (by rfl) (by rfl) (cell_one_new wr _ _) (by simp [Value.oneCell']) (by unfold maxLen; omega) (by omega) (by simp; omega) ?_
        intro v2 w2 hown2 hgrow _ _
        have fin := vrel_step hr (by rw [HK.out]; exact hlt) Hz hown2 hgrow
        clear hown2 hgrow hown hr)
      go_roundw
      case rel => exact ⟨j + 1, z / 256, v2, by omega, by go_num, by omega, div_next Hz, rfl, fin⟩
      case measure => simp [intOf]; omega
    · obtain rfl : j = k := by omega
      have hz0' : z = 0 := by have := Hz.out; omega
      have hd : decide ((z : Int) > 0) = false := by subst hz0'; decide
      have hd' : ¬ (0 : Int) < (z : Int) := by omega
      have hzu : (z : Int) ≤ 0 := by omega
      clear hz0'
      clear hp Hz hz hlt hj
      obtain ⟨W1, hW⟩ : ∃ W1, W1 = wr := ⟨_, rfl⟩
      subst hW
      obtain ⟨o, c, rfl⟩ := row_form hr.own
      have HC := Lib.hid (vrel_at hr HK)
      have HV := Lib.hid hr
      have start2 : PRel W1 (W1.alloc (.cells #[.int .u8 (j : Int)] 5)) (.slice (some ⟨W1.heap.size, 0, none⟩) 1 1) N 0 := prel_start HK
      have hj0 : (0 : Int) ≤ (j : Int) := by omega
      have hj8 : (j : Int) ≤ 8 := by omega
      clear hr
      go_wp2_with fail
      go_loopw [4, 5] (fun p i wr2 => ∃ (q : Nat) (x : Int) (v : Value), q ≤ j ∧ i = .int .i64 x ∧ Hid (x = (j : Int) - 1 - q) ∧ v = p ∧ PRel W1 wr2 v N q) (fun _ i _ => (intOf i + 1).toNat)
      case atStart => exact ⟨0, _, _, by omega, rfl, by show _ = _; omega, rfl, start2⟩
      case round =>
        clear start2
        obtain ⟨q, x, p4, hq, rfl, Hx, rfl, hr⟩ := hrel
        by_cases hlt : q < j
        · obtain ⟨m, rfl⟩ : ∃ m : Nat, x = m := ⟨j - 1 - q, by rw [Hx.out]; omega⟩
          have hm : m + 1 + q = j := by have := Hx.out; omega
          obtain ⟨g, b, rfl, hg, hcell, hb, Hb, hc1, hc2⟩ := HC.out m (by omega)
          have hcell2 := (hr.bel.cell (p := ⟨g, m, none⟩) hg).trans hcell
          have hd : decide ((m : Int) ≥ 0) = true := by simp
          have hm0 : (0 : Int) ≤ (m : Int) := by omega
          have hm1 : (m : Int) < (j : Int) := by omega
          have hsz := hr.bel.size
          have hown := hr.own
          unfold maxLen at hc2
          clear hcell
          go_wp2_with (
            at_builtin
            refine wpList_append_own_at _ rfl (.tmp 27) (.tmp 32) 35 (by rfl) W1.heap.size 5 i0 (.int .u8 0) 1 1 Try.underlying35 hi0 hz0 hz1 hz2 rfl (by omega) p4 (1 + q) _ (by rfl) (hown.alloc _) ⟨wr.heap.size, 0, none⟩ 1 1 [.int .u8 (b : Int)] (by rfl) (by rfl) (cell_one_new wr _ _) (by simp [Value.oneCell']) (by unfold maxLen; omega) (by omega) (by simp; omega) ?_
            intro v2 w2 hown2 hgrow _ _
            have fin := prel_step hr HK hm Hb hown2 hgrow
            clear hown2 hgrow hown hr)
          go_roundw
          case rel => exact ⟨q + 1, (m : Int) - 1, v2, by omega, by go_num, by show _ = _; omega, rfl, fin⟩
          case measure => simp [intOf]
        · obtain rfl : q = j := by omega
          obtain rfl : x = -1 := by have := Hx.out; omega
          have fin := prel_end HV.out hr HK
          have hd : decide ((-1 : Int) ≥ 0) = false := by decide
          clear hr
          repeat go_step
          go_ret
          exact ⟨_, rfl, fin.1, fin.2⟩
end Go.Proofs.Ytjbailnnaigjbaa
