/- The law of bursts: sealed bytes of which some bits within 32 are turned are refused. -/
import Derived.Test.YtbjigdicooochaaOctH
import Derived.Test.YtbjigdicooochaaOctX
import Derived.BigRegion
namespace Go.Proofs.Ytbjigdicooochaa
open Go.RowKit OctM

theorem num_le4' (n : Nat) (h : n < 4294967296) : num (le4 n) = n := num_le4 n h

/-- What the loop has done: i bits of the pattern are turned. -/
def Turned (l m : List UInt8) (P K i : Nat) : Prop := m.length = l.length + 4 ∧ num m = num (sealed l) ^^^ ((P % 2 ^ i) * 2 ^ K)

theorem turned_start (l : List UInt8) (P K : Nat) : Turned l (sealed l) P K 0 := ⟨sealed_length l, by simp [Nat.mod_one]⟩

theorem turned_skip {l m : List UInt8} {P K i : Nat} (h : Turned l m P K i) (hb : P / 2 ^ i % 2 = 0) : Turned l m P K (i + 1) :=
  ⟨h.1, by rw [pattern_succ, hb, Nat.zero_mul, Nat.xor_zero]; exact h.2⟩

theorem turned_set {l m : List UInt8} {P K i : Nat} (h : Turned l m P K i) (hb : P / 2 ^ i % 2 = 1) (hj : (K + i) / 8 < m.length) :
    Turned l (m.set ((K + i) / 8) (m[(K + i) / 8] ^^^ UInt8.ofNat (2 ^ ((K + i) % 8)))) P K (i + 1) := by
  have hr : (K + i) % 8 < 8 := Nat.mod_lt _ (by omega)
  have hp : (2 : Nat) ^ ((K + i) % 8) < 256 := Nat.pow_lt_pow_right (a := 2) (n := 8) (by omega) hr
  refine ⟨by rw [List.length_set]; exact h.1, ?_⟩
  rw [num_set, h.2, pattern_succ, hb, Nat.one_mul, UInt8.toNat_ofNat_of_lt' (by simpa using hp), ← Nat.pow_add, Nat.xor_assoc, show (K + i) % 8 + 8 * ((K + i) / 8) = K + i by omega]

theorem turned_end {l m : List UInt8} {P K i : Nat} (h : Turned l m P K i) (hi : i ≤ 32) (hs : sealed (m.take l.length) = m) : m = sealed l := by
  have hp : P % 2 ^ i < 4294967296 := Nat.lt_of_lt_of_le (Nat.mod_lt _ (Nat.two_pow_pos i)) (Nat.pow_le_pow_right (n := 2) (by omega) hi : 2 ^ i ≤ 2 ^ 32)
  have hl : l.length = (m.take l.length).length := by rw [List.length_take, h.1]; omega
  have h2 := h.2
  have h0 := burst l (m.take l.length) (le4 (sum l)) (le4 (sum (m.take l.length))) (P % 2 ^ i) K hl (num_le4' _ (sum_lt _)) (num_le4' _ (sum_lt _)) hp (by
    have e : m.take l.length ++ le4 (sum (m.take l.length)) = m := hs
    rw [e]
    exact h2)
  rw [h0, Nat.zero_mul, Nat.xor_zero] at h2
  exact num_inj _ _ (by rw [h.1, sealed_length]) h2

theorem own_at {w : World} {base g c j : Nat} {l : List UInt8} (h : Own w base (.slice (some ⟨g, 0, none⟩) l.length c) l) (hj : j < l.length) (x : UInt8) :
    w.cell? ⟨g, j, none⟩ = some (.int .u8 (l[j].toNat : Int)) ∧ w.frozen? ⟨g, j, none⟩ = false ∧ Own (w.setCell ⟨g, j, none⟩ (B x)) base (.slice (some ⟨g, 0, none⟩) (l.set j x).length c) (l.set j x) := by
  refine ⟨?_, World.ownsRow.frozenAt h j, ?_⟩
  · rw [World.ownsRow.cellAt h j (by omega)]
    simp [Bs, B, hj]
  · have := (World.ownsRow.stored h j (B x)).1
    unfold Own
    rw [List.length_set]
    have e : Bs (l.set j x) = (Bs l).set j (B x) := by simp [Bs, List.map_set]
    rw [e]
    exact this

theorem bit_int (P i : Nat) (hP : P < 4294967296) : bits .and .u32 ((P : Int) / 2 ^ i) 1 = ((P / 2 ^ i % 2 : Nat) : Int) := by
  have e : (P : Int) / 2 ^ i = ((P / 2 ^ i : Nat) : Int) := by rw [Int.natCast_ediv, Int.natCast_pow]; rfl
  have hlt : P / 2 ^ i < 4294967296 := Nat.lt_of_le_of_lt (Nat.div_le_self _ _) hP
  rw [e, show (1 : Int) = ((1 : Nat) : Int) from rfl, u32_and_nat _ _ hlt (by omega), nat_mask1]

theorem flip_int (b : UInt8) (r : Nat) (hr : r < 8) : bits .xor .u8 (b.toNat : Int) (2 ^ r % 256) = ((b ^^^ UInt8.ofNat (2 ^ r)).toNat : Int) := by
  have hp : (2 : Nat) ^ r < 256 := Nat.pow_lt_pow_right (a := 2) (n := 8) (by omega) hr
  have e : (2 : Int) ^ r % 256 = ((2 ^ r : Nat) : Int) := by
    rw [show ((2 : Int) ^ r) = ((2 ^ r : Nat) : Int) by rw [Int.natCast_pow]; rfl]
    exact Int.emod_eq_of_lt (Int.natCast_nonneg _) (Int.ofNat_lt.2 hp)
  have hb := b.toNat_lt
  rw [e, u8_xor_nat _ _ (by omega) hp, UInt8.toNat_xor, UInt8.toNat_ofNat_of_lt' (by simpa using hp)]

/-- The loop's relation. -/
structure BRel (w wr : World) (base g cap : Nat) (l m : List UInt8) (P K i : Nat) : Prop where
  own : Own wr base (.slice (some ⟨g, 0, none⟩) m.length cap) m
  bel : Below w.heap.size w wr
  turned : Turned l m P K i

theorem brel_set {w wr : World} {base g cap : Nat} {l m : List UInt8} {P K i : Nat} (h : BRel w wr base g cap l m P K i) (hg : w.heap.size ≤ g) (hb : P / 2 ^ i % 2 = 1) (hj : (K + i) / 8 < m.length) :
    BRel w (wr.setCell ⟨g, (K + i) / 8, none⟩ (.int .u8 (bits .xor .u8 (m[(K + i) / 8].toNat : Int) (2 ^ ((K + i) % 8) % 256)))).drew base g cap l (m.set ((K + i) / 8) (m[(K + i) / 8] ^^^ UInt8.ofNat (2 ^ ((K + i) % 8)))) P K (i + 1) := by
  have hr : (K + i) % 8 < 8 := Nat.mod_lt _ (by omega)
  rw [flip_int _ _ hr]
  exact ⟨(own_at h.own hj _).2.2, (h.bel.setCell hg _).drew, turned_set h.turned hb hj⟩

set_option maxHeartbeats 4000000 in
set_option maxRecDepth 100000 in
theorem bursts_out (p : Value) (l : List UInt8) (a q : Int) (w : World) (h : Rd w p l) (hl : l.length ≤ 140737488351232) (q0 : 0 ≤ q) (hz : q = 0 ∨ 8000 < l.length) :
    Calls Try.prog 6 #[p, .int .u16 a, .int .u32 q] w fun e w' => e = .returned (.bool true) ∧ Below w.heap.size w w' := by
  obtain ⟨o, c, rfl⟩ : ∃ o c, p = .slice o l.length c := by
    rcases h with ⟨rfl, rfl⟩ | ⟨_, c, rfl, _⟩ <;> exact ⟨_, _, rfl⟩
  have h0 : (0 : Int) ≤ (l.length : Int) := by omega
  have h1 : (l.length : Int) ≤ 140737488351232 := by omega
  clear h
  by_cases hq : q = 0
  · subst hq
    go_enter Try.func6, Try.ntmps6
    go_wp2_with fail
    refine (awake w).mono ?_
    rintro e w1 ⟨rfl, hb1⟩
    go_wp2_with fail
    refine (awake w1).mono ?_
    rintro e w2 ⟨rfl, hb2⟩
    go_wp2_with fail
    go_ret
    exact ⟨rfl, hb1.trans (hb2.mono hb1.size)⟩
  · have hd : (q == 0) = false := beq_eq_false_iff_ne.2 hq
    have hd2 : (8000 : Int) < (l.length : Int) := by omega
    clear hz hq
    go_enter Try.func6, Try.ntmps6
    go_wp2_with fail
    refine (awake w).mono ?_
    rintro e w1 ⟨rfl, hb1⟩
    go_wp2_with fail
    refine (awake w1).mono ?_
    rintro e w2 ⟨rfl, hb2⟩
    go_wp2_with fail
    go_ret
    exact ⟨rfl, hb1.trans (hb2.mono hb1.size)⟩

set_option maxHeartbeats 8000000 in
set_option maxRecDepth 100000 in
theorem bursts_in (p : Value) (l : List UInt8) (a q : Int) (w : World) (h : Rd w p l) (hl : l.length ≤ 8000) (a0 : 0 ≤ a) (a1 : a ≤ 65535) (q0 : 0 < q) (q1 : q ≤ 4294967295) :
    Calls Try.prog 6 #[p, .int .u16 a, .int .u32 q] w fun e w' => e = .returned (.bool true) ∧ Below w.heap.size w w' := by
  obtain ⟨o, c, rfl⟩ : ∃ o c, p = .slice o l.length c := by
    rcases h with ⟨rfl, rfl⟩ | ⟨_, c, rfl, _⟩ <;> exact ⟨_, _, rfl⟩
  obtain ⟨P, rfl⟩ := Int.eq_ofNat_of_zero_le (show 0 ≤ q by omega)
  have h0 : (0 : Int) ≤ (l.length : Int) := by omega
  have h1 : (l.length : Int) ≤ 8000 := by omega
  have hd : ((P : Int) == 0) = false := beq_eq_false_iff_ne.2 (by omega)
  have HP := Lib.hid h
  clear h
  go_enter Try.func6, Try.ntmps6
  go_wp2_with fail
  refine (awake w).mono ?_
  rintro e w1 ⟨rfl, hb1⟩
  have C := Lib.hid (sealC (.slice o l.length c) l w1 (HP.out.below hb1) (by omega))
  go_wp2_with fail
  refine C.out.mono ?_
  rintro e w2 ⟨v2, rfl, ho2, hb2⟩
  have hb2' : Below w.heap.size w w2 := hb1.trans (hb2.mono hb1.size)
  have hs1 := hb1.size
  obtain ⟨g, cap, hv2, hg, _, hcap, hcm, _⟩ := own_form' ho2 (by rw [sealed_length]; omega)
  subst hv2
  have hgw : w.heap.size ≤ g := by omega
  obtain ⟨N, hN⟩ : ∃ N, N = l.length + 4 := ⟨_, rfl⟩
  have hNl : (sealed l).length = N := by rw [sealed_length, hN]
  rw [hNl] at hcap
  have start : ∀ K, BRel w w2 w1.heap.size g cap l (sealed l) P K 0 := fun K => ⟨ho2, hb2', turned_start l P K⟩
  have HST := Lib.hid start
  rw [hNl] at *
  have HN := Lib.hid hN
  have HNL := Lib.hid hNl
  have hN1 : (4 : Int) ≤ (N : Int) := by omega
  have hN2 : (N : Int) ≤ 8004 := by omega
  unfold maxLen at hcm
  have hcap' : (N : Int) ≤ (cap : Int) := by omega
  have hcm' : (cap : Int) ≤ 9223372036854775807 := by omega
  clear start ho2 hb1 hb2 hb2' hN hNl C hcm
  go_wp2_with fail
  obtain ⟨K, hK⟩ : ∃ K : Nat, a % (8 * (N : Int)) = K := ⟨(a % (8 * (N : Int))).toNat, (Int.toNat_of_nonneg (Int.emod_nonneg _ (by omega))).symm⟩
  have hKN : (K : Int) < 8 * (N : Int) := by rw [← hK]; exact Int.emod_lt_of_pos _ (by omega)
  rw [hK]
  have start := HST.out K
  clear hK HST
  go_loopw [9] (fun i wr => ∃ (j : Nat) (m : List UInt8), j ≤ 32 ∧ K + j ≤ 8 * N ∧ i = .int .i64 j ∧ BRel w wr w1.heap.size g cap l m P K j) (fun i _ => 32 - (intOf i).toNat)
  case atStart => exact ⟨0, sealed l, by omega, by omega, rfl, start⟩
  case round =>
    clear start
    obtain ⟨j, m, hj, hKj, rfl, hr⟩ := hrel
    have hml : m.length = N := by rw [hr.turned.1, HN.out]
    by_cases hlt : j < 32 ∧ K + j < 8 * N
    · have hd1 : decide ((j : Int) < 32) = true := by simp; omega
      have hd2 : decide ((K : Int) + (j : Int) < 8 * (N : Int)) = true := by simp; omega
      have hj1 : (K : Int) + (j : Int) < 8 * (N : Int) := by omega
      have hj2 : (j : Int) < 32 := by omega
      have hbi := bit_int P j (by omega)
      by_cases hbit : P / 2 ^ j % 2 = 1
      · have hidx : (K + j) / 8 < m.length := by omega
        obtain ⟨hc, hf, _⟩ := own_at hr.own hidx 0
        have fin := brel_set hr hgw hbit hidx
        have HF := Lib.hid fin
        rw [hbit] at hbi
        have hbi2 : (bits .and .u32 ((P : Int) / 2 ^ j) 1 == 1) = true := by rw [hbi]; rfl
        have e1 : IntKind.i64.wrap ((K : Int) + (j : Int)) = (K : Int) + (j : Int) := IntWalk.i64_in _ (by omega)
        have hb0 : (0 : Int) ≤ (m[(K + j) / 8].toNat : Int) := by omega
        have hb1 : (m[(K + j) / 8].toNat : Int) < 256 := by have := m[(K + j) / 8].toNat_lt; omega
        clear fin hr hbi
        go_wp2_with fail
        go_region
        go_wp2
        go_roundw
        case rel => exact ⟨j + 1, _, by omega, by omega, by go_num, HF.out⟩
        case measure => simp [intOf]; omega
      · have hb0 : P / 2 ^ j % 2 = 0 := by omega
        have fin : BRel w wr w1.heap.size g cap l m P K (j + 1) := ⟨hr.own, hr.bel, turned_skip hr.turned hb0⟩
        have HF := Lib.hid fin
        rw [hb0] at hbi
        have hbi2 : (bits .and .u32 ((P : Int) / 2 ^ j) 1 == 1) = false := by rw [hbi]; rfl
        clear fin hr hbi
        go_wp2_with fail
        go_roundw
        case rel => exact ⟨j + 1, m, by omega, by omega, by go_num, HF.out⟩
        case measure => simp [intOf]; omega
    · have hown : Own wr w1.heap.size (.slice (some ⟨g, 0, none⟩) N cap) m := by rw [← hml]; exact hr.own
      have hbel := hr.bel
      have hturn := hr.turned
      have hO : openS m = if sealed (m.take l.length) = m then (m.take l.length, 0) else ([], 14) := by
        show openS m = _
        unfold openS
        have := HN.out
        rw [if_neg (by omega), show m.length - 4 = l.length by omega]
      have HO := Lib.hid (openC (.slice (some ⟨g, 0, none⟩) N cap) m wr (Rd.of_own hown) (by omega))
      have hsz := hbel.size
      clear hr
      by_cases he : sealed (m.take l.length) = m
      · rw [if_pos he] at hO
        have hms := turned_end hturn hj he
        have HOO := Lib.hid hO
        clear hO he hturn
        subst hms
        by_cases hj2 : j < 32
        · have hd1 : decide ((j : Int) < 32) = true := by simp; omega
          have hd2 : decide ((K : Int) + (j : Int) < 8 * (N : Int)) = false := by simp; omega
          clear hlt hj2
          go_wp2_with fail
          refine HO.out.mono ?_
          rw [HOO.out]
          rintro e w3 ⟨⟨v3, he3, _⟩, hb3⟩
          obtain rfl : e = .returned (.tuple #[v3, .int .i64 0]) := he3
          have ho3 := own_below hown hb3 (Nat.le_refl _)
          have hb3' : Below w.heap.size w w3 := hbel.trans (hb3.mono hsz)
          have ht3 := toStr' (show Own w3.drew _ _ _ from ho3)
          have hs3 := hb3'.size
          have HC := Lib.hid (sealC (.slice o l.length c) l w3.drew (HP.out.below hb3'.drew) (by omega))
          go_wp2_with fail
          refine wp_region_held_drew (S := fun w' => (convert 25 9 (.slice (some ⟨g, 0, none⟩) N cap)).run Try.prog w' = .ok (.string ⟨(sealed l).toArray⟩) w') (by kernel_rfl) ht3 ?_
          intro hHeld
          refine wpAnyH_take (i := 0) (v := ?_) (by simp only [List.getElem?_toArray, List.getElem?_cons_zero]; rfl) (by kernel_rfl) (by kernel_rfl) (by kernel_rfl) (by intro _ _ _ h; exact h) (Or.inl ⟨by rfl, ?_⟩) (by assumption) ?_
          rotate_left
          · (intro w hSw; (try dsimp only at hSw); go_simp; try with_reducible rfl)
          try simp only [Act.put, List.setIfInBounds_toArray, List.set_cons_zero, List.set_cons_succ]
          refine wpAnyH_take (i := 1) (v := ?_) (by simp only [List.getElem?_toArray, List.getElem?_cons_succ, List.getElem?_cons_zero]; rfl) (by kernel_rfl) (by kernel_rfl) (by kernel_rfl) (by intro _ _ _ h; exact h) (Or.inl ⟨by rfl, ?_⟩) (by assumption) ?_
          rotate_left
          · (intro w hSw; (try dsimp only at hSw); go_simp; try with_reducible rfl)
          try simp only [Act.put, List.setIfInBounds_toArray, List.set_cons_zero, List.set_cons_succ]
          refine wpAnyH_take (i := 2) (v := ?_) (by simp only [List.getElem?_toArray, List.getElem?_cons_succ, List.getElem?_cons_zero]; rfl) (by kernel_rfl) (by kernel_rfl) (by kernel_rfl) (by intro _ _ _ h; exact h) (Or.inl ⟨by rfl, ?_⟩) (by assumption) ?_
          rotate_left
          · (intro w hSw; (try dsimp only at hSw); go_simp; try with_reducible rfl)
          try simp only [Act.put, List.setIfInBounds_toArray, List.set_cons_zero, List.set_cons_succ]
          refine wpAnyH_take (i := 3) (v := ?_) (by simp only [List.getElem?_toArray, List.getElem?_cons_succ, List.getElem?_cons_zero]; rfl) (by kernel_rfl) (by kernel_rfl) (by kernel_rfl) (by intro _ _ _ h; exact h) (Or.inl ⟨by rfl, ?_⟩) (by assumption) ?_
          rotate_left
          · (intro w hSw; (try dsimp only at hSw); go_simp; try with_reducible rfl)
          try simp only [Act.put, List.setIfInBounds_toArray, List.set_cons_zero, List.set_cons_succ]
          refine wpAnyH_take (i := 4) (v := ?_) (by simp only [List.getElem?_toArray, List.getElem?_cons_succ, List.getElem?_cons_zero]; rfl) (by kernel_rfl) (by kernel_rfl) (by kernel_rfl) (by intro _ _ _ h; exact h) (Or.inl ⟨by rfl, ?_⟩) (by assumption) ?_
          rotate_left
          · (intro w hSw; (try dsimp only at hSw); go_simp; try with_reducible rfl)
          try simp only [Act.put, List.setIfInBounds_toArray, List.set_cons_zero, List.set_cons_succ]
          refine wpAnyH_take (i := 5) (v := ?_) (by simp only [List.getElem?_toArray, List.getElem?_cons_succ, List.getElem?_cons_zero]; rfl) (by kernel_rfl) (by kernel_rfl) (by kernel_rfl) (by intro _ _ _ h; exact h) (Or.inl ⟨by rfl, ?_⟩) (by assumption) ?_
          rotate_left
          · (intro w hSw; (try dsimp only at hSw); go_simp; try with_reducible rfl)
          try simp only [Act.put, List.setIfInBounds_toArray, List.set_cons_zero, List.set_cons_succ]
          refine wpAnyH_ready (rs := [6]) (by kernel_rfl) (by simp) ?_
          refine AllReadyH.cons (by simp only [List.getElem?_toArray, List.getElem?_cons_succ, List.getElem?_cons_zero]; rfl) (fun K hK => ?_) AllReadyH.nil
          go_simp
          refine HC.out.mono ?_
          rintro e w4 ⟨v4, rfl, ho4, hb4⟩
          have ht4 := toStr' ho4
          have ht4' := toStr' (own_below (show Own w3.drew _ _ _ from ho3) hb4 (Nat.le_refl _))
          have hb4' : Below w.heap.size w w4 := hb3'.drew.trans (hb4.mono hs3)
          go_wp2_with fail
          refine hK.out _ _ ht4' (fun hHeld => ?_)
          clear hK K
          try simp only [Act.put, List.setIfInBounds_toArray, List.set_cons_zero, List.set_cons_succ]
          refine wpAnyH_ready (rs := [7]) (by kernel_rfl) (by simp) ?_
          refine AllReadyH.cons (by simp only [List.getElem?_toArray, List.getElem?_cons_succ, List.getElem?_cons_zero]; rfl) (fun K hK => ?_) AllReadyH.nil
          go_simp
          refine hK.out _ _ ht4' (fun hHeld => ?_)
          clear hK K
          try simp only [Act.put, List.setIfInBounds_toArray, List.set_cons_zero, List.set_cons_succ]
          refine wpAnyH_take (i := 8) (v := ?_) (by simp only [List.getElem?_toArray, List.getElem?_cons_succ, List.getElem?_cons_zero]; rfl) (by kernel_rfl) (by kernel_rfl) (by kernel_rfl) (by intro _ _ _ h; exact h) (Or.inl ⟨by rfl, ?_⟩) (by assumption) ?_
          rotate_left
          · (intro w hSw; (try dsimp only at hSw); go_simp; try with_reducible rfl)
          try simp only [Act.put, List.setIfInBounds_toArray, List.set_cons_zero, List.set_cons_succ]
          refine wpAnyH_take (i := 9) (v := ?_) (by simp only [List.getElem?_toArray, List.getElem?_cons_succ, List.getElem?_cons_zero]; rfl) (by kernel_rfl) (by kernel_rfl) (by kernel_rfl) (by intro _ _ _ h; exact h) (Or.inl ⟨by rfl, ?_⟩) (by assumption) ?_
          rotate_left
          · (intro w hSw; (try dsimp only at hSw); go_simp; try with_reducible rfl)
          try simp only [Act.put, List.setIfInBounds_toArray, List.set_cons_zero, List.set_cons_succ]
          refine wpAnyH_take (i := 10) (v := ?_) (by simp only [List.getElem?_toArray, List.getElem?_cons_succ, List.getElem?_cons_zero]; rfl) (by kernel_rfl) (by kernel_rfl) (by kernel_rfl) (by intro _ _ _ h; exact h) (Or.inl ⟨by rfl, ?_⟩) (by assumption) ?_
          rotate_left
          · (intro w hSw; (try dsimp only at hSw); go_simp; try with_reducible rfl)
          try simp only [Act.put, List.setIfInBounds_toArray, List.set_cons_zero, List.set_cons_succ]
          refine wpAnyH_done (by kernel_rfl) ?_ _
          go_wp2
          go_ret
          exact ⟨rfl, hb4'⟩
        · have hd1 : decide ((j : Int) < 32) = false := by simp; omega
          clear hlt hj2
          go_wp2_with fail
          refine HO.out.mono ?_
          rw [HOO.out]
          rintro e w3 ⟨⟨v3, he3, _⟩, hb3⟩
          obtain rfl : e = .returned (.tuple #[v3, .int .i64 0]) := he3
          have ho3 := own_below hown hb3 (Nat.le_refl _)
          have hb3' : Below w.heap.size w w3 := hbel.trans (hb3.mono hsz)
          have ht3 := toStr' (show Own w3.drew _ _ _ from ho3)
          have hs3 := hb3'.size
          have HC := Lib.hid (sealC (.slice o l.length c) l w3.drew (HP.out.below hb3'.drew) (by omega))
          go_wp2_with fail
          refine wp_region_held_drew (S := fun w' => (convert 25 9 (.slice (some ⟨g, 0, none⟩) N cap)).run Try.prog w' = .ok (.string ⟨(sealed l).toArray⟩) w') (by kernel_rfl) ht3 ?_
          intro hHeld
          refine wpAnyH_take (i := 0) (v := ?_) (by simp only [List.getElem?_toArray, List.getElem?_cons_zero]; rfl) (by kernel_rfl) (by kernel_rfl) (by kernel_rfl) (by intro _ _ _ h; exact h) (Or.inl ⟨by rfl, ?_⟩) (by assumption) ?_
          rotate_left
          · (intro w hSw; (try dsimp only at hSw); go_simp; try with_reducible rfl)
          try simp only [Act.put, List.setIfInBounds_toArray, List.set_cons_zero, List.set_cons_succ]
          refine wpAnyH_take (i := 1) (v := ?_) (by simp only [List.getElem?_toArray, List.getElem?_cons_succ, List.getElem?_cons_zero]; rfl) (by kernel_rfl) (by kernel_rfl) (by kernel_rfl) (by intro _ _ _ h; exact h) (Or.inl ⟨by rfl, ?_⟩) (by assumption) ?_
          rotate_left
          · (intro w hSw; (try dsimp only at hSw); go_simp; try with_reducible rfl)
          try simp only [Act.put, List.setIfInBounds_toArray, List.set_cons_zero, List.set_cons_succ]
          refine wpAnyH_take (i := 2) (v := ?_) (by simp only [List.getElem?_toArray, List.getElem?_cons_succ, List.getElem?_cons_zero]; rfl) (by kernel_rfl) (by kernel_rfl) (by kernel_rfl) (by intro _ _ _ h; exact h) (Or.inl ⟨by rfl, ?_⟩) (by assumption) ?_
          rotate_left
          · (intro w hSw; (try dsimp only at hSw); go_simp; try with_reducible rfl)
          try simp only [Act.put, List.setIfInBounds_toArray, List.set_cons_zero, List.set_cons_succ]
          refine wpAnyH_take (i := 3) (v := ?_) (by simp only [List.getElem?_toArray, List.getElem?_cons_succ, List.getElem?_cons_zero]; rfl) (by kernel_rfl) (by kernel_rfl) (by kernel_rfl) (by intro _ _ _ h; exact h) (Or.inl ⟨by rfl, ?_⟩) (by assumption) ?_
          rotate_left
          · (intro w hSw; (try dsimp only at hSw); go_simp; try with_reducible rfl)
          try simp only [Act.put, List.setIfInBounds_toArray, List.set_cons_zero, List.set_cons_succ]
          refine wpAnyH_take (i := 4) (v := ?_) (by simp only [List.getElem?_toArray, List.getElem?_cons_succ, List.getElem?_cons_zero]; rfl) (by kernel_rfl) (by kernel_rfl) (by kernel_rfl) (by intro _ _ _ h; exact h) (Or.inl ⟨by rfl, ?_⟩) (by assumption) ?_
          rotate_left
          · (intro w hSw; (try dsimp only at hSw); go_simp; try with_reducible rfl)
          try simp only [Act.put, List.setIfInBounds_toArray, List.set_cons_zero, List.set_cons_succ]
          refine wpAnyH_take (i := 5) (v := ?_) (by simp only [List.getElem?_toArray, List.getElem?_cons_succ, List.getElem?_cons_zero]; rfl) (by kernel_rfl) (by kernel_rfl) (by kernel_rfl) (by intro _ _ _ h; exact h) (Or.inl ⟨by rfl, ?_⟩) (by assumption) ?_
          rotate_left
          · (intro w hSw; (try dsimp only at hSw); go_simp; try with_reducible rfl)
          try simp only [Act.put, List.setIfInBounds_toArray, List.set_cons_zero, List.set_cons_succ]
          refine wpAnyH_ready (rs := [6]) (by kernel_rfl) (by simp) ?_
          refine AllReadyH.cons (by simp only [List.getElem?_toArray, List.getElem?_cons_succ, List.getElem?_cons_zero]; rfl) (fun K hK => ?_) AllReadyH.nil
          go_simp
          refine HC.out.mono ?_
          rintro e w4 ⟨v4, rfl, ho4, hb4⟩
          have ht4 := toStr' ho4
          have ht4' := toStr' (own_below (show Own w3.drew _ _ _ from ho3) hb4 (Nat.le_refl _))
          have hb4' : Below w.heap.size w w4 := hb3'.drew.trans (hb4.mono hs3)
          go_wp2_with fail
          refine hK.out _ _ ht4' (fun hHeld => ?_)
          clear hK K
          try simp only [Act.put, List.setIfInBounds_toArray, List.set_cons_zero, List.set_cons_succ]
          refine wpAnyH_ready (rs := [7]) (by kernel_rfl) (by simp) ?_
          refine AllReadyH.cons (by simp only [List.getElem?_toArray, List.getElem?_cons_succ, List.getElem?_cons_zero]; rfl) (fun K hK => ?_) AllReadyH.nil
          go_simp
          refine hK.out _ _ ht4' (fun hHeld => ?_)
          clear hK K
          try simp only [Act.put, List.setIfInBounds_toArray, List.set_cons_zero, List.set_cons_succ]
          refine wpAnyH_take (i := 8) (v := ?_) (by simp only [List.getElem?_toArray, List.getElem?_cons_succ, List.getElem?_cons_zero]; rfl) (by kernel_rfl) (by kernel_rfl) (by kernel_rfl) (by intro _ _ _ h; exact h) (Or.inl ⟨by rfl, ?_⟩) (by assumption) ?_
          rotate_left
          · (intro w hSw; (try dsimp only at hSw); go_simp; try with_reducible rfl)
          try simp only [Act.put, List.setIfInBounds_toArray, List.set_cons_zero, List.set_cons_succ]
          refine wpAnyH_take (i := 9) (v := ?_) (by simp only [List.getElem?_toArray, List.getElem?_cons_succ, List.getElem?_cons_zero]; rfl) (by kernel_rfl) (by kernel_rfl) (by kernel_rfl) (by intro _ _ _ h; exact h) (Or.inl ⟨by rfl, ?_⟩) (by assumption) ?_
          rotate_left
          · (intro w hSw; (try dsimp only at hSw); go_simp; try with_reducible rfl)
          try simp only [Act.put, List.setIfInBounds_toArray, List.set_cons_zero, List.set_cons_succ]
          refine wpAnyH_take (i := 10) (v := ?_) (by simp only [List.getElem?_toArray, List.getElem?_cons_succ, List.getElem?_cons_zero]; rfl) (by kernel_rfl) (by kernel_rfl) (by kernel_rfl) (by intro _ _ _ h; exact h) (Or.inl ⟨by rfl, ?_⟩) (by assumption) ?_
          rotate_left
          · (intro w hSw; (try dsimp only at hSw); go_simp; try with_reducible rfl)
          try simp only [Act.put, List.setIfInBounds_toArray, List.set_cons_zero, List.set_cons_succ]
          refine wpAnyH_done (by kernel_rfl) ?_ _
          go_wp2
          go_ret
          exact ⟨rfl, hb4'⟩
      · rw [if_neg he] at hO
        have HOO := Lib.hid hO
        clear hO he hturn
        by_cases hj2 : j < 32
        · have hd1 : decide ((j : Int) < 32) = true := by simp; omega
          have hd2 : decide ((K : Int) + (j : Int) < 8 * (N : Int)) = false := by simp; omega
          clear hlt hj2
          go_wp2_with fail
          refine HO.out.mono ?_
          rw [HOO.out]
          rintro e w3 ⟨⟨v3, he3, _⟩, hb3⟩
          obtain rfl : e = .returned (.tuple #[v3, .int .i64 14]) := he3
          have hb3' : Below w.heap.size w w3 := hbel.trans (hb3.mono hsz)
          go_wp2_with fail
          refine wp_region_held_drew (S := fun _ => True) (by kernel_rfl) trivial ?_
          intro hHeld
          refine wpAnyH_take (i := 0) (v := ?_) (by simp only [List.getElem?_toArray, List.getElem?_cons_zero]; rfl) (by kernel_rfl) (by kernel_rfl) (by kernel_rfl) (by intro _ _ _ h; exact h) (Or.inl ⟨by rfl, ?_⟩) (by assumption) ?_
          rotate_left
          · (intro w hSw; (try dsimp only at hSw); go_simp; try with_reducible rfl)
          try simp only [Act.put, List.setIfInBounds_toArray, List.set_cons_zero, List.set_cons_succ]
          refine wpAnyH_take (i := 1) (v := ?_) (by simp only [List.getElem?_toArray, List.getElem?_cons_succ, List.getElem?_cons_zero]; rfl) (by kernel_rfl) (by kernel_rfl) (by kernel_rfl) (by intro _ _ _ h; exact h) (Or.inl ⟨by rfl, ?_⟩) (by assumption) ?_
          rotate_left
          · (intro w hSw; (try dsimp only at hSw); go_simp; try with_reducible rfl)
          try simp only [Act.put, List.setIfInBounds_toArray, List.set_cons_zero, List.set_cons_succ]
          refine wpAnyH_take (i := 2) (v := ?_) (by simp only [List.getElem?_toArray, List.getElem?_cons_succ, List.getElem?_cons_zero]; rfl) (by kernel_rfl) (by kernel_rfl) (by kernel_rfl) (by intro _ _ _ h; exact h) (Or.inl ⟨by rfl, ?_⟩) (by assumption) ?_
          rotate_left
          · (intro w hSw; (try dsimp only at hSw); go_simp; try with_reducible rfl)
          try simp only [Act.put, List.setIfInBounds_toArray, List.set_cons_zero, List.set_cons_succ]
          refine wpAnyH_take (i := 3) (v := undef) (by simp only [List.getElem?_toArray, List.getElem?_cons_succ, List.getElem?_cons_zero]; rfl) (by kernel_rfl) (by kernel_rfl) (by kernel_rfl) (by intro _ _ _ h; exact h) (Or.inr ⟨by rfl, rfl⟩) (by assumption) ?_
          try simp only [Act.put, List.setIfInBounds_toArray, List.set_cons_zero, List.set_cons_succ]
          refine wpAnyH_take (i := 4) (v := undef) (by simp only [List.getElem?_toArray, List.getElem?_cons_succ, List.getElem?_cons_zero]; rfl) (by kernel_rfl) (by kernel_rfl) (by kernel_rfl) (by intro _ _ _ h; exact h) (Or.inr ⟨by rfl, rfl⟩) (by assumption) ?_
          try simp only [Act.put, List.setIfInBounds_toArray, List.set_cons_zero, List.set_cons_succ]
          refine wpAnyH_take (i := 5) (v := undef) (by simp only [List.getElem?_toArray, List.getElem?_cons_succ, List.getElem?_cons_zero]; rfl) (by kernel_rfl) (by kernel_rfl) (by kernel_rfl) (by intro _ _ _ h; exact h) (Or.inr ⟨by rfl, rfl⟩) (by assumption) ?_
          try simp only [Act.put, List.setIfInBounds_toArray, List.set_cons_zero, List.set_cons_succ]
          refine wpAnyH_take (i := 6) (v := undef) (by simp only [List.getElem?_toArray, List.getElem?_cons_succ, List.getElem?_cons_zero]; rfl) (by kernel_rfl) (by kernel_rfl) (by kernel_rfl) (by intro _ _ _ h; exact h) (Or.inr ⟨by rfl, rfl⟩) (by assumption) ?_
          try simp only [Act.put, List.setIfInBounds_toArray, List.set_cons_zero, List.set_cons_succ]
          refine wpAnyH_take (i := 7) (v := undef) (by simp only [List.getElem?_toArray, List.getElem?_cons_succ, List.getElem?_cons_zero]; rfl) (by kernel_rfl) (by kernel_rfl) (by kernel_rfl) (by intro _ _ _ h; exact h) (Or.inr ⟨by rfl, rfl⟩) (by assumption) ?_
          try simp only [Act.put, List.setIfInBounds_toArray, List.set_cons_zero, List.set_cons_succ]
          refine wpAnyH_take (i := 8) (v := undef) (by simp only [List.getElem?_toArray, List.getElem?_cons_succ, List.getElem?_cons_zero]; rfl) (by kernel_rfl) (by kernel_rfl) (by kernel_rfl) (by intro _ _ _ h; exact h) (Or.inr ⟨by rfl, rfl⟩) (by assumption) ?_
          try simp only [Act.put, List.setIfInBounds_toArray, List.set_cons_zero, List.set_cons_succ]
          refine wpAnyH_take (i := 9) (v := ?_) (by simp only [List.getElem?_toArray, List.getElem?_cons_succ, List.getElem?_cons_zero]; rfl) (by kernel_rfl) (by kernel_rfl) (by kernel_rfl) (by intro _ _ _ h; exact h) (Or.inl ⟨by rfl, ?_⟩) (by assumption) ?_
          rotate_left
          · (intro w hSw; (try dsimp only at hSw); go_simp; try with_reducible rfl)
          try simp only [Act.put, List.setIfInBounds_toArray, List.set_cons_zero, List.set_cons_succ]
          refine wpAnyH_take (i := 10) (v := ?_) (by simp only [List.getElem?_toArray, List.getElem?_cons_succ, List.getElem?_cons_zero]; rfl) (by kernel_rfl) (by kernel_rfl) (by kernel_rfl) (by intro _ _ _ h; exact h) (Or.inl ⟨by rfl, ?_⟩) (by assumption) ?_
          rotate_left
          · (intro w hSw; (try dsimp only at hSw); go_simp; try with_reducible rfl)
          try simp only [Act.put, List.setIfInBounds_toArray, List.set_cons_zero, List.set_cons_succ]
          refine wpAnyH_done (by kernel_rfl) ?_ _
          go_wp2
          go_ret
          exact ⟨rfl, hb3'.drew⟩
        · have hd1 : decide ((j : Int) < 32) = false := by simp; omega
          clear hlt hj2
          go_wp2_with fail
          refine HO.out.mono ?_
          rw [HOO.out]
          rintro e w3 ⟨⟨v3, he3, _⟩, hb3⟩
          obtain rfl : e = .returned (.tuple #[v3, .int .i64 14]) := he3
          have hb3' : Below w.heap.size w w3 := hbel.trans (hb3.mono hsz)
          go_wp2_with fail
          refine wp_region_held_drew (S := fun _ => True) (by kernel_rfl) trivial ?_
          intro hHeld
          refine wpAnyH_take (i := 0) (v := ?_) (by simp only [List.getElem?_toArray, List.getElem?_cons_zero]; rfl) (by kernel_rfl) (by kernel_rfl) (by kernel_rfl) (by intro _ _ _ h; exact h) (Or.inl ⟨by rfl, ?_⟩) (by assumption) ?_
          rotate_left
          · (intro w hSw; (try dsimp only at hSw); go_simp; try with_reducible rfl)
          try simp only [Act.put, List.setIfInBounds_toArray, List.set_cons_zero, List.set_cons_succ]
          refine wpAnyH_take (i := 1) (v := ?_) (by simp only [List.getElem?_toArray, List.getElem?_cons_succ, List.getElem?_cons_zero]; rfl) (by kernel_rfl) (by kernel_rfl) (by kernel_rfl) (by intro _ _ _ h; exact h) (Or.inl ⟨by rfl, ?_⟩) (by assumption) ?_
          rotate_left
          · (intro w hSw; (try dsimp only at hSw); go_simp; try with_reducible rfl)
          try simp only [Act.put, List.setIfInBounds_toArray, List.set_cons_zero, List.set_cons_succ]
          refine wpAnyH_take (i := 2) (v := ?_) (by simp only [List.getElem?_toArray, List.getElem?_cons_succ, List.getElem?_cons_zero]; rfl) (by kernel_rfl) (by kernel_rfl) (by kernel_rfl) (by intro _ _ _ h; exact h) (Or.inl ⟨by rfl, ?_⟩) (by assumption) ?_
          rotate_left
          · (intro w hSw; (try dsimp only at hSw); go_simp; try with_reducible rfl)
          try simp only [Act.put, List.setIfInBounds_toArray, List.set_cons_zero, List.set_cons_succ]
          refine wpAnyH_take (i := 3) (v := undef) (by simp only [List.getElem?_toArray, List.getElem?_cons_succ, List.getElem?_cons_zero]; rfl) (by kernel_rfl) (by kernel_rfl) (by kernel_rfl) (by intro _ _ _ h; exact h) (Or.inr ⟨by rfl, rfl⟩) (by assumption) ?_
          try simp only [Act.put, List.setIfInBounds_toArray, List.set_cons_zero, List.set_cons_succ]
          refine wpAnyH_take (i := 4) (v := undef) (by simp only [List.getElem?_toArray, List.getElem?_cons_succ, List.getElem?_cons_zero]; rfl) (by kernel_rfl) (by kernel_rfl) (by kernel_rfl) (by intro _ _ _ h; exact h) (Or.inr ⟨by rfl, rfl⟩) (by assumption) ?_
          try simp only [Act.put, List.setIfInBounds_toArray, List.set_cons_zero, List.set_cons_succ]
          refine wpAnyH_take (i := 5) (v := undef) (by simp only [List.getElem?_toArray, List.getElem?_cons_succ, List.getElem?_cons_zero]; rfl) (by kernel_rfl) (by kernel_rfl) (by kernel_rfl) (by intro _ _ _ h; exact h) (Or.inr ⟨by rfl, rfl⟩) (by assumption) ?_
          try simp only [Act.put, List.setIfInBounds_toArray, List.set_cons_zero, List.set_cons_succ]
          refine wpAnyH_take (i := 6) (v := undef) (by simp only [List.getElem?_toArray, List.getElem?_cons_succ, List.getElem?_cons_zero]; rfl) (by kernel_rfl) (by kernel_rfl) (by kernel_rfl) (by intro _ _ _ h; exact h) (Or.inr ⟨by rfl, rfl⟩) (by assumption) ?_
          try simp only [Act.put, List.setIfInBounds_toArray, List.set_cons_zero, List.set_cons_succ]
          refine wpAnyH_take (i := 7) (v := undef) (by simp only [List.getElem?_toArray, List.getElem?_cons_succ, List.getElem?_cons_zero]; rfl) (by kernel_rfl) (by kernel_rfl) (by kernel_rfl) (by intro _ _ _ h; exact h) (Or.inr ⟨by rfl, rfl⟩) (by assumption) ?_
          try simp only [Act.put, List.setIfInBounds_toArray, List.set_cons_zero, List.set_cons_succ]
          refine wpAnyH_take (i := 8) (v := undef) (by simp only [List.getElem?_toArray, List.getElem?_cons_succ, List.getElem?_cons_zero]; rfl) (by kernel_rfl) (by kernel_rfl) (by kernel_rfl) (by intro _ _ _ h; exact h) (Or.inr ⟨by rfl, rfl⟩) (by assumption) ?_
          try simp only [Act.put, List.setIfInBounds_toArray, List.set_cons_zero, List.set_cons_succ]
          refine wpAnyH_take (i := 9) (v := ?_) (by simp only [List.getElem?_toArray, List.getElem?_cons_succ, List.getElem?_cons_zero]; rfl) (by kernel_rfl) (by kernel_rfl) (by kernel_rfl) (by intro _ _ _ h; exact h) (Or.inl ⟨by rfl, ?_⟩) (by assumption) ?_
          rotate_left
          · (intro w hSw; (try dsimp only at hSw); go_simp; try with_reducible rfl)
          try simp only [Act.put, List.setIfInBounds_toArray, List.set_cons_zero, List.set_cons_succ]
          refine wpAnyH_take (i := 10) (v := ?_) (by simp only [List.getElem?_toArray, List.getElem?_cons_succ, List.getElem?_cons_zero]; rfl) (by kernel_rfl) (by kernel_rfl) (by kernel_rfl) (by intro _ _ _ h; exact h) (Or.inl ⟨by rfl, ?_⟩) (by assumption) ?_
          rotate_left
          · (intro w hSw; (try dsimp only at hSw); go_simp; try with_reducible rfl)
          try simp only [Act.put, List.setIfInBounds_toArray, List.set_cons_zero, List.set_cons_succ]
          refine wpAnyH_done (by kernel_rfl) ?_ _
          go_wp2
          go_ret
          exact ⟨rfl, hb3'.drew⟩

theorem bursts_walk (p : Value) (l : List UInt8) (a q : Int) (w : World) (h : Rd w p l) (hl : l.length ≤ 140737488351232) (a0 : 0 ≤ a) (a1 : a ≤ 65535) (q0 : 0 ≤ q) (q1 : q ≤ 4294967295) :
    Calls Try.prog 6 #[p, .int .u16 a, .int .u32 q] w fun e w' => e = .returned (.bool true) ∧ Below w.heap.size w w' := by
  by_cases hz : q = 0 ∨ 8000 < l.length
  · exact bursts_out p l a q w h hl q0 hz
  · exact bursts_in p l a q w h (by omega) a0 a1 (by omega) q1
end Go.Proofs.Ytbjigdicooochaa
