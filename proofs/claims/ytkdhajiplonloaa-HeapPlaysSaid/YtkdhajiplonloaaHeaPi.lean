/- The reference's come and there. -/
import Derived.Test.YtkdhajiplonloaaHeaPh
import Derived.Deep.DeepCutAuto
namespace Go.Proofs.Ytkdhajiplonloaa
open Go.RowKit HeaM

theorem intInfo : (Try.prog.info? 3).map (fun i => (i.zero, i.size, i.bytes)) = some (some (.int .i64 0), 1, 8) := by kernel_rfl
def Is (l : List Nat) : List Value := l.map fun (x : Nat) => .int .i64 (x : Int)
theorem Is_length (l : List Nat) : (Is l).length = l.length := by simp [Is]
abbrev OwnI (w : World) (base : Nat) (v : Value) (l : List Nat) : Prop := w.ownsRow base 3 1 v l.length (Is l)

/-- Where things were, and where they go. -/
structure OrdS (w : World) (base : Nat) (ov pv : Value) (ps : List (Nat × Nat)) : Prop where
  ord : OwnI w base ov (ps.map (·.1))
  pla : OwnU w base pv (ps.map (·.2))
def thr (ps : List (Nat × Nat)) (x : Nat) : Nat := if x % 2 = 0 then match look ps (x / 2) with | some j => 2 * j | none => x else x

theorem find_none {ps : List (Nat × Nat)} {i : Nat} (h : ∀ k, k < ps.length → (ps.getD k (0, 0)).1 ≠ i) : look ps i = none := by
  rw [look_none]
  intro p hp e
  obtain ⟨k, hk⟩ := List.getElem?_of_mem hp
  have hl := (List.getElem?_eq_some_iff.1 hk).1
  refine h k hl ?_
  rw [List.getD_eq_getElem?_getD, hk]
  exact e
theorem look_at {ps : List (Nat × Nat)} {i k : Nat} (h : ∀ m, m < k → (ps.getD m (0, 0)).1 ≠ i) (hk : k < ps.length) (he : (ps.getD k (0, 0)).1 = i) : look ps i = some (ps.getD k (0, 0)).2 := by
  unfold look
  have hsp : ps = ps.take k ++ ps[k] :: ps.drop (k + 1) := by rw [← List.drop_eq_getElem_cons hk, List.take_append_drop]
  have hgk : ps.getD k (0, 0) = ps[k] := by rw [List.getD_eq_getElem?_getD, List.getElem?_eq_getElem hk]; rfl
  rw [hgk] at he ⊢
  conv => lhs; rw [hsp]
  rw [List.find?_append]
  have hn : (ps.take k).find? (fun p => p.1 == i) = none := by
    rw [List.find?_eq_none]
    intro p hp
    obtain ⟨m, hm⟩ := List.getElem?_of_mem hp
    have hl := (List.getElem?_eq_some_iff.1 hm).1
    rw [List.length_take] at hl
    rw [List.getElem?_take, if_pos (by omega)] at hm
    have := h m (by omega)
    rw [List.getD_eq_getElem?_getD, hm] at this
    simpa using this
  rw [hn, Option.none_or, List.find?_cons_of_pos (by simpa using he)]
  rfl

/-- Reading the two rows. -/
theorem OrdS.cells {w : World} {base : Nat} {ov pv : Value} {ps : List (Nat × Nat)} (h : OrdS w base ov pv ps) (hl : 0 < ps.length) : ∃ g1 c1 g2 c2, ov = .slice (some ⟨g1, 0, none⟩) ps.length c1 ∧ pv = .slice (some ⟨g2, 0, none⟩) ps.length c2 ∧ c1 ≤ maxLen ∧ c2 ≤ maxLen ∧ ∀ k, k < ps.length → w.cell? ⟨g1, k, none⟩ = some (.int .i64 ((ps.getD k (0, 0)).1 : Int)) ∧ w.cell? ⟨g2, k, none⟩ = some (.int .u64 ((ps.getD k (0, 0)).2 : Int)) := by
  have ho := h.ord
  have hp := h.pla
  unfold OwnI at ho
  unfold OwnU at hp
  rw [List.length_map] at ho hp
  rcases ho.2 with ⟨_, e⟩ | ⟨g1, c1, cur1, rfl, _, _, _, m1, _⟩
  · omega
  rcases hp.2 with ⟨_, e⟩ | ⟨g2, c2, cur2, rfl, _, _, _, m2, _⟩
  · omega
  refine ⟨g1, c1, g2, c2, rfl, rfl, m1, m2, fun k hk => ⟨?_, ?_⟩⟩
  · rw [ho.cellAt k (by omega)]
    simp only [Is, List.getElem?_map, List.getElem?_eq_getElem hk, List.getD_eq_getElem?_getD]
    rfl
  · rw [hp.cellAt k (by omega)]
    simp only [Ws, List.getElem?_map, List.getElem?_eq_getElem hk, List.getD_eq_getElem?_getD]
    rfl

set_option maxHeartbeats 2000000 in
set_option maxRecDepth 100000 in
theorem there_t (base : Nat) (ov pv : Value) (ps : List (Nat × Nat)) (x : Nat) (w : World) (h : OrdS w base ov pv ps) (hx : x < 18446744073709551616) (hn : ps.length ≤ 10000000) (hp1 : ∀ p ∈ ps, p.1 < 10000000) (hp2 : ∀ p ∈ ps, p.2 ≤ 10000000) :
    Calls Try.prog 26 #[ov, pv, .int .u64 (x : Int)] w fun e w' => e = .returned (.int .u64 (thr ps x : Int)) ∧ w = w' := by
  have hx' : (x : Int) ≤ 18446744073709551615 := by omega
  have hni : (ps.length : Int) ≤ 10000000 := by omega
  by_cases h0 : ps.length = 0
  · obtain rfl : ps = [] := List.eq_nil_of_length_eq_zero h0
    have ht : thr [] x = x := by unfold thr look; split <;> rfl
    have HT := Lib.hid ht
    obtain ⟨o1, c1, hov, _⟩ := own_slice h.ord
    clear h ht h0
    simp only [List.map_nil, List.length_nil] at hov
    subst hov
    go_enter Try.func26, Try.ntmps26
    go_wp2_with fail
    refine wp_loop_rounds 1 ?_
    rw [rounds_succ]
    go_wp2_with fail
    go_ret
    exact ⟨by rw [HT.out]; rfl, rfl⟩
  · obtain ⟨g1, c1, g2, c2, hov, hpv, m1, m2, hc⟩ := h.cells (by omega)
    have HC := Lib.hid hc
    have HP1 := Lib.hid hp1
    have HP2 := Lib.hid hp2
    have HN0 := Lib.hid h0
    clear h hc hp1 hp2 h0
    unfold maxLen at m1 m2
    subst hov hpv
    go_enter Try.func26, Try.ntmps26
    go_wp2_with fail
    go_loop [7] (fun i => ∃ k : Nat, k ≤ ps.length ∧ i = .int .i64 k ∧ Hid (x % 2 = 0 → ∀ m, m < k → (ps.getD m (0, 0)).1 ≠ x / 2)) (fun i => ps.length - (intOf i).toNat)
    case atStart => exact ⟨0, Nat.zero_le _, rfl, fun _ m hm => absurd hm (Nat.not_lt_zero _)⟩
    case round =>
      obtain ⟨k, hk, rfl, HK⟩ := hrel
      by_cases hlt : k < ps.length
      · have hki : (k : Int) < (ps.length : Int) := by omega
        obtain ⟨a1, a2⟩ := HC.out k hlt
        have hmem : ps.getD k (0, 0) ∈ ps := by rw [List.getD_eq_getElem?_getD, List.getElem?_eq_getElem hlt]; exact List.getElem_mem hlt
        have b1 := HP1.out _ hmem
        have b2 := HP2.out _ hmem
        obtain ⟨y, hy⟩ : ∃ y, (ps.getD k (0, 0)).1 = y := ⟨_, rfl⟩
        obtain ⟨z, hz⟩ : ∃ z, (ps.getD k (0, 0)).2 = z := ⟨_, rfl⟩
        rw [hy] at a1 b1
        rw [hz] at a2 b2
        have HY := Lib.hid hy
        have HZ := Lib.hid hz
        have yi : (y : Int) ≤ 10000000 := by omega
        have zi : (z : Int) ≤ 10000000 := by omega
        have ey : IntKind.u64.wrap (y : Int) = (y : Int) := by rw [IntKind.wrap_u64]; omega
        clear hmem hy hz
        by_cases hodd : x % 2 = 0
        · have d0 : ((x : Int) % 2 == 0) = true := by rw [beq_iff_eq]; omega
          by_cases he : y = x / 2
          · have d1 : ((y : Int) == (x : Int) / 2) = true := by rw [beq_iff_eq]; omega
            have ht : thr ps x = 2 * z := by
              unfold thr
              rw [if_pos hodd, look_at (HK.out hodd) hlt (HY.out.trans he), HZ.out]
            have HT := Lib.hid ht
            clear ht hodd he
            go_wp2_with fail
            go_ret
            refine ⟨?_, rfl⟩
            rw [HT.out]
            exact congrArg (fun i => Ending.returned (Value.int .u64 i)) (by omega)
          · have d1 : ((y : Int) == (x : Int) / 2) = false := by rw [beq_eq_false_iff_ne]; omega
            have hnx : Hid (x % 2 = 0 → ∀ m, m < k + 1 → (ps.getD m (0, 0)).1 ≠ x / 2) := fun ho m hm => by
              rcases Nat.lt_or_ge m k with h1 | h1
              · exact HK.out ho m h1
              · obtain rfl : m = k := by omega
                rw [HY.out]
                exact he
            clear hodd he
            go_wp2_with fail
            go_round
            case rel => exact ⟨k + 1, by omega, by go_num, hnx.out⟩
            case measure => simp [intOf]; omega
        · have d0 : ((x : Int) % 2 == 0) = false := by rw [beq_eq_false_iff_ne]; omega
          have hnx : Hid (x % 2 = 0 → ∀ m, m < k + 1 → (ps.getD m (0, 0)).1 ≠ x / 2) := fun ho => absurd ho hodd
          clear hodd
          go_wp2_with fail
          go_round
          case rel => exact ⟨k + 1, by omega, by go_num, hnx.out⟩
          case measure => simp [intOf]; omega
      · obtain rfl : k = ps.length := by omega
        have ht : thr ps x = x := by
          unfold thr
          split
          · rename_i ho
            rw [find_none (HK.out ho)]
          · rfl
        have HT := Lib.hid ht
        clear ht
        go_wp2_with fail
        go_ret
        exact ⟨by rw [HT.out]; rfl, rfl⟩

/-- One thing more that is come to. -/
theorem OrdS.push {w : World} {base : Nat} {ov pv : Value} {ps : List (Nat × Nat)} {i z : Nat} (h : OrdS w base ov pv ps) (hb : base ≤ w.heap.size) (hn : ps.length ≤ 10000000) :
    ∃ ov' w1 pv' w2, (Builtin.append_ #[65, 65] 65 #[ov, .slice (some ⟨w.heap.size, 0, none⟩) 1 1]).run Try.prog (w.alloc (.cells #[.int .i64 (i : Int)] 3)) = .ok ov' w1 ∧
      (Builtin.append_ #[28, 28] 28 #[pv, .slice (some ⟨w1.heap.size, 0, none⟩) 1 1]).run Try.prog (w1.alloc (.cells #[.int .u64 (z : Int)] 36)) = .ok pv' w2 ∧ OrdS w2 base ov' pv' (ps ++ [(i, z)]) ∧ Below base w w2 ∧ Kept (fun j => ov.ownBlock = some j ∨ pv.ownBlock = some j) w w2 ∧ (∀ j, pv'.ownBlock = some j → pv.ownBlock = some j ∨ w.heap.size ≤ j) := by
  have ho := h.ord
  have hp := h.pla
  have hl1 : (ps.map (·.1)).length = ps.length := by simp
  have hl2 : (ps.map (·.2)).length = ps.length := by simp
  obtain ⟨ov', w1, r1, o1, g1, a1⟩ := append_one (ty := 65) (t := 65) intInfo Try.underlying65 rfl (ho.alloc (.cells #[.int .i64 (i : Int)] 3)) (RdV.lit w (.int .i64 (i : Int)) 3) (by intro u hu; simp at hu; subst hu; rfl) (by rw [hl1]; simp; omega) (by rw [hl1]; simp; omega) (by simp; omega)
  have hk1 : Kept (fun j => ov.ownBlock = some j) w w1 := ((Kept.refl _ _).alloc _).grown g1 fun j hj => .inl hj
  have hp1 : w1.ownsRow base 36 1 pv (ps.map (·.2)).length (Ws (ps.map (·.2))) := own_kept hp hk1 fun k hk hs => own_types ho hp (by decide) k hs hk
  have hs1 := hk1.size
  obtain ⟨pv', w2, r2, o2, g2, a2⟩ := append_one (ty := 28) (t := 28) u64Info Try.underlying28 rfl (hp1.alloc (.cells #[.int .u64 (z : Int)] 36)) (RdV.lit w1 (.int .u64 (z : Int)) 36) (by intro u hu; simp at hu; subst hu; rfl) (by rw [hl2]; simp; omega) (by rw [hl2]; simp; omega) (by simp; omega)
  have hk2 : Kept (fun j => pv.ownBlock = some j) w1 w2 := ((Kept.refl _ _).alloc _).grown g2 fun j hj => .inl hj
  have o1' := own_kept o1 hk2 fun k hk hs => own_types o1 hp1 (by decide) k hk hs
  refine ⟨ov', w1, pv', w2, r1, r2, ⟨?_, ?_⟩, (hk1.below hb fun j hj => (ho.lt j hj).1).trans (hk2.below (by omega) fun j hj => (hp1.lt j hj).1), (hk1.weak fun _ _ h => .inl h).trans (hk2.weak fun _ _ h => .inr h), fun j hj => ?_⟩
  · unfold OwnI
    have e : Is ((ps ++ [(i, z)]).map (·.1)) = Is (ps.map (·.1)) ++ [.int .i64 (i : Int)] := by simp [Is]
    rw [e, List.map_append, List.length_append]
    exact o1'
  · unfold OwnU
    have e : Ws ((ps ++ [(i, z)]).map (·.2)) = Ws (ps.map (·.2)) ++ [.int .u64 (z : Int)] := by simp [Ws, Wv]
    rw [e, List.map_append, List.length_append]
    exact o2
  · rcases a2 with a2 | a2
    · exact .inl (by rw [← a2]; exact hj)
    · rw [a2] at hj
      injection hj with hj
      simp at hj
      exact .inr (by omega)

theorem OrdS.below {w w' : World} {base : Nat} {ov pv : Value} {ps : List (Nat × Nat)} (h : OrdS w base ov pv ps) (hb : Below w.heap.size w w') : OrdS w' base ov pv ps := ⟨own_below h.ord hb, own_below h.pla hb⟩

/-- What come leaves. -/
def CmPost (w w' : World) (base : Nat) (ov0 pv0 : Value) (s' : St) (e : Ending) : Prop :=
  ∃ ov pv, e = .returned (.tuple #[ov, pv, .int .u64 (s'.2.length : Int)]) ∧ OrdS w' base ov pv s'.1 ∧ Below base w w' ∧ Kept (fun j => ov0.ownBlock = some j ∨ pv0.ownBlock = some j) w w' ∧ (∀ j, pv.ownBlock = some j → pv0.ownBlock = some j ∨ w.heap.size ≤ j)

set_option maxHeartbeats 4000000 in
set_option maxRecDepth 100000 in
theorem come_t (base : Nat) (lv ov pv : Value) (W : List Nat) (F : List Bool) (s : St) (i : Nat) (w : World) (h : OrdS w base ov pv s.1) (hb : base ≤ w.heap.size) (hl : ∀ w', Below base w w' → RdW w' lv W) (hg : Good W F) (hv : Inv W F s) (hi : Ob W F i) :
    Calls Try.prog 25 #[lv, ov, pv, .int .u64 (s.2.length : Int), .int .i64 (i : Int)] w fun e w' => CmPost w w' base ov pv (mv W F s (2 * i)).1 e := by
  have hmx := hg.max
  have hfit := hi.fits
  have hpos := szX_pos (W.getD i 0)
  have hiw : i < W.length := by omega
  have hii : (i : Int) < 10000000 := by omega
  have htl := hv.tot_le
  have hsl := hv.len
  have hs1 : s.2.length ≤ 10000000 := by omega
  have hs2 : (s.2.length : Int) ≤ 10000000 := by omega
  have hpl : s.1.length ≤ 10000000 := by
    have h1 := nodup_le (s.1.map (·.1)) (List.range W.length) hv.nodup fun x hx => by
      obtain ⟨p, hp, rfl⟩ := List.mem_map.1 hx
      have h2 := (hv.ob p hp).fits
      have h3 := szX_pos (W.getD p.1 0)
      rw [List.mem_range]
      omega
    rw [List.length_map, List.length_range] at h1
    omega
  have hpi : (s.1.length : Int) ≤ 10000000 := by omega
  have hok : atOk W i = true := by
    unfold atOk
    rw [hi.kind]
    simp only [Bool.true_and, decide_eq_true_eq]
    omega
  obtain ⟨o1, c1, hov, _⟩ := own_slice h.ord
  rw [List.length_map] at hov
  have hcells : ∀ k, k < s.1.length → ∃ a : Addr, o1 = some a ∧ w.cell? (a.add k) = some (.int .i64 ((s.1.getD k (0, 0)).1 : Int)) := by
    intro k hk
    obtain ⟨g1, d1, g2, d2, e1, e2, _, _, hc⟩ := h.cells (by omega)
    rw [hov] at e1
    simp only [Value.slice.injEq] at e1
    exact ⟨_, e1.1, by rw [add_none, Nat.zero_add]; exact (hc k hk).1⟩
  have HC := Lib.hid hcells
  have H := Lib.hid h
  have HL := Lib.hid hl
  have HI := Lib.hid hi
  have HOK := Lib.hid hok
  have HWS : Hid (∀ x ∈ W, x < 18446744073709551616) := hg.words
  have hlv := hl w (Below.refl _ _)
  obtain ⟨ol, cl, hlv', _⟩ := hlv.slice
  rw [Ws_length] at hlv'
  clear hcells h hl hi hok htl hsl hv hg hlv
  subst hov hlv'
  go_enter Try.func25, Try.ntmps25
  go_wp2_with fail
  go_loop [13] (fun k' => ∃ k : Nat, k ≤ s.1.length ∧ k' = .int .i64 k ∧ Hid (∀ m, m < k → (s.1.getD m (0, 0)).1 ≠ i)) (fun k' => s.1.length - (intOf k').toNat)
  case atStart => exact ⟨0, Nat.zero_le _, rfl, fun m hm => absurd hm (Nat.not_lt_zero _)⟩
  case round =>
    obtain ⟨k, hk, rfl, HK⟩ := hrel
    by_cases hlt : k < s.1.length
    · have hki : (k : Int) < (s.1.length : Int) := by omega
      obtain ⟨a, rfl, hc⟩ := HC.out k hlt
      obtain ⟨y, hy⟩ : ∃ y, (s.1.getD k (0, 0)).1 = y := ⟨_, rfl⟩
      rw [hy] at hc
      have HY := Lib.hid hy
      clear hy
      by_cases he : y = i
      · have d1 : ((y : Int) == (i : Int)) = true := by rw [beq_iff_eq]; omega
        have hfin : CmPost w w base (.slice (some a) s.1.length c1) pv (mv W F s (2 * i)).1 (.returned (.tuple #[.slice (some a) s.1.length c1, pv, .int .u64 (s.2.length : Int)])) := by
          rw [mv_old HI.out (look_at HK.out hlt (HY.out.trans he))]
          exact ⟨_, _, rfl, H.out, Below.refl _ _, Kept.refl _ _, fun _ h => .inl h⟩
        have FIN := Lib.hid hfin
        clear hfin he
        go_wp2_with fail
        go_ret3
        exact FIN.out
      · have d1 : ((y : Int) == (i : Int)) = false := by rw [beq_eq_false_iff_ne]; omega
        have hnx : Hid (∀ m, m < k + 1 → (s.1.getD m (0, 0)).1 ≠ i) := fun m hm => by
          rcases Nat.lt_or_ge m k with h1 | h1
          · exact HK.out m h1
          · obtain rfl : m = k := by omega
            rw [HY.out]
            exact he
        clear he
        go_wp2_with fail
        go_round
        case rel => exact ⟨k + 1, by omega, by go_num, hnx.out⟩
        case measure => simp [intOf]; omega
    · obtain rfl : k = s.1.length := by omega
      have hlk := find_none HK.out
      have hmv := mv_new HI.out hlk
      have HMV := Lib.hid hmv
      have HAT := Lib.hid (at_lit _ W i w (HL.out w (Below.refl _ _)) hiw HWS.out (by omega))
      clear hlk hmv HK
      go_wp2_with fail
      refine HAT.out.mono ?_
      rintro e w1 ⟨kk, po, pc, str, N, P, rfl, ho, hb1, hN, hP, hkk⟩
      rw [HOK.out] at hN
      simp only [if_true] at hN
      have hkk' : (kk : Int) ≤ 255 := by omega
      have hO1 := H.out.below (hb1.alloc hb1.size (.cells #[.int .u8 (kk : Int), .slice po P.length pc, .string str] 35))
      obtain ⟨ov', w3, pv', w4, r3, r4, hO4, hb4, hk4, hn4⟩ := hO1.push (i := i) (z := s.2.length) (by have := hb1.size; simp; omega) hpl
      have hNi : (N : Int) ≤ 10000000 := by omega
      have hfin : CmPost w w4 base (.slice o1 s.1.length c1) pv (mv W F s (2 * i)).1 (.returned (.tuple #[ov', pv', .int .u64 ((s.2.length : Int) + (N : Int))])) := by
        rw [HMV.out]
        refine ⟨ov', pv', ?_, hO4, (((hb1.mono hb).alloc (by have := hb1.size; omega) _).trans hb4), (Below.kept (n := w.heap.size) (hb1.alloc hb1.size _) (fun i h1 h2 => by omega)).trans hk4, fun j hj => (hn4 j hj).imp id fun h => by have := hb1.size; simp at h; omega⟩
        simp only
        rw [List.length_append, obj_length HI.out, ← hN, Int.natCast_add]
      have FIN := Lib.hid hfin
      have R3 := Lib.hid r3
      have R4 := Lib.hid r4
      clear hfin r3 r4 hO1 hO4 hb4 hb1 ho hN hP hk4 hn4
      go_upto_region 7 with (fail)
      generalize w1.alloc (.cells #[.int .u8 (kk : Int), .slice po P.length pc, .string str] 35) = wx at *
      clear hfit hpos hiw hmx hs1 hpl hlt hk hkk' hkk hii hpi
      have hsn : (s.2.length : Int) + (N : Int) ≤ 20000000 := by omega
      obtain ⟨SL, hSL⟩ : ∃ SL, s.2.length = SL := ⟨_, rfl⟩
      rw [hSL] at FIN R4 hsn hs2 ⊢
      clear hSL
      go_wp2_with (first | (at_builtin; refine wpList_append_known rfl (.tmp 37) (.tmp 39) 65 65 (by rfl) _ _ _ (by rfl) (by rfl) R3.out ?_) | (at_builtin; refine wpList_append_known rfl (.tmp 41) (.tmp 43) 28 28 (by rfl) _ _ _ (by rfl) (by rfl) R4.out ?_))
      go_ret3
      exact FIN.out
end Go.Proofs.Ytkdhajiplonloaa
