/- The law of errors: too many moves; a move that is too far. -/
import Derived.Test.YtjmfgpklemhomabLTurns
import Derived.Laws.MakeOwn
namespace Go.Proofs.Ytjmfgpklemhomab
open Go.RowKit TurF TurP

theorem path_any (v : Value) (l : List Mv) (w : World) (h : RdM w v l) :
    Calls Try.prog 10 #[v] w fun e w' => (∃ v', e = .returned (.tuple #[v', .int .i64 (err l)])) ∧ Below w.heap.size w w' := by
  rcases err_cases l with he | ⟨he, h1, h2⟩
  · refine (path_bad v l w h he).mono ?_
    rintro e w' ⟨rfl, hb⟩
    exact ⟨⟨_, rfl⟩, hb⟩
  · refine (path_good v l w h h1 h2).mono ?_
    rintro e w' ⟨v', rfl, _, hb⟩
    rw [he]
    exact ⟨⟨_, rfl⟩, hb⟩

theorem lenM {w : World} {base : Nat} {v : Value} {ps : List Mv} (h : OwnM w base v ps) : ∀ W : World, (Builtin.len_ #[22] 3 #[v]).run Try.prog W = .ok (.int .i64 (ps.length : Int)) W := by
  obtain ⟨o, c, rfl⟩ : ∃ o c, v = .slice o ps.length c := by
    rcases h.2 with ⟨rfl, hn⟩ | ⟨g, cap, cur, rfl, _⟩
    · exact ⟨_, _, by rw [hn]⟩
    · exact ⟨_, _, rfl⟩
  intro W
  simp [go_sem]

theorem sizeMove (W : World) : (sizeOf (Try.prog.elem 22)).run Try.prog W = .ok 2 W := by kernel_rfl

theorem cutM {w : World} {base : Nat} {v : Value} {ps : List Mv} (h : OwnM w base v ps) (k : Nat) (hk : k ≤ ps.length) :
    ∃ u1 u2, (∀ W : World, (Instr.slice 22 v none (some (.int .i64 (k : Int))) none).run Try.prog W = .ok u1 W) ∧ (∀ W : World, (Instr.slice 22 v (some (.int .i64 (k : Int))) none none).run Try.prog W = .ok u2 W) ∧ RdM w u1 (ps.take k) ∧ RdM w u2 (ps.drop k) := by
  have ht : Try.prog.underlying 22 = some (.slice (Try.prog.elem 22)) := by kernel_rfl
  have hr := h.rd
  have key : ∃ o c, v = .slice o ps.length c ∧ ps.length ≤ c ∧ c ≤ maxLen ∧ (o = none → c = 0) ∧ (0 < ps.length → ∃ g, o = some ⟨g, 0, none⟩ ∧ CellsM w g 0 ps) := by
    rcases h.2 with ⟨rfl, hn⟩ | ⟨g, cap, cur, rfl, hb, hg, hn, hm, _⟩
    · exact ⟨_, _, by rw [hn], by omega, by unfold maxLen; omega, fun _ => rfl, fun h => by omega⟩
    · refine ⟨_, _, rfl, hn, hm, by simp, fun h0 => ⟨g, rfl, ?_⟩⟩
      rcases hr with ⟨o, c, _, he, hl⟩ | ⟨b, off, c, he, _, _, _, hc⟩
      · rw [hl] at h0; simp at h0
      · injection he with he _ _
        injection he with he
        injection he with he1 he2 _
        rw [he1, he2]
        exact hc
  obtain ⟨o, c, rfl, hn, hm, ho, hc⟩ := key
  refine ⟨sliced o 0 k c 2, sliced o k ps.length c 2, fun W => ?_, fun W => ?_, ?_, ?_⟩
  · rw [run_slice_h W _ o _ c ht .i64 k (by omega) (by omega), sizeMove]
    rfl
  · rw [run_slice_l W _ o _ c ht .i64 k (by omega) (by omega), sizeMove]
    rfl
  · unfold sliced
    rcases Nat.eq_zero_or_pos k with rfl | hk0
    · rw [List.take_zero]
      refine .inl ⟨_, _, ?_, rfl, rfl⟩
      intro h1
      rcases o with _ | a
      · rw [ho rfl]
      · split at h1 <;> simp at h1
    · obtain ⟨g, rfl, hcell⟩ := hc (by omega)
      have hl : (ps.take k).length = k := by rw [List.length_take]; omega
      rw [if_neg (by omega)]
      refine .inr ⟨g, 0, c, ?_, by omega, by omega, hm, fun j m hj => ?_⟩
      · rw [hl, Nat.sub_zero, Nat.sub_zero, Option.map_some, add_none, Nat.zero_add, Nat.zero_mul]
      · have hj2 : j < k := by
          have := (List.getElem?_eq_some_iff.1 hj).1
          omega
        rw [List.getElem?_take, if_pos hj2] at hj
        exact hcell j m hj
  · unfold sliced
    rcases Nat.lt_or_ge k ps.length with hlt | hge
    · obtain ⟨g, rfl, hcell⟩ := hc (by omega)
      rw [if_neg (by omega)]
      have hl : (ps.drop k).length = ps.length - k := List.length_drop
      refine .inr ⟨g, k * 2, c - k, ?_, by omega, by omega, by omega, fun j m hj => ?_⟩
      · rw [hl, Option.map_some, add_none, Nat.zero_add]
      · rw [List.getElem?_drop] at hj
        have := hcell _ m hj
        rw [show k * 2 + j * 2 = 0 + (k + j) * 2 by omega]
        exact this
    · have e : k = ps.length := by omega
      subst e
      rw [List.drop_length, Nat.sub_self]
      refine .inl ⟨_, _, ?_, rfl, rfl⟩
      intro h1
      rcases o with _ | a
      · rw [ho rfl]; simp
      · split at h1 <;> simp at h1

theorem made_moves (n : Nat) : (madeCells (Value.agg #[.bool false, .int .i64 0]).cells (n * 2)).toList = CsM (List.replicate n (false, 0)) := by
  have h : ∀ n : Nat, (List.range (n * 2)).map (fun i => (#[Value.bool false, .int .i64 0] : Array Value)[i % 2]!) = CsM (List.replicate n (false, 0)) := by
    intro n
    induction n with
    | zero => rfl
    | succ n ih =>
      rw [List.replicate_succ', CsM_append, ← ih, show (n + 1) * 2 = n * 2 + 1 + 1 by omega, List.range_succ, List.range_succ, List.append_assoc, List.map_append]
      congr 1
      simp [CsM, show (n * 2 + 1) % 2 = 1 by omega]
  rw [← h n]
  unfold madeCells
  rw [Array.toList_map, Array.toList_range]
  rfl

theorem makeM (n : Nat) (hn : n ≤ 100000) : ∃ C : Array Value, C.toList = CsM (List.replicate n (false, 0)) ∧ ∀ W : World, (Instr.makeSlice 22 (.int .i64 (n : Int)) (.int .i64 (n : Int))).run Try.prog W = .ok (.slice (some ⟨W.heap.size, 0, none⟩) n n) (W.alloc (.cells C 43)) := by
  obtain ⟨i0, hi0, hz0, hz1, hz2⟩ := info_parts moveInfo
  refine ⟨_, made_moves n, fun W => ?_⟩
  have := run_make (P := Try.prog) W 22 43 i0 _ Try.underlying22 hi0 hz0 .i64 .i64 (n : Int) (n : Int) (by omega) (by omega) (by rw [hz2]; omega) (by omega)
  rw [this, Int.toNat_natCast, hz1]

theorem zeros_far (n : Nat) : (List.replicate n ((false, 0) : Mv)).any far = false := by
  rw [List.any_eq_false]
  intro m hm
  rw [List.eq_of_mem_replicate hm]
  decide

/-- The moves with one that may be too far among them. -/
theorem err_mid (l : List Mv) (k : Nat) (f : Int) : err ((small l).take k ++ [(false, f)] ++ (small l).drop k) = if f < -1000000 ∨ 1000000 < f then 1 else 0 := by
  have hs := small_len l
  have hl : ((small l).take k ++ [(false, f)] ++ (small l).drop k).length ≤ 1000 := by simp; omega
  have h0 := far_small (small_within l)
  have h1 : ((small l).take k).any far = false := by
    rw [List.any_eq_false] at h0 ⊢
    exact fun m hm => h0 m (List.mem_of_mem_take hm)
  have h2 : ((small l).drop k).any far = false := by
    rw [List.any_eq_false] at h0 ⊢
    exact fun m hm => h0 m (List.mem_of_mem_drop hm)
  have ha : ((small l).take k ++ [(false, f)] ++ (small l).drop k).any far = far (false, f) := by
    rw [List.any_append, List.any_append, h1, h2]
    simp
  have hf : far (false, f) = (decide (f < -1000000) || decide (1000000 < f)) := rfl
  split
  · rename_i h
    refine err_far (by omega) ?_
    rw [ha, hf]
    simpa using h
  · rename_i h
    refine err_ok (by omega) ?_
    rw [ha, hf]
    simpa using h

set_option maxHeartbeats 4000000 in
set_option maxRecDepth 100000 in
theorem errs_walk (v : Value) (l : List Mv) (a f : Int) (w : World) (h : RdM w v l) (a0 : 0 ≤ a) (_ : a ≤ 255) (_ : -9223372036854775808 ≤ f) (_ : f ≤ 9223372036854775807) :
    Calls Try.prog 7 #[v, .int .u8 a, .int .i64 f] w fun e w' => e = .returned (.bool true) ∧ Below w.heap.size w w' := by
  have HR0 := Lib.hid h
  clear h
  have hn := small_len l
  obtain ⟨K, hK⟩ : ∃ K : Nat, a % (((small l).length : Int) + 1) = (K : Int) := ⟨(a % (((small l).length : Int) + 1)).toNat, by
    have := Int.emod_nonneg a (show ((small l).length : Int) + 1 ≠ 0 by omega)
    omega⟩
  have hKl : K ≤ (small l).length := by
    have := Int.emod_lt_of_pos a (show (0 : Int) < ((small l).length : Int) + 1 by omega)
    omega
  have HE := Lib.hid (err_mid l K f)
  obtain ⟨C1, hC1, mk1⟩ := makeM 1001 (by omega)
  obtain ⟨C2, hC2, mk2⟩ := makeM 1000 (by omega)
  have HK := Lib.hid hK
  have MK1 := Lib.hid mk1
  have MK2 := Lib.hid mk2
  have HC1 := Lib.hid hC1
  have HC2 := Lib.hid hC2
  clear hK mk1 mk2 hC1 hC2
  go_enter Try.func7, Try.ntmps7
  go_wp2_with fail
  refine (awake w).mono ?_
  rintro e w1 ⟨rfl, hb1⟩
  have HR1 := Lib.hid (HR0.out.below hb1 (Nat.le_refl _))
  have BE1 := Lib.hid hb1
  clear hb1 HR0
  go_wp2_with fail
  refine (small_any v l w1 HR1.out).mono ?_
  rintro e w2 ⟨m, rfl, hm2, hb2⟩
  have be2 := BE1.out.trans (hb2.mono BE1.out.size)
  have hlen := lenM hm2
  obtain ⟨u1, u2, hu1, hu2, ru1, ru2⟩ := cutM hm2 K hKl
  obtain ⟨v1, w3, hr1, hv3, hg3⟩ := append_rdM (base := w2.heap.size) (v := .slice none 0 0) (l := []) (World.ownsRow_nil w2 _ _ _) ru1 (by simp; omega) (Nat.le_refl _) 22
  rw [List.nil_append] at hv3
  have b3 : Below w2.heap.size w2 w3 := (Below.refl _ w2).grown hg3 (Nat.le_refl _) (by simp [Value.ownBlock])
  obtain ⟨v2, w4, hr2, hv4, hg4⟩ := append_rdM (s := .slice (some ⟨w3.heap.size, 0, none⟩) 1 1) (k := [(false, f)]) (hv3.alloc (.cells #[.bool false, .int .i64 f] 43)) (RdM.of_block (ms := [(false, f)]) (heap_alloc_new w3 _) rfl (by simp)) (by simp; omega) (by have := b3.size; simp; omega) 22
  have b4 : Below w2.heap.size w2 w4 := (b3.alloc b3.size _).grown hg4 (by have := b3.size; simp; omega) (fun k hk => (hv3.lt k hk).1)
  obtain ⟨v3, w5, hr3, hv5, hg5⟩ := append_rdM hv4 (ru2.below b4 (Nat.le_refl _)) (by simp; omega) b4.size 22
  have b5 : Below w2.heap.size w2 w5 := b4.grown hg5 b4.size (fun k hk => (hv4.lt k hk).1)
  have PQ := Lib.hid (path_any v3 _ w5 hv5.rd)
  have BE5 := Lib.hid (be2.trans (b5.mono be2.size))
  have A1 := Lib.hid hr1
  have A2 := Lib.hid hr2
  have A3 := Lib.hid hr3
  have hK := HK.out
  clear hr1 hr2 hr3 hg3 hg4 hg5 hv3 hv4 hv5 b3 b4 b5 ru1 ru2 hm2 hb2 be2 HR1 BE1
  generalize (small l).length = n at *
  have mk1 : ∀ W : World, (Instr.makeSlice 22 (.int .i64 1001) (.int .i64 1001)).run Try.prog W = .ok (.slice (some ⟨W.heap.size, 0, none⟩) 1001 1001) (W.alloc (.cells C1 43)) := MK1.out
  have mk2 : ∀ W : World, (Instr.makeSlice 22 (.int .i64 1000) (.int .i64 1000)).run Try.prog W = .ok (.slice (some ⟨W.heap.size, 0, none⟩) 1000 1000) (W.alloc (.cells C2 43)) := MK2.out
  have P1 : ∀ W : World, Calls Try.prog 10 #[.slice (some ⟨W.heap.size, 0, none⟩) 1001 1001] (W.alloc (.cells C1 43)) fun e w' => (∃ v', e = .returned (.tuple #[v', .int .i64 2])) ∧ Below (W.alloc (.cells C1 43)).heap.size (W.alloc (.cells C1 43)) w' := by
    intro W
    have := RdM.of_block (ms := List.replicate 1001 (false, 0)) (heap_alloc_new W (.cells C1 43)) HC1.out (by simp)
    rw [List.length_replicate] at this
    have h := path_any _ _ _ this
    rw [err_long (by simp)] at h
    exact h
  have P2 : ∀ W : World, Calls Try.prog 10 #[.slice (some ⟨W.heap.size, 0, none⟩) 1000 1000] (W.alloc (.cells C2 43)) fun e w' => (∃ v', e = .returned (.tuple #[v', .int .i64 0])) ∧ Below (W.alloc (.cells C2 43)).heap.size (W.alloc (.cells C2 43)) w' := by
    intro W
    have := RdM.of_block (ms := List.replicate 1000 (false, 0)) (heap_alloc_new W (.cells C2 43)) HC2.out (by simp)
    rw [List.length_replicate] at this
    have h := path_any _ _ _ this
    rw [err_ok (by simp) (zeros_far 1000)] at h
    exact h
  have Q1 := Lib.hid P1
  have Q2 := Lib.hid P2
  have pq := PQ.out
  clear P1 P2 MK1 MK2 PQ
  by_cases f1 : f < -1000000
  all_goals by_cases f2 : 1000000 < f
  · omega
  all_goals
    have hE := HE.out
    first
    | rw [if_pos (by omega)] at hE
    | rw [if_neg (by omega)] at hE
    rw [hE] at pq
    have PQ := Lib.hid pq
    clear pq hE
    first
    | have d1 : decide (f < -1000000) = true := decide_eq_true f1
    | have d1 : decide (f < -1000000) = false := decide_eq_false f1
    first
    | have d2 : decide (1000000 < f) = true := decide_eq_true f2
    | have d2 : decide (1000000 < f) = false := decide_eq_false f2
    go_wp2_with (at_builtin; first | refine wpList_append_known rfl (.tmp 33) (.tmp 36) 22 22 (by rfl) _ _ _ (by rfl) (by rfl) A1.out ?_ | refine wpList_append_known rfl (.tmp 38) (.tmp 41) 22 22 (by rfl) _ _ _ (by rfl) (by rfl) A2.out ?_ | refine wpList_append_known rfl (.tmp 43) (.tmp 46) 22 22 (by rfl) _ _ _ (by rfl) (by rfl) A3.out ?_)
    refine PQ.out.mono ?_
    rintro e w6 ⟨⟨p, rfl⟩, hb6⟩
    have BE6 := Lib.hid (BE5.out.trans (hb6.mono BE5.out.size))
    clear hb6
    go_wp2_with fail
    refine (Q1.out w6).mono ?_
    rintro e w7 ⟨⟨p7, rfl⟩, hb7⟩
    have BE7 := Lib.hid ((BE6.out.alloc BE6.out.size _).trans (hb7.mono (by have := BE6.out.size; simp; omega)))
    clear hb7
    go_wp2_with fail
    refine (Q2.out w7).mono ?_
    rintro e w8 ⟨⟨p8, rfl⟩, hb8⟩
    have BE8 := Lib.hid ((BE7.out.alloc BE7.out.size _).trans (hb8.mono (by have := BE7.out.size; simp; omega)))
    clear hb8
    go_wp2_with fail
    go_ret
    exact ⟨rfl, BE8.out⟩
end Go.Proofs.Ytjmfgpklemhomab
