/- What the law does: part, put; Kind, Part, SetPart. -/
/- The law's put. -/
import Derived.Test.YtkdhajiplonloaaHeaPd
namespace Go.Proofs.Ytkdhajiplonloaa
open Go.RowKit HeaM

theorem num_odd (x : Int) : ∃ y : Nat, (2 * x + 1) % 18446744073709551616 = (y : Int) ∧ y % 2 = 1 ∧ y < 18446744073709551616 := ⟨((2 * x + 1) % 18446744073709551616).toNat, by omega, by omega, by omega⟩

set_option maxHeartbeats 2000000 in
set_option maxRecDepth 100000 in
theorem lpart_t (n : Int) (rv : Value) (xs : List Nat) (w : World) (h : RdW w rv xs) (hn : xs.length ≤ 1000000) (h1 : -9223372036854775808 ≤ n) (h2 : n ≤ 9223372036854775807) :
    Calls Try.prog 6 #[.int .i64 n, rv] w fun e w' => ∃ y : Nat, e = .returned (.int .u64 (y : Int)) ∧ ((y % 2 = 1 ∧ y < 18446744073709551616) ∨ y ∈ xs) ∧ w = w' := by
  obtain ⟨y, hy, hyo, hyl⟩ := num_odd n
  have HNUM : Hid (Calls Try.prog 24 #[.int .i64 n] w fun e w' => e = .returned (.int .u64 (y : Int)) ∧ w = w') := (num_t n w).mono fun e w' ⟨h1, h2⟩ => ⟨by rw [h1, hy], h2⟩
  have HY : Hid (y % 2 = 1 ∧ y < 18446744073709551616) := ⟨hyo, hyl⟩
  obtain ⟨o, cap, hv, hcap, hm⟩ := h.slice
  rw [Ws_length] at hv hcap
  clear hy hyo
  have hni : (xs.length : Int) ≤ 1000000 := by omega
  unfold maxLen at hm
  by_cases hodd : n.tmod 2 = 0
  · have hd0 : (n.tmod 2 == 0) = true := by rw [beq_iff_eq]; exact hodd
    by_cases h0 : xs.length = 0
    · have hl0 : ¬ (0 : Int) < (xs.length : Int) := by omega
      have hl1 : ¬ 0 < xs.length := by omega
      clear h hodd h0
      subst hv
      go_enter Try.func6, Try.ntmps6
      go_wp2_with fail
      refine HNUM.out.mono ?_
      rintro e w' ⟨rfl, rfl⟩
      go_wp2_with fail
      go_ret
      exact ⟨y, rfl, .inl HY.out, rfl⟩
    · have hpos : 0 < xs.length := by omega
      have hposi : (0 : Int) < (xs.length : Int) := by omega
      obtain ⟨a, cap', hv', _, hc⟩ := at_cell h hpos
      rw [hv] at hv'
      simp only [Value.slice.injEq] at hv'
      obtain ⟨rfl, -, rfl⟩ := hv'
      obtain ⟨j, hj, hjl⟩ : ∃ j : Nat, wrap64 ((IntKind.u64.wrap (n.tdiv 2)).tmod (xs.length : Int)) = (j : Int) ∧ j < xs.length := by
        rw [IntKind.wrap_u64]
        have hu : 0 ≤ n.tdiv 2 % 18446744073709551616 := by omega
        generalize n.tdiv 2 % 18446744073709551616 = u at *
        rw [Int.tmod_eq_emod_of_nonneg hu]
        have g1 := Int.emod_nonneg u (show (xs.length : Int) ≠ 0 by omega)
        have g2 := Int.emod_lt_of_pos u hposi
        generalize u % (xs.length : Int) = r at *
        refine ⟨r.toNat, ?_, by omega⟩
        unfold wrap64
        omega
      have hji : (j : Int) < (xs.length : Int) := by omega
      have hcj := hc j hjl
      have hmem : xs.getD j 0 ∈ xs := by
        rw [List.getD_eq_getElem?_getD, List.getElem?_eq_getElem hjl]
        exact List.getElem_mem hjl
      have HM := Lib.hid hmem
      clear h hodd h0 hc hmem
      generalize xs.getD j 0 = x at *
      subst hv
      go_enter Try.func6, Try.ntmps6
      go_wp2_with fail
      go_ret
      exact ⟨x, rfl, .inr HM.out, rfl⟩
  · have hd0 : (n.tmod 2 == 0) = false := by rw [beq_eq_false_iff_ne]; exact hodd
    clear h hodd
    subst hv
    go_enter Try.func6, Try.ntmps6
    go_wp2_with fail
    refine HNUM.out.mono ?_
    rintro e w' ⟨rfl, rfl⟩
    go_wp2_with fail
    go_ret
    exact ⟨y, rfl, .inl HY.out, rfl⟩
end Go.Proofs.Ytkdhajiplonloaa
namespace Go.Proofs.Ytkdhajiplonloaa
open Go.RowKit HeaM

set_option maxHeartbeats 4000000 in
set_option maxRecDepth 100000 in
theorem lput_parts (w wr : World) (d q k c N : Nat) (W : List Nat) (F : List Bool) (rv pv : Value) (xs ps : List Nat) (hN : 1 + ps.length = N) (v1 v2 : Value) (oo : Option Addr) (on oc : Nat) (str : ByteArray) (h : PlS w wr d q c W F rv xs v1 v2) (hp : PtS w wr d rv pv v1 v2 ps) (hps : ∀ x ∈ ps, (x % 2 = 1 ∨ isObj W F x = true) ∧ x < 18446744073709551616)
    (hk : k = 1 ∨ k = 2 ∨ k = 4 ∨ k = 5 ∨ k = 6) (hc : c ≤ 100000000) (hq : q ≤ 1048576) (hn2 : xs.length + ps.length ≤ 1000000) :
    Calls Try.prog 10 #[.pointer (some ⟨d, 0, none⟩), .agg #[.int .u8 (k : Int), .slice oo on oc, .string str], pv, rv] wr fun e w' => PuPost w wr w' d q N c W F rv pv xs ps v1 v2 (fun l => (l.length * 256 + k) :: l) e := by
  have hcell : ∀ W1, Below wr.heap.size (wr.alloc (.cells #[.int .u8 (k : Int), .slice oo on oc, .string str] 35)) W1 → True := fun _ _ => trivial
  have hptr : ∀ W1, Below (wr.alloc (.cells #[.int .u8 (k : Int), .slice oo on oc, .string str] 35)).heap.size (wr.alloc (.cells #[.int .u8 (k : Int), .slice oo on oc, .string str] 35)) W1 → Calls Try.prog 17 #[rv] W1 fun e w' => ∃ o' c', e = .returned (.slice o' xs.length c') ∧ w'.ownsRow wr.heap.size 74 1 (.slice o' xs.length c') xs.length ((rsOf rv xs.length).map ptrV) ∧ Below wr.heap.size wr w' ∧ w'.cell? ⟨wr.heap.size, 0, none⟩ = some (.int .u8 (k : Int)) ∧ wr.heap.size < w'.heap.size := by
    intro W1 hb1
    have hb0 : Below wr.heap.size wr W1 := ((Below.refl _ _).alloc (Nat.le_refl _) (.cells #[.int .u8 (k : Int), .slice oo on oc, .string str] 35)).trans (hb1.mono (by simp))
    have h1 := h.more hb0
    refine (pointers_own w.heap.size xs.length rv (Ws xs) W1 h1.row (by omega)).mono ?_
    rintro e w' ⟨v', rfl, ho, hb2⟩
    obtain ⟨o', c', rfl, _⟩ := own_slice ho
    have hblk : w'.heap[wr.heap.size]? = some (.cells #[.int .u8 (k : Int), .slice oo on oc, .string str] 35 (0, 0)) :=
      (hb2.block _ (by have := hb1.size; simp at this; omega)).trans ((hb1.block _ (by simp)).trans (heap_alloc_new wr _))
    exact ⟨o', c', rfl, own_base ho (by have := hb0.size; omega), hb0.trans (hb2.mono hb0.size), (ob_cells hblk).1, lt_of_block hblk⟩
  have hput : ∀ W1 prv, Below wr.heap.size wr W1 → W1.ownsRow wr.heap.size 74 1 prv xs.length ((rsOf rv xs.length).map ptrV) → Calls Try.prog 27 #[.pointer (some ⟨d, 0, none⟩), .int .u8 (k : Int), pv, prv] W1 fun e w' => ∃ x f : Int, e = .returned (.tuple #[.int .u64 x, .int .i64 f]) ∧ PuPost w wr w' d q N c W F rv pv xs ps v1 v2 (fun l => (l.length * 256 + k) :: l) (.returned (.tuple #[.int .u64 x, .int .i64 f])) := by
    intro W1 prv hb hpr
    refine (hput_t w wr W1 d q k c N W F rv pv prv xs ps hN v1 v2 h hp hps hk hc hq hn2 hb hpr).mono ?_
    intro e w' hP
    obtain ⟨W', F', xs', ps', c', g1, g2, g3, g4⟩ := id hP
    rcases g3 with ⟨_, rfl, _⟩ | ⟨_, rfl, _⟩
    · exact ⟨_, _, rfl, hP⟩
    · exact ⟨_, _, rfl, hP⟩
  have HPTR := Lib.hid hptr
  have HPUT := Lib.hid hput
  have hk3 : ((k : Int) == 3) = false := by rw [beq_eq_false_iff_ne]; omega
  obtain ⟨op, kp, hpv, _⟩ := own_slice hp.row
  obtain ⟨ov, kv, hrv, _⟩ := own_slice h.row
  clear hptr hput hcell h hp hps hN hk
  subst hpv hrv
  go_enter Try.func10, Try.ntmps10
  go_wp2_with fail
  go_region_with ((first | (go_at_call 17; refine (HPTR.out _ (by first | exact Below.refl _ _ | exact (Below.refl _ _).drew)).mono ?_; rintro e w3 ⟨o', c', rfl, ho3, hb3, hc3, hl3⟩; have HO3 := Lib.hid ho3; have HB3 := Lib.hid hb3; clear ho3 hb3) | (go_at_call 27; refine (HPUT.out _ _ (by first | exact HB3.out | exact HB3.out.drew) (by exact HO3.out)).mono ?_; rintro e w4 ⟨x, f, rfl, hP4⟩; have HP4 := Lib.hid hP4; clear hP4)))
  all_goals
    go_wp2_with fail
    go_ret2
    exact HP4.out
set_option maxHeartbeats 4000000 in
set_option maxRecDepth 100000 in
theorem lput_text (w wr : World) (d q c N : Nat) (W : List Nat) (F : List Bool) (rv pv : Value) (xs : List Nat) (v1 v2 : Value) (oo : Option Addr) (on oc : Nat) (str : ByteArray) (hN : need 3 str.size = N) (h : PlS w wr d q c W F rv xs v1 v2) (hs : str.size ≤ 1000000)
    (hc : c ≤ 100000000) (hq : q ≤ 1048576) (hn2 : xs.length ≤ 1000000) :
    Calls Try.prog 10 #[.pointer (some ⟨d, 0, none⟩), .agg #[.int .u8 3, .slice oo on oc, .string str], pv, rv] wr fun e w' => PuPost w wr w' d q N c W F rv (.slice none 0 0) xs [] v1 v2 (fun _ => enc1 str.data.toList) e := by
  have hcell : ∀ W1, Below wr.heap.size (wr.alloc (.cells #[.int .u8 3, .slice oo on oc, .string str] 35)) W1 → True := fun _ _ => trivial
  have hptr : ∀ W1, Below (wr.alloc (.cells #[.int .u8 3, .slice oo on oc, .string str] 35)).heap.size (wr.alloc (.cells #[.int .u8 3, .slice oo on oc, .string str] 35)) W1 → Calls Try.prog 17 #[rv] W1 fun e w' => ∃ o' c', e = .returned (.slice o' xs.length c') ∧ w'.ownsRow wr.heap.size 74 1 (.slice o' xs.length c') xs.length ((rsOf rv xs.length).map ptrV) ∧ Below wr.heap.size wr w' ∧ w'.cell? ⟨wr.heap.size, 2, none⟩ = some (.string str) ∧ wr.heap.size < w'.heap.size := by
    intro W1 hb1
    have hb0 : Below wr.heap.size wr W1 := ((Below.refl _ _).alloc (Nat.le_refl _) (.cells #[.int .u8 3, .slice oo on oc, .string str] 35)).trans (hb1.mono (by simp))
    have h1 := h.more hb0
    refine (pointers_own w.heap.size xs.length rv (Ws xs) W1 h1.row (by omega)).mono ?_
    rintro e w' ⟨v', rfl, ho, hb2⟩
    obtain ⟨o', c', rfl, _⟩ := own_slice ho
    have hblk : w'.heap[wr.heap.size]? = some (.cells #[.int .u8 3, .slice oo on oc, .string str] 35 (0, 0)) :=
      (hb2.block _ (by have := hb1.size; simp at this; omega)).trans ((hb1.block _ (by simp)).trans (heap_alloc_new wr _))
    exact ⟨o', c', rfl, own_base ho (by have := hb0.size; omega), hb0.trans (hb2.mono hb0.size), (ob_cells hblk).2.2, lt_of_block hblk⟩
  have hput : ∀ W1 prv, Below wr.heap.size wr W1 → W1.ownsRow wr.heap.size 74 1 prv xs.length ((rsOf rv xs.length).map ptrV) → Calls Try.prog 21 #[.pointer (some ⟨d, 0, none⟩), .string str, prv] W1 fun e w' => ∃ x f : Int, e = .returned (.tuple #[.int .u64 x, .int .i64 f]) ∧ PuPost w wr w' d q N c W F rv (.slice none 0 0) xs [] v1 v2 (fun _ => enc1 str.data.toList) (.returned (.tuple #[.int .u64 x, .int .i64 f])) := by
    intro W1 prv hb hpr
    refine (hputtext_t w wr W1 d q c W F rv prv str xs v1 v2 h hs hc hq hn2 hb hpr).mono ?_
    intro e w' hP
    rw [hN] at hP
    obtain ⟨W', F', xs', ps', c', g1, g2, g3, g4⟩ := id hP
    rcases g3 with ⟨_, rfl, _⟩ | ⟨_, rfl, _⟩
    · exact ⟨_, _, rfl, hP⟩
    · exact ⟨_, _, rfl, hP⟩
  have HPTR := Lib.hid hptr
  have HPUT := Lib.hid hput
  obtain ⟨ov, kv, hrv, _⟩ := own_slice h.row
  clear hptr hput hcell h hN
  subst hrv
  go_enter Try.func10, Try.ntmps10
  go_wp2_with fail
  go_region_with ((first | (go_at_call 17; refine (HPTR.out _ (by first | exact Below.refl _ _ | exact (Below.refl _ _).drew)).mono ?_; rintro e w3 ⟨o', c', rfl, ho3, hb3, hc3, hl3⟩; have HO3 := Lib.hid ho3; have HB3 := Lib.hid hb3; clear ho3 hb3) | (go_at_call 21; refine (HPUT.out _ _ (by first | exact HB3.out | exact HB3.out.drew) (by exact HO3.out)).mono ?_; rintro e w4 ⟨x, f, rfl, hP4⟩; have HP4 := Lib.hid hP4; clear hP4)))
  all_goals
    go_wp2_with fail
    go_ret2
    exact HP4.out
end Go.Proofs.Ytkdhajiplonloaa
