/- The reference's At. -/
import Derived.Test.YtmljelcmjagjjaaHeaUd
namespace Go.Proofs.Ytmljelcmjagjjaa
open Go.RowKit HeaM

/-- Does an object stand at i, by the words alone? -/
def atOk (W : List Nat) (i : Nat) : Bool := isK (W.getD i 0 % 256) && decide (szX (W.getD i 0) ≤ W.length - i)
/-- What At leaves. -/
def AtPost (w w' : World) (W : List Nat) (i : Nat) (e : Ending) : Prop :=
  ∃ pv, e = .returned (.tuple #[.agg #[.int .u8 ((if atOk W i = true then W.getD i 0 % 256 else 0 : Nat) : Int), pv, S (if atOk W i = true ∧ W.getD i 0 % 256 = 3 then txt W i (W.getD i 0 / 256) else [])], .int .i64 ((if atOk W i = true then szX (W.getD i 0) else 0 : Nat) : Int)]) ∧
    OwnU w' w.heap.size pv (if atOk W i = true ∧ W.getD i 0 % 256 ≠ 3 then rst W i else []) ∧ Below w.heap.size w w'

theorem atPost_no {w w' : World} {W : List Nat} {i : Nat} (h : atOk W i = false) (hb : Below w.heap.size w w') : AtPost w w' W i (.returned (.tuple #[.agg #[.int .u8 0, .slice none 0 0, .string ⟨#[]⟩], .int .i64 0])) := by
  refine ⟨.slice none 0 0, ?_, ?_, hb⟩
  · simp [h, S]
  · simp only [h]
    exact World.ownsRow_nil _ _ _ _
theorem atOk_big {W : List Nat} {i : Nat} (h : 8 * W.length < W.getD i 0 / 256) : atOk W i = false := by
  unfold atOk
  rw [Bool.and_eq_false_iff]
  right
  rw [decide_eq_false_iff_not]
  intro hs
  have := szX_bound hs
  omega
theorem atOk_kind {W : List Nat} {i : Nat} (h : isK (W.getD i 0 % 256) = false) : atOk W i = false := by
  unfold atOk
  rw [h]
  rfl

/-- The row's word i. -/
theorem at_cell {w : World} {v : Value} {W : List Nat} (h : RdW w v W) {i : Nat} (hi : i < W.length) : ∃ a cap, v = .slice (some a) W.length cap ∧ cap ≤ maxLen ∧ ∀ j, j < W.length → w.cell? (a.add j) = some (.int .u64 (W.getD j 0 : Int)) := by
  rcases h with ⟨rfl, e⟩ | ⟨a, c, hv, hl, hm, hc⟩
  · have : W = [] := by simpa [Ws] using e
    rw [this] at hi
    simp at hi
  · rw [Ws_length] at hv
    refine ⟨a, c, hv, hm, fun j hj => hc j _ ?_⟩
    simp only [Ws, List.getElem?_map, List.getElem?_eq_getElem hj, List.getD_eq_getElem?_getD]
    rfl

set_option maxHeartbeats 2000000 in
set_option maxRecDepth 100000 in
theorem at_kind (v : Value) (W : List Nat) (i : Nat) (w : World) (h : RdW w v W) (hi : i < W.length) (hx : W.getD i 0 < 18446744073709551616) (hk : isK (W.getD i 0 % 256) = false) :
    Calls Try.prog 22 #[v, .int .i64 (i : Int)] w fun e w' => AtPost w w' W i e := by
  have hno := Lib.hid (atOk_kind hk)
  obtain ⟨a, cap, hv, hm, hc⟩ := at_cell h hi
  have hcell := hc i hi
  clear h hc
  obtain ⟨X, hX⟩ : ∃ X, W.getD i 0 = X := ⟨_, rfl⟩
  rw [hX] at hcell hx hk
  clear hX
  have hX' : (X : Int) ≤ 18446744073709551615 := by omega
  have hi' : (i : Int) < (W.length : Int) := by omega
  unfold maxLen at hm
  have hab := World.block_lt_of_cell? w _ hcell
  subst hv
  have hkk : X % 256 = 0 ∨ 6 < X % 256 := by
    unfold isK at hk
    have := of_decide_eq_false hk
    omega
  clear hk
  rcases hkk with h0 | h0
  · have hk1 : (X : Int) % 256 < 1 := by omega
    have H0 := Lib.hid h0
    clear h0
    go_enter Try.func22, Try.ntmps22
    go_wp2_with fail
    refine bodyPost_ret (v := .tuple #[.agg #[.int .u8 0, .slice none 0 0, .string ⟨#[]⟩], .int .i64 0]) (by simp [results, Try.results22, go_sem]) rfl (atPost_no hno.out ?_)
    exact (Below.refl _ _).alloc (Nat.le_refl _) _
  · have hk1 : ¬ (X : Int) % 256 < 1 := by omega
    have hk2 : (6 : Int) < (X : Int) % 256 := by omega
    have H0 := Lib.hid h0
    clear h0
    go_enter Try.func22, Try.ntmps22
    go_wp2_with fail
    refine bodyPost_ret (v := .tuple #[.agg #[.int .u8 0, .slice none 0 0, .string ⟨#[]⟩], .int .i64 0]) (by simp [results, Try.results22, go_sem]) rfl (atPost_no hno.out ?_)
    exact (Below.refl _ _).alloc (Nat.le_refl _) _

set_option maxHeartbeats 2000000 in
set_option maxRecDepth 100000 in
theorem at_big (v : Value) (W : List Nat) (i : Nat) (w : World) (h : RdW w v W) (hi : i < W.length) (hx : W.getD i 0 < 18446744073709551616) (hk : isK (W.getD i 0 % 256) = true) (hmx : W.length ≤ 10000000) (hb : 8 * W.length < W.getD i 0 / 256) :
    Calls Try.prog 22 #[v, .int .i64 (i : Int)] w fun e w' => AtPost w w' W i e := by
  have hno := Lib.hid (atOk_big hb)
  obtain ⟨a, cap, hv, hm, hc⟩ := at_cell h hi
  have hcell := hc i hi
  clear h hc
  obtain ⟨X, hX⟩ : ∃ X, W.getD i 0 = X := ⟨_, rfl⟩
  rw [hX] at hcell hx hk hb
  clear hX
  have hX' : (X : Int) ≤ 18446744073709551615 := by omega
  have hi' : (i : Int) < (W.length : Int) := by omega
  have hmx' : (W.length : Int) ≤ 10000000 := by omega
  have hb' : (8 : Int) * (W.length : Int) < (X : Int) / 256 := by omega
  unfold maxLen at hm
  have hab := World.block_lt_of_cell? w _ hcell
  subst hv
  have hkk := of_decide_eq_true hk
  have hk1 : ¬ (X : Int) % 256 < 1 := by omega
  have hk2 : ¬ (6 : Int) < (X : Int) % 256 := by omega
  clear hk hkk hb
  go_enter Try.func22, Try.ntmps22
  go_wp2_with fail
  refine bodyPost_ret (v := .tuple #[.agg #[.int .u8 0, .slice none 0 0, .string ⟨#[]⟩], .int .i64 0]) (by simp [results, Try.results22, go_sem]) rfl (atPost_no hno.out ?_)
  exact (Below.refl _ _).alloc (Nat.le_refl _) _

set_option maxHeartbeats 2000000 in
set_option maxRecDepth 100000 in
theorem at_long (v : Value) (W : List Nat) (i : Nat) (w : World) (h : RdW w v W) (hi : i < W.length) (hx : W.getD i 0 < 18446744073709551616) (hk : isK (W.getD i 0 % 256) = true) (hmx : W.length ≤ 10000000) (hb : W.getD i 0 / 256 ≤ 8 * W.length) (hl : W.length - i < szX (W.getD i 0)) :
    Calls Try.prog 22 #[v, .int .i64 (i : Int)] w fun e w' => AtPost w w' W i e := by
  have hno := Lib.hid (show atOk W i = false by
    unfold atOk
    rw [Bool.and_eq_false_iff]
    right
    rw [decide_eq_false_iff_not]
    omega)
  obtain ⟨a, cap, hv, hm, hc⟩ := at_cell h hi
  have hcell := hc i hi
  clear h hc
  obtain ⟨X, hX⟩ : ∃ X, W.getD i 0 = X := ⟨_, rfl⟩
  rw [hX] at hcell hx hk hb hl
  clear hX
  have hX' : (X : Int) ≤ 18446744073709551615 := by omega
  have hi' : (i : Int) < (W.length : Int) := by omega
  have hmx' : (W.length : Int) ≤ 10000000 := by omega
  have hb' : ¬ (8 : Int) * (W.length : Int) < (X : Int) / 256 := by omega
  have hb2 : (X : Int) / 256 ≤ 80000000 := by omega
  unfold maxLen at hm
  have hab := World.block_lt_of_cell? w _ hcell
  subst hv
  have hkk := of_decide_eq_true hk
  have hk1 : ¬ (X : Int) % 256 < 1 := by omega
  have hk2 : ¬ (6 : Int) < (X : Int) % 256 := by omega
  have hfin : ∀ o1 o2, AtPost w (((w.alloc o1)).alloc o2) W i (.returned (.tuple #[.agg #[.int .u8 0, .slice none 0 0, .string ⟨#[]⟩], .int .i64 0])) := fun o1 o2 => atPost_no hno.out (((Below.refl _ _).alloc (Nat.le_refl _) _).alloc (by simp) _)
  have FIN := Lib.hid hfin
  clear hk hkk hb hfin
  by_cases h3 : X % 256 = 3
  · have h3' : ((X : Int) % 256 == 3) = true := by rw [beq_iff_eq]; omega
    have hl' : (W.length : Int) - (i : Int) - 1 < ((X : Int) / 256 + 7) / 8 := by
      unfold szX need at hl
      rw [if_pos h3] at hl
      omega
    clear h3 hl
    go_enter Try.func22, Try.ntmps22
    go_wp2_with fail
    refine bodyPost_ret (v := .tuple #[.agg #[.int .u8 0, .slice none 0 0, .string ⟨#[]⟩], .int .i64 0]) (by simp [results, Try.results22, go_sem]) rfl (FIN.out _ _)
  · have h3' : ((X : Int) % 256 == 3) = false := by rw [beq_eq_false_iff_ne]; omega
    have hl' : (W.length : Int) - (i : Int) - 1 < (X : Int) / 256 := by
      unfold szX need at hl
      rw [if_neg h3] at hl
      omega
    clear h3 hl
    go_enter Try.func22, Try.ntmps22
    go_wp2_with fail
    refine bodyPost_ret (v := .tuple #[.agg #[.int .u8 0, .slice none 0 0, .string ⟨#[]⟩], .int .i64 0]) (by simp [results, Try.results22, go_sem]) rfl (FIN.out _ _)
end Go.Proofs.Ytmljelcmjagjjaa
