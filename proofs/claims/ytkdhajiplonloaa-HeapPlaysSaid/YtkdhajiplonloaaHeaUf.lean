/- The reference's At. -/
/- The reference's At, at an object that has parts. -/
import Derived.Test.YtkdhajiplonloaaHeaUd
namespace Go.Proofs.Ytkdhajiplonloaa
open Go.RowKit HeaM

/-- Does an object stand at i, by the words alone? -/
def atOk (W : List Nat) (i : Nat) : Bool := isK (W.getD i 0 % 256) && decide (szX (W.getD i 0) ≤ W.length - i)
/-- What At leaves. -/
def AtPost (w w' : World) (W : List Nat) (i : Nat) (e : Ending) : Prop :=
  ∃ pv, e = .returned (.tuple #[.agg #[.int .u8 ((if atOk W i = true then W.getD i 0 % 256 else 0 : Nat) : Int), pv, S (if atOk W i = true ∧ W.getD i 0 % 256 = 3 then txt W i (W.getD i 0 / 256) else [])], .int .i64 ((if atOk W i = true then szX (W.getD i 0) else 0 : Nat) : Int)]) ∧
    OwnU w' w.heap.size pv (if atOk W i = true ∧ W.getD i 0 % 256 ≠ 3 then rst W i else []) ∧ Below w.heap.size w w'

theorem atPost_no {w w' : World} {W : List Nat} {i : Nat} (h : atOk W i = false) (hb : Below w.heap.size w w') : AtPost w w' W i (.returned (.tuple #[.agg #[.int .u8 0, .slice none 0 0, .string ⟨#[]⟩], .int .i64 0])) := by
  refine ⟨.slice none 0 0, ?_, ?_, hb⟩
  · simp [h, S]
  · simp only [h]
    exact World.ownsRow_nil _ _ _ _
theorem atOk_big {W : List Nat} {i : Nat} (h : 8 * W.length < W.getD i 0 / 256) : atOk W i = false := by
  unfold atOk
  rw [Bool.and_eq_false_iff]
  right
  rw [decide_eq_false_iff_not]
  intro hs
  have := szX_bound hs
  omega
theorem atOk_kind {W : List Nat} {i : Nat} (h : isK (W.getD i 0 % 256) = false) : atOk W i = false := by
  unfold atOk
  rw [h]
  rfl

/-- The row's word i. -/
theorem at_cell {w : World} {v : Value} {W : List Nat} (h : RdW w v W) {i : Nat} (hi : i < W.length) : ∃ a cap, v = .slice (some a) W.length cap ∧ cap ≤ maxLen ∧ ∀ j, j < W.length → w.cell? (a.add j) = some (.int .u64 (W.getD j 0 : Int)) := by
  rcases h with ⟨rfl, e⟩ | ⟨a, c, hv, hl, hm, hc⟩
  · have : W = [] := by simpa [Ws] using e
    rw [this] at hi
    simp at hi
  · rw [Ws_length] at hv
    refine ⟨a, c, hv, hm, fun j hj => hc j _ ?_⟩
    simp only [Ws, List.getElem?_map, List.getElem?_eq_getElem hj, List.getD_eq_getElem?_getD]
    rfl

set_option maxHeartbeats 2000000 in
set_option maxRecDepth 100000 in
theorem at_kind (v : Value) (W : List Nat) (i : Nat) (w : World) (h : RdW w v W) (hi : i < W.length) (hx : W.getD i 0 < 18446744073709551616) (hk : isK (W.getD i 0 % 256) = false) :
    Calls Try.prog 14 #[v, .int .i64 (i : Int)] w fun e w' => AtPost w w' W i e := by
  have hno := Lib.hid (atOk_kind hk)
  obtain ⟨a, cap, hv, hm, hc⟩ := at_cell h hi
  have hcell := hc i hi
  clear h hc
  obtain ⟨X, hX⟩ : ∃ X, W.getD i 0 = X := ⟨_, rfl⟩
  rw [hX] at hcell hx hk
  clear hX
  have hX' : (X : Int) ≤ 18446744073709551615 := by omega
  have hi' : (i : Int) < (W.length : Int) := by omega
  unfold maxLen at hm
  have hab := World.block_lt_of_cell? w _ hcell
  subst hv
  have hkk : X % 256 = 0 ∨ 6 < X % 256 := by
    unfold isK at hk
    have := of_decide_eq_false hk
    omega
  clear hk
  rcases hkk with h0 | h0
  · have hk1 : (X : Int) % 256 < 1 := by omega
    have H0 := Lib.hid h0
    clear h0
    go_enter Try.func14, Try.ntmps14
    go_wp2_with fail
    refine bodyPost_ret (v := .tuple #[.agg #[.int .u8 0, .slice none 0 0, .string ⟨#[]⟩], .int .i64 0]) (by simp [results, Try.results14, go_sem]) rfl (atPost_no hno.out ?_)
    exact (Below.refl _ _).alloc (Nat.le_refl _) _
  · have hk1 : ¬ (X : Int) % 256 < 1 := by omega
    have hk2 : (6 : Int) < (X : Int) % 256 := by omega
    have H0 := Lib.hid h0
    clear h0
    go_enter Try.func14, Try.ntmps14
    go_wp2_with fail
    refine bodyPost_ret (v := .tuple #[.agg #[.int .u8 0, .slice none 0 0, .string ⟨#[]⟩], .int .i64 0]) (by simp [results, Try.results14, go_sem]) rfl (atPost_no hno.out ?_)
    exact (Below.refl _ _).alloc (Nat.le_refl _) _

set_option maxHeartbeats 2000000 in
set_option maxRecDepth 100000 in
theorem at_big (v : Value) (W : List Nat) (i : Nat) (w : World) (h : RdW w v W) (hi : i < W.length) (hx : W.getD i 0 < 18446744073709551616) (hk : isK (W.getD i 0 % 256) = true) (hmx : W.length ≤ 10000000) (hb : 8 * W.length < W.getD i 0 / 256) :
    Calls Try.prog 14 #[v, .int .i64 (i : Int)] w fun e w' => AtPost w w' W i e := by
  have hno := Lib.hid (atOk_big hb)
  obtain ⟨a, cap, hv, hm, hc⟩ := at_cell h hi
  have hcell := hc i hi
  clear h hc
  obtain ⟨X, hX⟩ : ∃ X, W.getD i 0 = X := ⟨_, rfl⟩
  rw [hX] at hcell hx hk hb
  clear hX
  have hX' : (X : Int) ≤ 18446744073709551615 := by omega
  have hi' : (i : Int) < (W.length : Int) := by omega
  have hmx' : (W.length : Int) ≤ 10000000 := by omega
  have hb' : (8 : Int) * (W.length : Int) < (X : Int) / 256 := by omega
  unfold maxLen at hm
  have hab := World.block_lt_of_cell? w _ hcell
  subst hv
  have hkk := of_decide_eq_true hk
  have hk1 : ¬ (X : Int) % 256 < 1 := by omega
  have hk2 : ¬ (6 : Int) < (X : Int) % 256 := by omega
  clear hk hkk hb
  go_enter Try.func14, Try.ntmps14
  go_wp2_with fail
  refine bodyPost_ret (v := .tuple #[.agg #[.int .u8 0, .slice none 0 0, .string ⟨#[]⟩], .int .i64 0]) (by simp [results, Try.results14, go_sem]) rfl (atPost_no hno.out ?_)
  exact (Below.refl _ _).alloc (Nat.le_refl _) _

set_option maxHeartbeats 2000000 in
set_option maxRecDepth 100000 in
theorem at_long (v : Value) (W : List Nat) (i : Nat) (w : World) (h : RdW w v W) (hi : i < W.length) (hx : W.getD i 0 < 18446744073709551616) (hk : isK (W.getD i 0 % 256) = true) (hmx : W.length ≤ 10000000) (hb : W.getD i 0 / 256 ≤ 8 * W.length) (hl : W.length - i < szX (W.getD i 0)) :
    Calls Try.prog 14 #[v, .int .i64 (i : Int)] w fun e w' => AtPost w w' W i e := by
  have hno := Lib.hid (show atOk W i = false by
    unfold atOk
    rw [Bool.and_eq_false_iff]
    right
    rw [decide_eq_false_iff_not]
    omega)
  obtain ⟨a, cap, hv, hm, hc⟩ := at_cell h hi
  have hcell := hc i hi
  clear h hc
  obtain ⟨X, hX⟩ : ∃ X, W.getD i 0 = X := ⟨_, rfl⟩
  rw [hX] at hcell hx hk hb hl
  clear hX
  have hX' : (X : Int) ≤ 18446744073709551615 := by omega
  have hi' : (i : Int) < (W.length : Int) := by omega
  have hmx' : (W.length : Int) ≤ 10000000 := by omega
  have hb' : ¬ (8 : Int) * (W.length : Int) < (X : Int) / 256 := by omega
  have hb2 : (X : Int) / 256 ≤ 80000000 := by omega
  unfold maxLen at hm
  have hab := World.block_lt_of_cell? w _ hcell
  subst hv
  have hkk := of_decide_eq_true hk
  have hk1 : ¬ (X : Int) % 256 < 1 := by omega
  have hk2 : ¬ (6 : Int) < (X : Int) % 256 := by omega
  have hfin : ∀ o1 o2, AtPost w (((w.alloc o1)).alloc o2) W i (.returned (.tuple #[.agg #[.int .u8 0, .slice none 0 0, .string ⟨#[]⟩], .int .i64 0])) := fun o1 o2 => atPost_no hno.out (((Below.refl _ _).alloc (Nat.le_refl _) _).alloc (by simp) _)
  have FIN := Lib.hid hfin
  clear hk hkk hb hfin
  by_cases h3 : X % 256 = 3
  · have h3' : ((X : Int) % 256 == 3) = true := by rw [beq_iff_eq]; omega
    have hl' : (W.length : Int) - (i : Int) - 1 < ((X : Int) / 256 + 7) / 8 := by
      unfold szX need at hl
      rw [if_pos h3] at hl
      omega
    clear h3 hl
    go_enter Try.func14, Try.ntmps14
    go_wp2_with fail
    refine bodyPost_ret (v := .tuple #[.agg #[.int .u8 0, .slice none 0 0, .string ⟨#[]⟩], .int .i64 0]) (by simp [results, Try.results14, go_sem]) rfl (FIN.out _ _)
  · have h3' : ((X : Int) % 256 == 3) = false := by rw [beq_eq_false_iff_ne]; omega
    have hl' : (W.length : Int) - (i : Int) - 1 < (X : Int) / 256 := by
      unfold szX need at hl
      rw [if_neg h3] at hl
      omega
    clear h3 hl
    go_enter Try.func14, Try.ntmps14
    go_wp2_with fail
    refine bodyPost_ret (v := .tuple #[.agg #[.int .u8 0, .slice none 0 0, .string ⟨#[]⟩], .int .i64 0]) (by simp [results, Try.results14, go_sem]) rfl (FIN.out _ _)
end Go.Proofs.Ytkdhajiplonloaa
namespace Go.Proofs.Ytkdhajiplonloaa
open Go.RowKit HeaM

theorem ob_set1 {w : World} {b : Nat} {x0 x1 x2 u : Value} {t : TypeId} (h : w.heap[b]? = some (.cells #[x0, x1, x2] t (0, 0))) : (w.setCell ⟨b, 1, none⟩ u).heap[b]? = some (.cells #[x0, u, x2] t (0, 0)) := heap_setCell_same w b 1 _ t u h
theorem ob_set2 {w : World} {b : Nat} {x0 x1 x2 u : Value} {t : TypeId} (h : w.heap[b]? = some (.cells #[x0, x1, x2] t (0, 0))) : (w.setCell ⟨b, 2, none⟩ u).heap[b]? = some (.cells #[x0, x1, u] t (0, 0)) := heap_setCell_same w b 2 _ t u h
theorem ob_cells {w : World} {b : Nat} {x0 x1 x2 : Value} {t : TypeId} (h : w.heap[b]? = some (.cells #[x0, x1, x2] t (0, 0))) : w.cell? ⟨b, 0, none⟩ = some x0 ∧ w.cell? ⟨b, 1, none⟩ = some x1 ∧ w.cell? ⟨b, 2, none⟩ = some x2 :=
  ⟨(cell_of_row _ _ 0 _ _ (0, 0) h).trans rfl, (cell_of_row _ _ 1 _ _ (0, 0) h).trans rfl, (cell_of_row _ _ 2 _ _ (0, 0) h).trans rfl⟩

/-- The two objects that At makes: the one that is told, and the one that is built. -/
structure AtR (w wr : World) (K : Nat) (pv sv : Value) : Prop where
  res : wr.heap[w.heap.size]? = some (.cells #[.int .u8 0, .slice none 0 0, .string ⟨#[]⟩] 35 (0, 0))
  obj : wr.heap[w.heap.size + 1]? = some (.cells #[.int .u8 (K : Int), pv, sv] 35 (0, 0))
  below : Below w.heap.size w wr

theorem AtR.start (w : World) (K : Nat) : AtR w ((w.alloc (.cells #[.int .u8 0, .slice none 0 0, .string ⟨#[]⟩] 35)).alloc (.cells #[.int .u8 (K : Int), .slice none 0 0, .string ⟨#[]⟩] 35)) K (.slice none 0 0) (.string ⟨#[]⟩) := by
  have e0 := heap_alloc_new w (.cells #[.int .u8 0, .slice none 0 0, .string ⟨#[]⟩] 35)
  have e1 := heap_alloc_new (w.alloc (.cells #[.int .u8 0, .slice none 0 0, .string ⟨#[]⟩] 35)) (.cells #[.int .u8 (K : Int), .slice none 0 0, .string ⟨#[]⟩] 35)
  rw [show (w.alloc (.cells #[.int .u8 0, .slice none 0 0, .string ⟨#[]⟩] 35)).heap.size = w.heap.size + 1 by simp] at e1
  exact ⟨(Below.heap_alloc _ _ _ (by simp)).trans e0, e1, ((Below.refl _ _).alloc (Nat.le_refl _) _).alloc (by simp) _⟩

/-- A row of the call's own that isn't one of the two. -/
theorem AtR.ne {w wr : World} {K base n : Nat} {pv sv v : Value} {xs : List Value} {t : TypeId} (h : AtR w wr K pv sv) (ho : wr.ownsRow base t 1 v n xs) (ht : t ≠ 35) : v.ownBlock ≠ some w.heap.size ∧ v.ownBlock ≠ some (w.heap.size + 1) := by
  rcases ho.2 with ⟨rfl, _⟩ | ⟨g, cap, cur, rfl, _, hg, _⟩
  · simp [Value.ownBlock]
  · constructor
    · intro e
      simp only [Value.ownBlock, Option.some.injEq] at e
      subst e
      rw [h.res] at hg
      injection hg with hg
      injection hg with _ h2
      exact ht h2.symm
    · intro e
      simp only [Value.ownBlock, Option.some.injEq] at e
      subst e
      rw [h.obj] at hg
      injection hg with hg
      injection hg with _ h2
      exact ht h2.symm

/-- One part more. -/
theorem AtR.part {w wr : World} {K n : Nat} {pv sv : Value} {xs : List Value} {x : Nat} (h : AtR w wr K pv sv) (ho : wr.ownsRow w.heap.size 36 1 pv n xs) (hn : n ≤ 100000000) :
    ∃ o c w2, (Builtin.append_ #[28, 28] 28 #[pv, .slice (some ⟨wr.heap.size, 0, none⟩) 1 1]).run Try.prog (wr.alloc (.cells #[.int .u64 (x : Int)] 36)) = .ok (.slice o (n + 1) c) w2 ∧ w2.cell? ⟨w.heap.size + 1, 1, none⟩ = some pv ∧ w2.frozen? ⟨w.heap.size + 1, 1, none⟩ = false ∧ w.heap.size + 1 < w2.heap.size ∧ AtR w (w2.setCell ⟨w.heap.size + 1, 1, none⟩ (.slice o (n + 1) c)) K (.slice o (n + 1) c) sv ∧ (w2.setCell ⟨w.heap.size + 1, 1, none⟩ (.slice o (n + 1) c)).ownsRow w.heap.size 36 1 (.slice o (n + 1) c) (n + 1) (xs ++ [.int .u64 (x : Int)]) := by
  have hs := h.below.size
  have hl0 := lt_of_block h.res
  have hl1 := lt_of_block h.obj
  obtain ⟨hn1, hn2⟩ := h.ne ho (by decide)
  obtain ⟨v', w2, r2, o2, g2, a2⟩ := append_one (ty := 28) (t := 28) u64Info Try.underlying28 rfl (ho.alloc (.cells #[.int .u64 (x : Int)] 36)) (RdV.lit wr (.int .u64 (x : Int)) 36) (by intro u hu; simp at hu; subst hu; rfl) (by simp; omega) (by simp; omega) (by simp; omega)
  simp only [List.length_singleton] at r2 o2 a2
  obtain ⟨o, c, rfl, _⟩ := own_slice o2
  have hk : Kept (fun j => pv.ownBlock = some j) wr w2 := ((Kept.refl _ _).alloc _).grown g2 fun j hj => .inl hj
  have e0 : w2.heap[w.heap.size]? = _ := (hk.block _ hl0 hn1).trans h.res
  have e1 : w2.heap[w.heap.size + 1]? = _ := (hk.block _ hl1 hn2).trans h.obj
  have hb2 : Below w.heap.size w w2 := (h.below.alloc hs _).grown g2 (by simp; omega) (fun j hj => (ho.lt j hj).1)
  have hnb : (Value.slice o (n + 1) c).ownBlock ≠ some (w.heap.size + 1) := by
    intro e
    rcases a2 with a2 | a2
    · exact hn2 (by rw [← a2]; exact e)
    · rw [a2] at e
      injection e with e
      simp at e
      omega
  refine ⟨o, c, w2, r2, (ob_cells e1).2.1, frozen_of_row _ _ 1 _ _ e1, lt_of_block e1, ⟨?_, ob_set1 e1, hb2.setCell (by simp) _⟩, ownsRow_setCell_other o2 hnb _⟩
  rw [heap_setCell_other _ _ _ _ (by simp)]
  exact e0

theorem rst_get {W : List Nat} {i m : Nat} (h : m < (rst W i).length) : (rst W i)[m] = W.getD (i + 1 + m) 0 := by
  have h1 : (rst W i)[m]? = some (rst W i)[m] := List.getElem?_eq_getElem h
  have h2 : m < szX (W.getD i 0) - 1 := by unfold rst at h; rw [List.length_take] at h; omega
  have h3 : (rst W i)[m]? = W[i + 1 + m]? := by unfold rst; rw [List.getElem?_take, if_pos h2, List.getElem?_drop]
  rw [List.getD_eq_getElem?_getD, ← h3, h1]
  rfl

set_option maxHeartbeats 4000000 in
set_option maxRecDepth 100000 in
theorem at_parts (v : Value) (W : List Nat) (i : Nat) (w : World) (h : RdW w v W) (hi : i < W.length) (hx : W.getD i 0 < 18446744073709551616) (hk : isK (W.getD i 0 % 256) = true) (hmx : W.length ≤ 10000000) (hl : szX (W.getD i 0) ≤ W.length - i) (h3 : W.getD i 0 % 256 ≠ 3) :
    Calls Try.prog 14 #[v, .int .i64 (i : Int)] w fun e w' => AtPost w w' W i e := by
  have hok : atOk W i = true := by
    unfold atOk
    rw [hk]
    simpa using hl
  have hbd := szX_bound hl
  obtain ⟨a, cap, hv, hm, hc⟩ := at_cell h hi
  have hcell := hc i hi
  have HC := Lib.hid hc
  have HH := Lib.hid h
  clear h hc
  have hrl : (rst W i).length = szX (W.getD i 0) - 1 := by
    have := szX_pos (W.getD i 0)
    unfold rst
    rw [List.length_take, List.length_drop]
    omega
  have hsz : szX (W.getD i 0) = 1 + W.getD i 0 / 256 := by unfold szX need; rw [if_neg h3]
  obtain ⟨n, hn⟩ : ∃ n, W.getD i 0 / 256 = n := ⟨_, rfl⟩
  obtain ⟨K, hK⟩ : ∃ K, W.getD i 0 % 256 = K := ⟨_, rfl⟩
  have hpost : ∀ (w' : World) (pv : Value), OwnU w' w.heap.size pv (rst W i) → Below w.heap.size w w' → AtPost w w' W i (.returned (.tuple #[.agg #[.int .u8 (K : Int), pv, .string ⟨#[]⟩], .int .i64 (1 + (n : Int))])) := by
    intro w' pv ho hb
    refine ⟨pv, ?_, ?_, hb⟩
    · simp only [hok, if_true, hsz, hn, hK]
      rw [if_neg (by rw [← hK]; exact fun e => h3 e.2)]
      rw [show ((1 + n : Nat) : Int) = 1 + (n : Int) by omega]
      rfl
    · rw [if_pos ⟨hok, h3⟩]
      exact ho
  have HPOST := Lib.hid hpost
  rw [hn] at hsz hbd
  rw [hsz] at hl hrl
  obtain ⟨X, hX⟩ : ∃ X, W.getD i 0 = X := ⟨_, rfl⟩
  rw [hX] at hcell hx hn hK h3 hk
  have hX' : (X : Int) ≤ 18446744073709551615 := by omega
  have hi' : (i : Int) < (W.length : Int) := by omega
  have hmx' : (W.length : Int) ≤ 10000000 := by omega
  have hXn : (X : Int) / 256 = (n : Int) := by omega
  have hXK : (X : Int) % 256 = (K : Int) := by omega
  have hb' : ¬ (8 : Int) * (W.length : Int) < (X : Int) / 256 := by omega
  have hb2 : (n : Int) ≤ 10000000 := by omega
  unfold maxLen at hm
  have hab := World.block_lt_of_cell? w _ hcell
  subst hv
  have hkk := of_decide_eq_true hk
  have hk1 : ¬ (X : Int) % 256 < 1 := by omega
  have hk2 : ¬ (6 : Int) < (X : Int) % 256 := by omega
  have hl' : ¬ (W.length : Int) - (i : Int) - 1 < (X : Int) / 256 := by omega
  have h3' : ((X : Int) % 256 == 3) = false := by rw [beq_eq_false_iff_ne]; omega
  have h3'' : ((K : Int) != 3) = true := by rw [bne_iff_ne]; omega
  have h3k : ((K : Int) == 3) = false := by rw [beq_eq_false_iff_ne]; omega
  have HXN := Lib.hid hXn
  have HXK := Lib.hid hXK
  have HRL := Lib.hid hrl
  clear hpost hk hkk h3 hok hX hn hK hsz hrl hXn hXK
  go_enter Try.func14, Try.ntmps14
  go_wp2_with fail
  have hst : AtR w ((w.alloc (.cells #[.int .u8 0, .slice none 0 0, .string ⟨#[]⟩] 35)).alloc (.cells #[.int .u8 ((X : Int) % 256), .slice none 0 0, .string ⟨#[]⟩] 35)) K (.slice none 0 0) (.string ⟨#[]⟩) := by
    rw [HXK.out]
    exact AtR.start w K
  have HST := Lib.hid hst
  clear hst
  go_loopw [10] (fun i' wr => ∃ (m : Nat) (pv : Value), m ≤ n ∧ i' = .int .i64 m ∧ Hid (AtR w wr K pv (.string ⟨#[]⟩) ∧ OwnU wr w.heap.size pv ((rst W i).take m))) (fun i' _ => n - (intOf i').toNat)
  case atStart => exact ⟨0, _, Nat.zero_le _, rfl, HST.out, World.ownsRow_nil _ _ _ _⟩
  case round =>
    obtain ⟨m, pv, hm', rfl, HK⟩ := hrel
    clear HST
    have hown := HK.out.2
    have hlen : ((rst W i).take m).length = m := by have := HRL.out; rw [List.length_take]; omega
    unfold OwnU at hown
    rw [hlen] at hown
    obtain ⟨o1, c1, hpv, _⟩ := own_slice hown
    obtain ⟨z0, z1, z2⟩ := ob_cells HK.out.1.obj
    by_cases hlt : m < n
    · have hmi : (m : Int) < (X : Int) / 256 := by rw [HXN.out]; omega
      have hidx : i + 1 + m < W.length := by omega
      obtain ⟨x, hxx⟩ : ∃ x, W.getD (i + 1 + m) 0 = x := ⟨_, rfl⟩
      have hc0 := HC.out (i + 1 + m) hidx
      rw [hxx] at hc0
      have hcx := (HK.out.1.below.cell (World.block_lt_of_cell? w _ hc0)).trans hc0
      have htk : (rst W i).take (m + 1) = (rst W i).take m ++ [x] := by
        have h1 : m < (rst W i).length := by have := HRL.out; omega
        rw [List.take_succ_eq_append_getElem h1]
        rw [rst_get h1, hxx]
      obtain ⟨o, c, w2, r2, q1, q2, q3, hR2, ho2⟩ := HK.out.1.part (x := x) hown (by omega)
      have hfin : AtR w (w2.setCell ⟨w.heap.size + 1, 1, none⟩ (.slice o (m + 1) c)) K (.slice o (m + 1) c) (.string ⟨#[]⟩) ∧ OwnU (w2.setCell ⟨w.heap.size + 1, 1, none⟩ (.slice o (m + 1) c)) w.heap.size (.slice o (m + 1) c) ((rst W i).take (m + 1)) := by
        refine ⟨hR2, ?_⟩
        unfold OwnU
        rw [htk, List.length_append, hlen, Ws_append]
        exact ho2
      have FIN := Lib.hid hfin
      have R2 := Lib.hid r2
      have hidx' : (i : Int) + 1 + (m : Int) < (W.length : Int) := by omega
      subst hpv
      clear hfin r2 hR2 ho2 htk hc0 hxx hown hlen
      go_wp2_with (at_builtin; refine wpList_append_known rfl (.tmp 81) (.tmp 83) 28 28 (by rfl) _ _ _ (by rfl) (by rfl) R2.out ?_)
      go_roundw
      case rel => exact ⟨m + 1, _, by omega, by go_num, FIN.out⟩
      case measure => simp [intOf]; omega
    · obtain rfl : m = n := by omega
      have hmi : ¬ (m : Int) < (X : Int) / 256 := by rw [HXN.out]; omega
      have htk : (rst W i).take m = rst W i := List.take_of_length_le (by have := HRL.out; omega)
      subst hpv
      obtain ⟨y0, y1, y2⟩ := ob_cells HK.out.1.res
      have f0 := frozen_of_row _ _ 0 _ _ HK.out.1.res
      have f1 := frozen_of_row _ _ 1 _ _ HK.out.1.res
      have f2 := frozen_of_row _ _ 2 _ _ HK.out.1.res
      have hl0 := lt_of_block HK.out.1.res
      have hl1 := lt_of_block HK.out.1.obj
      clear hown hlen
      go_wp2_with fail
      refine bodyPost_ret (v := .tuple #[.agg #[.int .u8 (K : Int), .slice o1 m c1, .string ⟨#[]⟩], .int .i64 (1 + (X : Int) / 256)]) (by simp [results, Try.results14, go_sem, y0, y1, y2]) rfl ?_
      rw [HXN.out]
      obtain ⟨n1, n2⟩ := HK.out.1.ne HK.out.2 (by decide)
      rw [htk] at HK
      refine HPOST.out _ _ ?_ (((HK.out.1.below.setCell (Nat.le_refl _) _).setCell (Nat.le_refl _) _).setCell (Nat.le_refl _) _)
      exact ownsRow_setCell_other (a := ⟨w.heap.size, 2, none⟩) (ownsRow_setCell_other (a := ⟨w.heap.size, 1, none⟩) (ownsRow_setCell_other (a := ⟨w.heap.size, 0, none⟩) HK.out.2 n1 _) n1 _) n1 _
end Go.Proofs.Ytkdhajiplonloaa
