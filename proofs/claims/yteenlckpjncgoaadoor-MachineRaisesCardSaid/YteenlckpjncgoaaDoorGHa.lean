/- HeaW, HeaN, HeaH, HeaL, in one text. -/
import Derived.Test.YteenlckpjncgoaaDoorHeaB

namespace Go.Proofs.YteenlckpjncgoaaDoor
open Go.RowKit

theorem num_or (n : Int) : bits .or .u64 (IntKind.u64.wrap (IntKind.u64.wrap n * 2)) 1 = (2 * n + 1) % 18446744073709551616 := by
  simp only [IntKind.wrap_u64]
  have e : n % 18446744073709551616 * 2 % 18446744073709551616 = ((2 * (n % 9223372036854775808).toNat : Nat) : Int) := by omega
  rw [e, show (1 : Int) = ((1 : Nat) : Int) from rfl, u64_or_nat _ _ (by omega) (by omega)]
  have h := Nat.two_pow_add_eq_or_of_lt (i := 1) (b := 1) (by decide) (n % 9223372036854775808).toNat
  rw [Nat.pow_one] at h
  rw [← h]
  omega
theorem and_one (x : Nat) (hx : x < 18446744073709551616) : (bits .and .u64 (x : Int) 1 == 1) = (x % 2 == 1) := by
  rw [show (1 : Int) = ((1 : Nat) : Int) from rfl, u64_and_nat _ _ hx (by omega), Nat.and_one_is_mod]
  rw [Bool.eq_iff_iff]
  simp
  omega
theorem head_or (n k : Nat) (hn : n < 36028797018963968) (hk : k < 256) : bits .or .u64 ((n : Int) * 256) (k : Int) = ((n * 256 + k : Nat) : Int) := by
  rw [show (n : Int) * 256 = ((n * 256 : Nat) : Int) by omega, u64_or_nat _ _ (by omega) (by omega)]
  have h := Nat.two_pow_add_eq_or_of_lt (i := 8) (b := k) hk n
  rw [show (2 : Nat) ^ 8 = 256 from rfl, Nat.mul_comm] at h
  rw [← h]

theorem num_t (n : Int) (w : World) :
    Calls Tryd.prog 11 #[.int .i64 n] w fun e w' => e = .returned (.int .u64 ((2 * n + 1) % 18446744073709551616)) ∧ w = w' := by
  go_enter Tryd.func11, Tryd.ntmps11
  go_wp2
  go_ret
  refine ⟨?_, rfl⟩
  show Ending.returned (Value.int .u64 (bits .or .u64 (IntKind.u64.wrap (IntKind.u64.wrap n * 2)) 1)) = _
  rw [num_or n]

theorem n_t (x : Nat) (w : World) (hx : x < 18446744073709551616) :
    Calls Tryd.prog 66 #[.int .u64 (x : Int)] w fun e w' => e = .returned (.int .i64 (wrap64 (x : Int) / 2)) ∧ w = w' := by
  have hx' : (x : Int) ≤ 18446744073709551615 := by omega
  go_enter Tryd.func66, Tryd.ntmps66
  go_wp2
  go_ret
  refine ⟨?_, rfl⟩
  show Ending.returned (Value.int .i64 (wrap64 (x : Int) / 2)) = _
  rfl

theorem isnum_t (x : Nat) (w : World) (hx : x < 18446744073709551616) :
    Calls Tryd.prog 56 #[.int .u64 (x : Int)] w fun e w' => e = .returned (.bool (x % 2 == 1)) ∧ w = w' := by
  have hx' : (x : Int) ≤ 18446744073709551615 := by omega
  go_enter Tryd.func56, Tryd.ntmps56
  go_wp2
  go_ret
  refine ⟨?_, rfl⟩
  show Ending.returned (Value.bool (bits .and .u64 (x : Int) 1 == 1)) = _
  rw [and_one x hx]

theorem head_t (k n : Nat) (w : World) (hk : k < 256) (hx : n < 36028797018963968) :
    Calls Tryd.prog 36 #[.int .u8 (k : Int), .int .i64 (n : Int)] w fun e w' => e = .returned (.int .u64 ((n * 256 + k : Nat) : Int)) ∧ w = w' := by
  have hx' : (n : Int) ≤ 36028797018963967 := by omega
  have hk' : (k : Int) ≤ 255 := by omega
  go_enter Tryd.func36, Tryd.ntmps36
  go_wp2
  go_ret
  refine ⟨?_, rfl⟩
  show Ending.returned (Value.int .u64 (bits .or .u64 ((n : Int) * 256) (k : Int))) = _
  rw [head_or n k hx hk]

theorem kind_t (x : Nat) (w : World) (hx : x < 18446744073709551616) :
    Calls Tryd.prog 18 #[.int .u64 (x : Int)] w fun e w' => e = .returned (.int .u8 ((x % 256 : Nat) : Int)) ∧ w = w' := by
  have hx' : (x : Int) ≤ 18446744073709551615 := by omega
  go_enter Tryd.func18, Tryd.ntmps18
  go_wp2
  go_ret
  exact ⟨rfl, rfl⟩

theorem size_t (x : Nat) (w : World) (hx : x < 18446744073709551616) :
    Calls Tryd.prog 19 #[.int .u64 (x : Int)] w fun e w' => e = .returned (.int .i64 ((x / 256 : Nat) : Int)) ∧ w = w' := by
  have hx' : (x : Int) ≤ 18446744073709551615 := by omega
  go_enter Tryd.func19, Tryd.ntmps19
  go_wp2
  go_ret
  exact ⟨rfl, rfl⟩
end Go.Proofs.YteenlckpjncgoaaDoor

namespace Go.Proofs.YteenlckpjncgoaaDoor
open Go.RowKit

/-- How many words an object takes. -/
def need (k n : Nat) : Nat := if k = 3 then 1 + (n + 7) / 8 else 1 + n

theorem need_text (n : Nat) (w : World) (hn : n ≤ 140737488355328) :
    Calls Tryd.prog 22 #[.int .u8 3, .int .i64 (n : Int)] w fun e w' => e = .returned (.int .i64 ((need 3 n : Nat) : Int)) ∧ w = w' := by
  have hn' : (n : Int) ≤ 140737488355328 := by omega
  have e : (1 : Int) + (n : Int) / 8 + ((n : Int) % 8 + 8 - 1) / 8 = ((need 3 n : Nat) : Int) := by
    show _ = ((1 + (n + 7) / 8 : Nat) : Int)
    omega
  have E := Lib.hid e
  clear e
  have hm : max (n : Int) 0 = (n : Int) := by omega
  go_enter Tryd.func22, Tryd.ntmps22
  go_wp2
  go_ret
  exact ⟨congrArg (fun i => Ending.returned (.int .i64 i)) E.out, rfl⟩

theorem need_parts (k n : Nat) (w : World) (hn : n ≤ 140737488355328) (h3 : k ≠ 3) :
    Calls Tryd.prog 22 #[.int .u8 (k : Int), .int .i64 (n : Int)] w fun e w' => e = .returned (.int .i64 ((need k n : Nat) : Int)) ∧ w = w' := by
  have hn' : (n : Int) ≤ 140737488355328 := by omega
  have e : (1 : Int) + (n : Int) = ((need k n : Nat) : Int) := by
    unfold need; rw [if_neg h3]; omega
  have E := Lib.hid e
  clear e
  have hm : max (n : Int) 0 = (n : Int) := by omega
  have h1 : ((k : Int) != 3) = true := by rw [bne_iff_ne]; omega
  have h2 : ((k : Int) == 3) = false := by rw [beq_eq_false_iff_ne]; omega
  clear h3
  go_enter Tryd.func22, Tryd.ntmps22
  go_wp2
  go_ret
  exact ⟨congrArg (fun i => Ending.returned (.int .i64 i)) E.out, rfl⟩

/-- Is a kind one of the six? -/
def isK (k : Nat) : Bool := decide (1 ≤ k ∧ k ≤ 6)

theorem iskind_t (k : Nat) (w : World) (hk : k < 256) :
    Calls Tryd.prog 33 #[.int .u8 (k : Int)] w fun e w' => e = .returned (.bool (isK k)) ∧ w = w' := by
  have hk' : (k : Int) ≤ 255 := by omega
  by_cases h : 1 ≤ k ∧ k ≤ 6
  · have E := Lib.hid (show isK k = true by simp [isK]; omega)
    have h1 : ¬ (k : Int) < 1 := by omega
    have h6 : (k : Int) ≤ 6 := by omega
    have h1n : 1 ≤ k := h.1
    have h6n : k ≤ 6 := h.2
    clear h
    go_enter Tryd.func33, Tryd.ntmps33
    go_wp2
    all_goals
      go_ret
      exact ⟨by rw [E.out]; simp, rfl⟩
  · have E := Lib.hid (show isK k = false by simp [isK]; omega)
    have H := Lib.hid h
    clear h
    go_enter Tryd.func33, Tryd.ntmps33
    go_wp2
    all_goals
      go_ret
      have h := H.out
      exact ⟨by rw [E.out]; first | (simp; done) | (simp; omega), rfl⟩
end Go.Proofs.YteenlckpjncgoaaDoor

namespace Go.Proofs.YteenlckpjncgoaaDoor
open Go.RowKit

/-- A heap in block b: so many words it may have, how often it was collected, its words, which of them are the first of an object. -/
structure HAt (w : World) (b base : Nat) (q c : Nat) (v1 v2 : Value) (W : List Nat) (F : List Bool) : Prop where
  cell : w.heap[b]? = some (.cells #[.int .i64 (q : Int), .int .i64 (c : Int), v1, v2] 81 (0, 0))
  own1 : OwnW w base v1 W
  own2 : OwnF w base v2 F

/-- The heap's blocks. -/
def three (b : Nat) (v1 v2 : Value) : Nat → Prop := fun k => k = b ∨ v1.ownBlock = some k ∨ v2.ownBlock = some k

theorem HAt.lt {w : World} {b base q c : Nat} {v1 v2 : Value} {W : List Nat} {F : List Bool} (h : HAt w b base q c v1 v2 W F) : b < w.heap.size := lt_of_block h.cell
theorem HAt.ne1 {w : World} {b base q c : Nat} {v1 v2 : Value} {W : List Nat} {F : List Bool} (h : HAt w b base q c v1 v2 W F) : v1.ownBlock ≠ some b := by
  intro e
  rcases h.own1.2 with ⟨rfl, _⟩ | ⟨g, cap, cur, rfl, _, hg, _⟩
  · simp [Value.ownBlock] at e
  · simp only [Value.ownBlock, Option.some.injEq] at e
    subst e
    have h1 := h.cell
    rw [hg] at h1
    injection h1 with h1
    injection h1 with _ h2
    exact absurd h2 (by decide)
theorem HAt.ne2 {w : World} {b base q c : Nat} {v1 v2 : Value} {W : List Nat} {F : List Bool} (h : HAt w b base q c v1 v2 W F) : v2.ownBlock ≠ some b := by
  intro e
  rcases h.own2.2 with ⟨rfl, _⟩ | ⟨g, cap, cur, rfl, _, hg, _⟩
  · simp [Value.ownBlock] at e
  · simp only [Value.ownBlock, Option.some.injEq] at e
    subst e
    have h1 := h.cell
    rw [hg] at h1
    injection h1 with h1
    injection h1 with _ h2
    exact absurd h2 (by decide)
theorem HAt.ne12 {w : World} {b base q c : Nat} {v1 v2 : Value} {W : List Nat} {F : List Bool} (h : HAt w b base q c v1 v2 W F) (k : Nat) (h1 : v1.ownBlock = some k) (h2 : v2.ownBlock = some k) : False := by
  rcases h.own1.2 with ⟨rfl, _⟩ | ⟨g, cap, cur, rfl, _, hg, _⟩
  · simp [Value.ownBlock] at h1
  · rcases h.own2.2 with ⟨rfl, _⟩ | ⟨g', cap', cur', rfl, _, hg', _⟩
    · simp [Value.ownBlock] at h2
    · simp only [Value.ownBlock, Option.some.injEq] at h1 h2
      subst h1; subst h2
      rw [hg] at hg'
      injection hg' with hg'
      injection hg' with _ h2
      exact absurd h2 (by decide)
theorem HAt.own_lt {w : World} {b base q c : Nat} {v1 v2 : Value} {W : List Nat} {F : List Bool} (h : HAt w b base q c v1 v2 W F) (k : Nat) (hk : three b v1 v2 k) : k < w.heap.size := by
  rcases hk with rfl | hk | hk
  · exact h.lt
  · exact (h.own1.lt k hk).2
  · exact (h.own2.lt k hk).2
theorem HAt.kept {S : Nat → Prop} {w w' : World} {b base q c : Nat} {v1 v2 : Value} {W : List Nat} {F : List Bool} (h : HAt w b base q c v1 v2 W F) (hk : Kept S w w') (hS : ∀ k, three b v1 v2 k → ¬ S k) : HAt w' b base q c v1 v2 W F :=
  ⟨(hk.block b h.lt (hS b (.inl rfl))).trans h.cell, own_kept h.own1 hk fun k hk => hS k (.inr (.inl hk)), own_kept h.own2 hk fun k hk => hS k (.inr (.inr hk))⟩
theorem HAt.below {w w' : World} {b base q c n : Nat} {v1 v2 : Value} {W : List Nat} {F : List Bool} (h : HAt w b base q c v1 v2 W F) (hb : Below n w w') (hn : w.heap.size ≤ n) : HAt w' b base q c v1 v2 W F :=
  h.kept (S := fun k => n ≤ k) (Below.kept hb fun _ h _ => h) fun k hk hs => by have := h.own_lt k hk; omega
theorem HAt.drew {w : World} {b base q c : Nat} {v1 v2 : Value} {W : List Nat} {F : List Bool} (h : HAt w b base q c v1 v2 W F) : HAt w.drew b base q c v1 v2 W F := ⟨h.cell, h.own1, h.own2⟩
/-- The heap's four cells. -/
theorem HAt.cells {w : World} {b base q c : Nat} {v1 v2 : Value} {W : List Nat} {F : List Bool} (h : HAt w b base q c v1 v2 W F) :
    w.cell? ⟨b, 0, none⟩ = some (.int .i64 (q : Int)) ∧ w.cell? ⟨b, 1, none⟩ = some (.int .i64 (c : Int)) ∧ w.cell? ⟨b, 2, none⟩ = some v1 ∧ w.cell? ⟨b, 3, none⟩ = some v2 := by
  have e := fun j => cell_of_row w b j _ _ (0, 0) h.cell
  exact ⟨(e 0).trans rfl, (e 1).trans rfl, (e 2).trans rfl, (e 3).trans rfl⟩
theorem HAt.free {w : World} {b base q c : Nat} {v1 v2 : Value} {W : List Nat} {F : List Bool} (h : HAt w b base q c v1 v2 W F) (j : Nat) : w.frozen? ⟨b, j, none⟩ = false := frozen_of_row w b j _ _ h.cell

def emptyHeap (q : Nat) : Obj := .cells #[.int .i64 (q : Int), .int .i64 0, .slice none 0 0, .slice none 0 0] 81
theorem HAt.fresh (w : World) (q : Nat) : HAt (w.alloc (emptyHeap q)) w.heap.size w.heap.size q 0 (.slice none 0 0) (.slice none 0 0) [] [] :=
  ⟨heap_alloc_new w _, World.ownsRow_nil _ _ _ _, World.ownsRow_nil _ _ _ _⟩

set_option maxHeartbeats 1000000 in
theorem new_ok (q : Nat) (w : World) (h1 : 1 ≤ q) (h2 : q ≤ 1048576) :
    Calls Tryd.prog 21 #[.int .i64 (q : Int)] w fun e w' => e = .returned (.tuple #[.pointer (some ⟨w.heap.size, 0, none⟩), .int .i64 0]) ∧ w' = w.alloc (emptyHeap q) := by
  have h1' : ¬ (q : Int) < 1 := by omega
  have h2' : ¬ (q : Int) > 1048576 := by omega
  go_enter Tryd.func21, Tryd.ntmps21
  go_wp2
  go_ret2
  exact ⟨rfl, rfl⟩

set_option maxHeartbeats 1000000 in
theorem new_no (n : Int) (w : World) (h : n < 1 ∨ 1048576 < n) :
    Calls Tryd.prog 21 #[.int .i64 n] w fun e w' => e = .returned (.tuple #[.pointer none, .int .i64 1]) ∧ w = w' := by
  rcases h with h | h
  · go_enter Tryd.func21, Tryd.ntmps21
    go_wp2
    go_ret2
    exact ⟨rfl, rfl⟩
  · have h1 : ¬ n < 1 := by omega
    go_enter Tryd.func21, Tryd.ntmps21
    go_wp2
    go_ret2
    exact ⟨rfl, rfl⟩

theorem used_t (b base q c : Nat) (v1 v2 : Value) (W : List Nat) (F : List Bool) (w : World) (h : HAt w b base q c v1 v2 W F) :
    Calls Tryd.prog 80 #[.pointer (some ⟨b, 0, none⟩)] w fun e w' => e = .returned (.int .i64 (W.length : Int)) ∧ w = w' := by
  obtain ⟨c0, c1, c2, c3⟩ := h.cells
  obtain ⟨o, k, rfl, _⟩ := own_slice h.own1
  clear h
  go_enter Tryd.func80, Tryd.ntmps80
  go_wp2
  go_ret
  exact ⟨rfl, rfl⟩
theorem quota_t (b base q c : Nat) (v1 v2 : Value) (W : List Nat) (F : List Bool) (w : World) (h : HAt w b base q c v1 v2 W F) :
    Calls Tryd.prog 79 #[.pointer (some ⟨b, 0, none⟩)] w fun e w' => e = .returned (.int .i64 (q : Int)) ∧ w = w' := by
  obtain ⟨c0, c1, c2, c3⟩ := h.cells
  clear h
  go_enter Tryd.func79, Tryd.ntmps79
  go_wp2
  go_ret
  exact ⟨rfl, rfl⟩
theorem nil_used (w : World) : Calls Tryd.prog 80 #[.pointer none] w fun e w' => e = .returned (.int .i64 0) ∧ w = w' := by
  go_enter Tryd.func80, Tryd.ntmps80
  go_wp2
  go_ret
  exact ⟨rfl, rfl⟩
theorem nil_quota (w : World) : Calls Tryd.prog 79 #[.pointer none] w fun e w' => e = .returned (.int .i64 0) ∧ w = w' := by
  go_enter Tryd.func79, Tryd.ntmps79
  go_wp2
  go_ret
  exact ⟨rfl, rfl⟩
theorem nil_isobject (x : Int) (w : World) : Calls Tryd.prog 32 #[.pointer none, .int .u64 x] w fun e w' => e = .returned (.bool false) ∧ w = w' := by
  go_enter Tryd.func32, Tryd.ntmps32
  go_wp2
  go_ret
  exact ⟨rfl, rfl⟩
theorem nil_object (x : Int) (w : World) : Calls Tryd.prog 17 #[.pointer none, .int .u64 x] w fun e w' => e = .returned (.slice none 0 0) ∧ w = w' := by
  go_enter Tryd.func17, Tryd.ntmps17
  go_wp2_with fail
  refine (nil_isobject _ _).mono ?_
  rintro e w' ⟨rfl, rfl⟩
  go_wp2
  go_ret
  exact ⟨rfl, rfl⟩
theorem nil_kind (x : Int) (w : World) : Calls Tryd.prog 65 #[.pointer none, .int .u64 x] w fun e w' => e = .returned (.int .u8 0) ∧ w = w' := by
  go_enter Tryd.func65, Tryd.ntmps65
  go_wp2_with fail
  refine (nil_object _ _).mono ?_
  rintro e w' ⟨rfl, rfl⟩
  go_wp2
  go_ret
  exact ⟨rfl, rfl⟩
theorem nil_len (x : Int) (w : World) : Calls Tryd.prog 67 #[.pointer none, .int .u64 x] w fun e w' => e = .returned (.int .i64 0) ∧ w = w' := by
  go_enter Tryd.func67, Tryd.ntmps67
  go_wp2_with fail
  refine (nil_object _ _).mono ?_
  rintro e w' ⟨rfl, rfl⟩
  go_wp2
  go_ret
  exact ⟨rfl, rfl⟩
theorem nil_parts (x : Int) (w : World) : Calls Tryd.prog 82 #[.pointer none, .int .u64 x] w fun e w' => e = .returned (.slice none 0 0) ∧ w = w' := by
  go_enter Tryd.func82, Tryd.ntmps82
  go_wp2_with fail
  refine (nil_object _ _).mono ?_
  rintro e w' ⟨rfl, rfl⟩
  go_wp2
  go_ret
  exact ⟨rfl, rfl⟩
theorem nil_text (x : Int) (w : World) : Calls Tryd.prog 10 #[.pointer none, .int .u64 x] w fun e w' => e = .returned (.string ⟨#[]⟩) ∧ w = w' := by
  go_enter Tryd.func10, Tryd.ntmps10
  go_wp2_with fail
  refine (nil_object _ _).mono ?_
  rintro e w' ⟨rfl, rfl⟩
  go_wp2
  go_ret
  exact ⟨rfl, rfl⟩
theorem nil_part (x : Int) (w : World) : Calls Tryd.prog 63 #[.pointer none, .int .u64 x, .int .i64 0] w fun e w' => e = .returned (.tuple #[.int .u64 0, .int .i64 1]) ∧ w = w' := by
  go_enter Tryd.func63, Tryd.ntmps63
  go_wp2_with fail
  refine (nil_parts _ _).mono ?_
  rintro e w' ⟨rfl, rfl⟩
  go_wp2
  go_ret2
  exact ⟨rfl, rfl⟩
theorem nil_setpart (x y : Int) (w : World) : Calls Tryd.prog 70 #[.pointer none, .int .u64 x, .int .i64 0, .int .u64 y] w fun e w' => e = .returned (.int .i64 1) ∧ w = w' := by
  go_enter Tryd.func70, Tryd.ntmps70
  go_wp2_with fail
  refine (nil_parts _ _).mono ?_
  rintro e w' ⟨rfl, rfl⟩
  go_wp2
  go_ret
  exact ⟨rfl, rfl⟩
theorem nil_collect (w : World) : Calls Tryd.prog 57 #[.pointer none, .slice none 0 0] w fun e w' => e = .returned (.tuple #[]) ∧ w = w' := by
  go_enter Tryd.func57, Tryd.ntmps57
  go_wp2
  refine bodyPost_ret (results_none rfl _ _ _) rfl ?_
  exact ⟨rfl, rfl⟩
theorem nil_put (w : World) : Calls Tryd.prog 23 #[.pointer none, .int .u8 1, .slice none 0 0, .slice none 0 0] w fun e w' => e = .returned (.tuple #[.int .u64 0, .int .i64 6]) ∧ w = w' := by
  go_enter Tryd.func23, Tryd.ntmps23
  go_wp2
  go_ret2
  exact ⟨rfl, rfl⟩
theorem nil_puttext (w : World) : Calls Tryd.prog 61 #[.pointer none, .string ⟨#[]⟩, .slice none 0 0] w fun e w' => e = .returned (.tuple #[.int .u64 0, .int .i64 6]) ∧ w = w' := by
  go_enter Tryd.func61, Tryd.ntmps61
  go_wp2
  go_ret2
  exact ⟨rfl, rfl⟩
theorem nil_copy (w : World) : Calls Tryd.prog 27 #[.pointer none] w fun e w' => e = .returned (.pointer none) ∧ w = w' := by
  go_enter Tryd.func27, Tryd.ntmps27
  go_wp2
  go_ret
  exact ⟨rfl, rfl⟩
end Go.Proofs.YteenlckpjncgoaaDoor

namespace Go.Proofs.YteenlckpjncgoaaDoor
open Go.RowKit

/-- What a call that writes a heap leaves. -/
structure LPost (w w' : World) (b base q c : Nat) (v1 v2 v1' v2' : Value) (W' : List Nat) (F' : List Bool) : Prop where
  at_ : HAt w' b base q c v1' v2' W' F'
  new : ∀ k, three b v1' v2' k → three b v1 v2 k ∨ w.heap.size ≤ k
  kept : Kept (three b v1 v2) w w'

theorem setCell_two {w : World} {b : Nat} {x0 x1 x2 x3 u : Value} {t : TypeId} (h : w.heap[b]? = some (.cells #[x0, x1, x2, x3] t (0, 0))) : (w.setCell ⟨b, 2, none⟩ u).heap[b]? = some (.cells #[x0, x1, u, x3] t (0, 0)) := heap_setCell_same w b 2 _ t u h
theorem setCell_three {w : World} {b : Nat} {x0 x1 x2 x3 u : Value} {t : TypeId} (h : w.heap[b]? = some (.cells #[x0, x1, x2, x3] t (0, 0))) : (w.setCell ⟨b, 3, none⟩ u).heap[b]? = some (.cells #[x0, x1, x2, u] t (0, 0)) := heap_setCell_same w b 3 _ t u h
theorem setCell_one {w : World} {b : Nat} {x0 x1 x2 x3 u : Value} {t : TypeId} (h : w.heap[b]? = some (.cells #[x0, x1, x2, x3] t (0, 0))) : (w.setCell ⟨b, 1, none⟩ u).heap[b]? = some (.cells #[x0, u, x2, x3] t (0, 0)) := heap_setCell_same w b 1 _ t u h

theorem RdV.lit (w : World) (u : Value) (t : TypeId) : RdV (w.alloc (.cells #[u] t)) (.slice (some ⟨w.heap.size, 0, none⟩) 1 1) [u] :=
  .inr ⟨_, _, rfl, Nat.le_refl _, by unfold maxLen; omega, fun j x hx => by
    rw [add_none, Nat.zero_add, cell_of_row _ w.heap.size j _ _ (0, 0) (heap_alloc_new w _)]
    simpa using hx⟩

/-- What lay leaves. -/
def LayPost (w w' : World) (b base q c : Nat) (v1 v2 : Value) (W : List Nat) (F : List Bool) (hd : Nat) (R : List Nat) (e : Ending) : Prop :=
  e = .returned (.int .u64 ((2 * W.length : Nat) : Int)) ∧
      ∃ v1' v2', LPost w w' b base q c v1 v2 v1' v2' (W ++ hd :: R) (F ++ true :: List.replicate R.length false) ∧
        (∀ g cap, v1 = .slice (some ⟨g, 0, none⟩) W.length cap → W.length + (R.length + 1) ≤ cap → v1' = .slice (some ⟨g, 0, none⟩) (W.length + (R.length + 1)) cap)

set_option maxHeartbeats 4000000 in
set_option maxRecDepth 100000 in
theorem lay_t (b base q c : Nat) (v1 v2 : Value) (W : List Nat) (F : List Bool) (hd : Nat) (s : Value) (R : List Nat) (w : World) (h : HAt w b base q c v1 v2 W F) (hbase : base ≤ w.heap.size)
    (hsk : ∀ w', Kept (three b v1 v2) w w' → RdW w' s R) (hl : W.length + R.length ≤ 1000000000) (hF : F.length ≤ W.length) :
    Calls Tryd.prog 35 #[.pointer (some ⟨b, 0, none⟩), .int .u64 (hd : Int), s] w fun e w' => LayPost w w' b base q c v1 v2 W F hd R e := by
  obtain ⟨c0, c1, c2, c3⟩ := h.cells
  have hlt := h.lt
  have hs0 := hsk w (Kept.refl _ _)
  obtain ⟨o, k, rfl⟩ : ∃ o k, s = .slice o R.length k := by
    rcases hs0 with ⟨rfl, hr⟩ | ⟨a, k, rfl, _⟩
    · have : R = [] := by simpa [Ws] using hr
      subst this
      exact ⟨_, _, rfl⟩
    · exact ⟨some a, k, by rw [Ws_length]⟩
  obtain ⟨o1, k1, hv1, hk1, hm1⟩ := own_slice h.own1
  obtain ⟨o2, k2, hv2, _⟩ := own_slice h.own2
  -- the head behind the words
  obtain ⟨u1, w1, r1, ow1, g1, a1⟩ := append_one (ty := 54) (t := 54) wordInfo Tryd.underlying54 rfl (h.own1.alloc (.cells #[.int .u64 (hd : Int)] 25)) (RdV.lit w (.int .u64 (hd : Int)) 25) (by intro u hu; simp at hu; subst hu; rfl) (by simp; omega) (by simp; omega) (by simp; omega)
  have k1' : Kept (three b v1 v2) w w1 := ((Kept.refl _ w).alloc _).grown g1 (fun j hj => .inl (.inr (.inl hj)))
  simp only [List.length_singleton] at ow1
  -- the rest
  obtain ⟨u2, w2, r2, ow2, g2, a2⟩ := append_one (ty := 54) (t := 54) wordInfo Tryd.underlying54 rfl ow1 (hsk w1 k1') (Ws_one R) (by rw [Ws_length]; omega) (by rw [Ws_length]; omega) (by have := k1'.size; omega)
  obtain ⟨p2, d2, hu2, _⟩ := own_slice ow2
  have n1 : ∀ j, u1.ownBlock = some j → v1.ownBlock = some j ∨ w.heap.size ≤ j := by
    intro j hj
    rcases a1 with a1 | a1
    · exact .inl (by rw [← a1]; exact hj)
    · rw [a1] at hj; injection hj with hj; right; rw [← hj]; simp
  have n2 : ∀ j, u2.ownBlock = some j → v1.ownBlock = some j ∨ w.heap.size ≤ j := by
    intro j hj
    rcases a2 with a2 | a2
    · exact n1 j (by rw [← a2]; exact hj)
    · rw [a2] at hj; injection hj with hj; have := k1'.size; right; omega
  have k2' : Kept (three b v1 v2) w w2 := k1'.grown g2 (fun j hj => (n1 j hj).imp (fun e => .inr (.inl e)) id)
  have hB2 : w2.heap[b]? = some (.cells #[.int .i64 (q : Int), .int .i64 (c : Int), v1, v2] 81 (0, 0)) := by
    have e1 : w1.heap[b]? = w.heap[b]? := by
      rw [g1.block b (by simp; omega) (Ne.symm h.ne1)]
      exact Below.heap_alloc _ _ _ hlt
    rw [g2.block b (by have := k1'.size; omega) (by
      intro e
      rcases n1 b e.symm with e | e
      · exact h.ne1 e
      · omega), e1]
    exact h.cell
  have hbu2 : u2.ownBlock ≠ some b := fun e => (n2 b e).elim h.ne1 (by omega)
  have hB3 := setCell_two (u := u2) hB2
  have own2' : (w2.setCell ⟨b, 2, none⟩ u2).ownsRow base 4 1 v2 F.length (Fs F) := by
    refine ownsRow_setCell_other (own_kept (S := fun j => v1.ownBlock = some j ∨ w.heap.size ≤ j) h.own2 ⟨k2'.os, k2'.tape, k2'.output, k2'.size, fun j hj hs => ?_⟩ ?_) h.ne2 _
    · rw [g2.block j (by have := k1'.size; omega) (fun e => hs (n1 j e.symm)), g1.block j (by simp; omega) (fun e => hs (.inl e.symm))]
      exact Below.heap_alloc _ _ _ hj
    · intro j hj hs
      rcases hs with hs | hs
      · exact h.ne12 j hs hj
      · have := (h.own2.lt j hj).2; omega
  have own1' : (w2.setCell ⟨b, 2, none⟩ u2).ownsRow base 25 1 u2 (W ++ hd :: R).length (Ws (W ++ hd :: R)) := by
    have e : (W ++ hd :: R).length = W.length + 1 + (Ws R).length := by simp [Ws_length]; omega
    rw [e, show Ws (W ++ hd :: R) = Ws W ++ [.int .u64 (hd : Int)] ++ Ws R by simp [Ws, Wv]]
    exact ownsRow_setCell_other ow2 hbu2 _
  have kS : Kept (three b v1 v2) w (w2.setCell ⟨b, 2, none⟩ u2) := k2'.setCell (.inl (.inl rfl)) _
  have sS : (w2.setCell ⟨b, 2, none⟩ u2).heap.size = w2.heap.size := by simp
  -- the marks
  obtain ⟨u3, w3, r3, ow3, g3, a3⟩ := append_one (ty := 79) (t := 79) boolInfo Tryd.underlying79 rfl (own2'.alloc (.cells #[.bool true] 4)) (RdV.lit _ (.bool true) 4) (by intro u hu; simp at hu; subst hu; rfl) (by simp; omega) (by simp; omega) (by have := k2'.size; simp; omega)
  simp only [List.length_singleton] at ow3
  rw [sS] at r3
  have k3' : Kept (three b v1 v2) w w3 := (kS.alloc _).grown g3 (fun j hj => .inl (.inr (.inr hj)))
  obtain ⟨u4, w4, r4, ow4, g4, a4⟩ := append_zeros (ty := 79) (t := 79) (tn := 3) (k := R.length) boolInfo Tryd.underlying79 Tryd.underlying3 rfl rfl ow3 (by omega) (by omega) (by omega) (by have := k3'.size; omega)
  obtain ⟨p4, d4, hu4, _⟩ := own_slice ow4
  have n3 : ∀ j, u3.ownBlock = some j → v2.ownBlock = some j ∨ w2.heap.size ≤ j := by
    intro j hj
    rcases a3 with a3 | a3
    · exact .inl (by rw [← a3]; exact hj)
    · rw [a3] at hj; injection hj with hj; right; rw [← hj]; simp
  have n4 : ∀ j, u4.ownBlock = some j → v2.ownBlock = some j ∨ w2.heap.size ≤ j := by
    intro j hj
    rcases a4 with a4 | a4
    · exact n3 j (by rw [← a4]; exact hj)
    · rw [a4] at hj; injection hj with hj; right; have := g3.size; simp at this; omega
  have s2 := k2'.size
  have k4' : Kept (three b v1 v2) w w4 := k3'.grown g4 (fun j hj => (n3 j hj).elim (fun e => .inl (.inr (.inr e))) (fun e => .inr (by omega)))
  have far : ∀ j, j < w2.heap.size → v2.ownBlock ≠ some j → w4.heap[j]? = (w2.setCell ⟨b, 2, none⟩ u2).heap[j]? := by
    intro j hj hn
    rw [g4.block j (by have := g3.size; simp at this; omega) (fun e => (n3 j e.symm).elim hn (by omega)), g3.block j (by simp; omega) (fun e => hn e.symm)]
    exact Below.heap_alloc _ _ _ (by simp; omega)
  have hB4 : w4.heap[b]? = some (.cells #[.int .i64 (q : Int), .int .i64 (c : Int), u2, v2] 81 (0, 0)) := (far b (by omega) h.ne2).trans hB3
  have hbu4 : u4.ownBlock ≠ some b := fun e => (n4 b e).elim h.ne2 (by omega)
  have hB5 := setCell_three (u := u4) hB4
  have lt2 : ∀ j, u2.ownBlock = some j → j < w2.heap.size := fun j hj => by have := (own1'.lt j hj).2; simpa using this
  have ne24 : ∀ j, u2.ownBlock = some j → v2.ownBlock ≠ some j := fun j hj e => (n2 j hj).elim (fun e1 => h.ne12 j e1 e) (fun e1 => by have := (h.own2.lt j e).2; omega)
  have fin : LPost w (w4.setCell ⟨b, 3, none⟩ u4) b base q c v1 v2 u2 u4 (W ++ hd :: R) (F ++ true :: List.replicate R.length false) := by
    refine ⟨⟨hB5, ?_, ?_⟩, ?_, k4'.setCell (.inl (.inl rfl)) _⟩
    · refine ownsRow_setCell_other ⟨own1'.1, ?_⟩ hbu2 _
      rcases own1'.2 with e | ⟨g, cap, cur, e, hb, hg, rest⟩
      · exact .inl e
      · subst e
        exact .inr ⟨g, cap, cur, rfl, hb, (far g (lt2 g rfl) (ne24 g rfl)).trans hg, rest⟩
    · have e : (F ++ true :: List.replicate R.length false).length = F.length + 1 + R.length := by simp; omega
      unfold OwnF
      rw [e, show Fs (F ++ true :: List.replicate R.length false) = Fs F ++ [.bool true] ++ List.replicate R.length (.bool false) by simp [Fs]]
      exact ownsRow_setCell_other ow4 hbu4 _
    · intro j hj
      rcases hj with rfl | hj | hj
      · exact .inl (.inl rfl)
      · exact (n2 j hj).elim (fun e => .inl (.inr (.inl e))) .inr
      · exact (n4 j hj).elim (fun e => .inl (.inr (.inr e))) (fun e => .inr (by omega))
  have room : ∀ g cap, v1 = .slice (some ⟨g, 0, none⟩) W.length cap → W.length + (R.length + 1) ≤ cap → u2 = .slice (some ⟨g, 0, none⟩) (W.length + (R.length + 1)) cap := by
    intro g cap hg hc
    subst hg
    have e1 := append_fits wordInfo Tryd.underlying54 (h.own1.alloc (.cells #[.int .u64 (hd : Int)] 25)) (RdV.lit w (.int .u64 (hd : Int)) 25) (by intro u hu; simp at hu; subst hu; rfl) (by simp; omega) r1
    simp only [List.length_singleton] at e1
    subst e1
    have e2 := append_fits wordInfo Tryd.underlying54 ow1 (hsk w1 k1') (Ws_one R) (by rw [Ws_length]; omega) r2
    rw [e2, Ws_length, Nat.add_assoc, Nat.add_comm 1]
  have FIN := Lib.hid (And.intro fin room)
  have t2 := (cell_of_row w2 b 2 _ _ (0, 0) hB2)
  have f2 : w2.frozen? ⟨b, 2, none⟩ = false := frozen_of_row w2 b 2 _ _ hB2
  have t3 := (cell_of_row _ b 3 _ _ (0, 0) hB3)
  have t4 := (cell_of_row w4 b 3 _ _ (0, 0) hB4)
  have f4 : w4.frozen? ⟨b, 3, none⟩ = false := frozen_of_row w4 b 3 _ _ hB4
  have R1 := Lib.hid r1
  have R2 := Lib.hid r2
  have R3 := Lib.hid r3
  have R4 := Lib.hid r4
  have eL : IntKind.i64.wrap (2 * (W.length : Int)) = 2 * (W.length : Int) := IntWalk.i64_in _ (by omega)
  have hWl : (W.length : Int) ≤ 1000000000 := by omega
  have HV1 := Lib.hid hv1
  have HV2 := Lib.hid hv2
  have HU2 := Lib.hid hu2
  have HU4 := Lib.hid hu4
  clear fin room r1 r2 r3 r4 ow1 ow2 ow3 ow4 own1' own2' hB2 hB3 hB4 hB5 n1 n2 n3 n4 far lt2 ne24 a1 a2 a3 a4 g1 g2 g3 g4 k1' k2' k3' k4' kS hsk hs0 eL
  clear hv1 hv2 hu2 hu4
  obtain rfl := HV1.out
  obtain rfl := HV2.out
  obtain rfl := HU2.out
  obtain rfl := HU4.out
  simp only [List.getElem?_toArray, List.getElem?_cons_succ, List.getElem?_cons_zero] at t2 t3 t4
  go_enter Tryd.func35, Tryd.ntmps35
  go_wp2_with (at_builtin; first
    | refine wpList_append_known rfl (.tmp 19) (.tmp 21) 54 54 (by rfl) _ _ _ (by rfl) (by rfl) R1.out ?_
    | refine wpList_append_known rfl (.tmp 22) (.tmp 23) 54 54 (by rfl) _ _ _ (by rfl) (by rfl) R2.out ?_
    | refine wpList_append_known rfl (.tmp 31) (.tmp 32) 79 79 (by rfl) _ _ _ (by rfl) (by rfl) R3.out ?_
    | refine wpList_append_known rfl (.tmp 33) (.tmp 35) 79 3 (by rfl) _ _ _ (by rfl) (by rfl) R4.out ?_)
  go_ret
  exact ⟨by first | rfl | (congr 2; omega), _, _, FIN.out.1, FIN.out.2⟩
end Go.Proofs.YteenlckpjncgoaaDoor
