/- A heap in memory; New; the calls of a nil heap. -/
import Derived.Test.YtpmbdncackneoaaDoorHeaN
namespace Go.Proofs.YtpmbdncackneoaaDoor
open Go.RowKit

/-- A heap in block b: so many words it may have, how often it was collected, its words, which of them are the first of an object. -/
structure HAt (w : World) (b base : Nat) (q c : Nat) (v1 v2 : Value) (W : List Nat) (F : List Bool) : Prop where
  cell : w.heap[b]? = some (.cells #[.int .i64 (q : Int), .int .i64 (c : Int), v1, v2] 72 (0, 0))
  own1 : OwnW w base v1 W
  own2 : OwnF w base v2 F

/-- The heap's blocks. -/
def three (b : Nat) (v1 v2 : Value) : Nat → Prop := fun k => k = b ∨ v1.ownBlock = some k ∨ v2.ownBlock = some k

theorem HAt.lt {w : World} {b base q c : Nat} {v1 v2 : Value} {W : List Nat} {F : List Bool} (h : HAt w b base q c v1 v2 W F) : b < w.heap.size := lt_of_block h.cell
theorem HAt.ne1 {w : World} {b base q c : Nat} {v1 v2 : Value} {W : List Nat} {F : List Bool} (h : HAt w b base q c v1 v2 W F) : v1.ownBlock ≠ some b := by
  intro e
  rcases h.own1.2 with ⟨rfl, _⟩ | ⟨g, cap, cur, rfl, _, hg, _⟩
  · simp [Value.ownBlock] at e
  · simp only [Value.ownBlock, Option.some.injEq] at e
    subst e
    have h1 := h.cell
    rw [hg] at h1
    injection h1 with h1
    injection h1 with _ h2
    exact absurd h2 (by decide)
theorem HAt.ne2 {w : World} {b base q c : Nat} {v1 v2 : Value} {W : List Nat} {F : List Bool} (h : HAt w b base q c v1 v2 W F) : v2.ownBlock ≠ some b := by
  intro e
  rcases h.own2.2 with ⟨rfl, _⟩ | ⟨g, cap, cur, rfl, _, hg, _⟩
  · simp [Value.ownBlock] at e
  · simp only [Value.ownBlock, Option.some.injEq] at e
    subst e
    have h1 := h.cell
    rw [hg] at h1
    injection h1 with h1
    injection h1 with _ h2
    exact absurd h2 (by decide)
theorem HAt.ne12 {w : World} {b base q c : Nat} {v1 v2 : Value} {W : List Nat} {F : List Bool} (h : HAt w b base q c v1 v2 W F) (k : Nat) (h1 : v1.ownBlock = some k) (h2 : v2.ownBlock = some k) : False := by
  rcases h.own1.2 with ⟨rfl, _⟩ | ⟨g, cap, cur, rfl, _, hg, _⟩
  · simp [Value.ownBlock] at h1
  · rcases h.own2.2 with ⟨rfl, _⟩ | ⟨g', cap', cur', rfl, _, hg', _⟩
    · simp [Value.ownBlock] at h2
    · simp only [Value.ownBlock, Option.some.injEq] at h1 h2
      subst h1; subst h2
      rw [hg] at hg'
      injection hg' with hg'
      injection hg' with _ h2
      exact absurd h2 (by decide)
theorem HAt.own_lt {w : World} {b base q c : Nat} {v1 v2 : Value} {W : List Nat} {F : List Bool} (h : HAt w b base q c v1 v2 W F) (k : Nat) (hk : three b v1 v2 k) : k < w.heap.size := by
  rcases hk with rfl | hk | hk
  · exact h.lt
  · exact (h.own1.lt k hk).2
  · exact (h.own2.lt k hk).2
theorem HAt.kept {S : Nat → Prop} {w w' : World} {b base q c : Nat} {v1 v2 : Value} {W : List Nat} {F : List Bool} (h : HAt w b base q c v1 v2 W F) (hk : Kept S w w') (hS : ∀ k, three b v1 v2 k → ¬ S k) : HAt w' b base q c v1 v2 W F :=
  ⟨(hk.block b h.lt (hS b (.inl rfl))).trans h.cell, own_kept h.own1 hk fun k hk => hS k (.inr (.inl hk)), own_kept h.own2 hk fun k hk => hS k (.inr (.inr hk))⟩
theorem HAt.below {w w' : World} {b base q c n : Nat} {v1 v2 : Value} {W : List Nat} {F : List Bool} (h : HAt w b base q c v1 v2 W F) (hb : Below n w w') (hn : w.heap.size ≤ n) : HAt w' b base q c v1 v2 W F :=
  h.kept (S := fun k => n ≤ k) (Below.kept hb fun _ h _ => h) fun k hk hs => by have := h.own_lt k hk; omega
theorem HAt.drew {w : World} {b base q c : Nat} {v1 v2 : Value} {W : List Nat} {F : List Bool} (h : HAt w b base q c v1 v2 W F) : HAt w.drew b base q c v1 v2 W F := ⟨h.cell, h.own1, h.own2⟩
/-- The heap's four cells. -/
theorem HAt.cells {w : World} {b base q c : Nat} {v1 v2 : Value} {W : List Nat} {F : List Bool} (h : HAt w b base q c v1 v2 W F) :
    w.cell? ⟨b, 0, none⟩ = some (.int .i64 (q : Int)) ∧ w.cell? ⟨b, 1, none⟩ = some (.int .i64 (c : Int)) ∧ w.cell? ⟨b, 2, none⟩ = some v1 ∧ w.cell? ⟨b, 3, none⟩ = some v2 := by
  have e := fun j => cell_of_row w b j _ _ (0, 0) h.cell
  exact ⟨(e 0).trans rfl, (e 1).trans rfl, (e 2).trans rfl, (e 3).trans rfl⟩
theorem HAt.free {w : World} {b base q c : Nat} {v1 v2 : Value} {W : List Nat} {F : List Bool} (h : HAt w b base q c v1 v2 W F) (j : Nat) : w.frozen? ⟨b, j, none⟩ = false := frozen_of_row w b j _ _ h.cell

def emptyHeap (q : Nat) : Obj := .cells #[.int .i64 (q : Int), .int .i64 0, .slice none 0 0, .slice none 0 0] 72
theorem HAt.fresh (w : World) (q : Nat) : HAt (w.alloc (emptyHeap q)) w.heap.size w.heap.size q 0 (.slice none 0 0) (.slice none 0 0) [] [] :=
  ⟨heap_alloc_new w _, World.ownsRow_nil _ _ _ _, World.ownsRow_nil _ _ _ _⟩

set_option maxHeartbeats 1000000 in
theorem new_ok (q : Nat) (w : World) (h1 : 1 ≤ q) (h2 : q ≤ 1048576) :
    Calls Tryd.prog 11 #[.int .i64 (q : Int)] w fun e w' => e = .returned (.tuple #[.pointer (some ⟨w.heap.size, 0, none⟩), .int .i64 0]) ∧ w' = w.alloc (emptyHeap q) := by
  have h1' : ¬ (q : Int) < 1 := by omega
  have h2' : ¬ (q : Int) > 1048576 := by omega
  go_enter Tryd.func11, Tryd.ntmps11
  go_wp2
  go_ret2
  exact ⟨rfl, rfl⟩

set_option maxHeartbeats 1000000 in
theorem new_no (n : Int) (w : World) (h : n < 1 ∨ 1048576 < n) :
    Calls Tryd.prog 11 #[.int .i64 n] w fun e w' => e = .returned (.tuple #[.pointer none, .int .i64 1]) ∧ w = w' := by
  rcases h with h | h
  · go_enter Tryd.func11, Tryd.ntmps11
    go_wp2
    go_ret2
    exact ⟨rfl, rfl⟩
  · have h1 : ¬ n < 1 := by omega
    go_enter Tryd.func11, Tryd.ntmps11
    go_wp2
    go_ret2
    exact ⟨rfl, rfl⟩

theorem used_t (b base q c : Nat) (v1 v2 : Value) (W : List Nat) (F : List Bool) (w : World) (h : HAt w b base q c v1 v2 W F) :
    Calls Tryd.prog 70 #[.pointer (some ⟨b, 0, none⟩)] w fun e w' => e = .returned (.int .i64 (W.length : Int)) ∧ w = w' := by
  obtain ⟨c0, c1, c2, c3⟩ := h.cells
  obtain ⟨o, k, rfl, _⟩ := own_slice h.own1
  clear h
  go_enter Tryd.func70, Tryd.ntmps70
  go_wp2
  go_ret
  exact ⟨rfl, rfl⟩
theorem quota_t (b base q c : Nat) (v1 v2 : Value) (W : List Nat) (F : List Bool) (w : World) (h : HAt w b base q c v1 v2 W F) :
    Calls Tryd.prog 69 #[.pointer (some ⟨b, 0, none⟩)] w fun e w' => e = .returned (.int .i64 (q : Int)) ∧ w = w' := by
  obtain ⟨c0, c1, c2, c3⟩ := h.cells
  clear h
  go_enter Tryd.func69, Tryd.ntmps69
  go_wp2
  go_ret
  exact ⟨rfl, rfl⟩
theorem nil_used (w : World) : Calls Tryd.prog 70 #[.pointer none] w fun e w' => e = .returned (.int .i64 0) ∧ w = w' := by
  go_enter Tryd.func70, Tryd.ntmps70
  go_wp2
  go_ret
  exact ⟨rfl, rfl⟩
theorem nil_quota (w : World) : Calls Tryd.prog 69 #[.pointer none] w fun e w' => e = .returned (.int .i64 0) ∧ w = w' := by
  go_enter Tryd.func69, Tryd.ntmps69
  go_wp2
  go_ret
  exact ⟨rfl, rfl⟩
theorem nil_isobject (x : Int) (w : World) : Calls Tryd.prog 82 #[.pointer none, .int .u64 x] w fun e w' => e = .returned (.bool false) ∧ w = w' := by
  go_enter Tryd.func82, Tryd.ntmps82
  go_wp2
  go_ret
  exact ⟨rfl, rfl⟩
theorem nil_object (x : Int) (w : World) : Calls Tryd.prog 73 #[.pointer none, .int .u64 x] w fun e w' => e = .returned (.slice none 0 0) ∧ w = w' := by
  go_enter Tryd.func73, Tryd.ntmps73
  go_wp2_with fail
  refine (nil_isobject _ _).mono ?_
  rintro e w' ⟨rfl, rfl⟩
  go_wp2
  go_ret
  exact ⟨rfl, rfl⟩
theorem nil_kind (x : Int) (w : World) : Calls Tryd.prog 54 #[.pointer none, .int .u64 x] w fun e w' => e = .returned (.int .u8 0) ∧ w = w' := by
  go_enter Tryd.func54, Tryd.ntmps54
  go_wp2_with fail
  refine (nil_object _ _).mono ?_
  rintro e w' ⟨rfl, rfl⟩
  go_wp2
  go_ret
  exact ⟨rfl, rfl⟩
theorem nil_len (x : Int) (w : World) : Calls Tryd.prog 56 #[.pointer none, .int .u64 x] w fun e w' => e = .returned (.int .i64 0) ∧ w = w' := by
  go_enter Tryd.func56, Tryd.ntmps56
  go_wp2_with fail
  refine (nil_object _ _).mono ?_
  rintro e w' ⟨rfl, rfl⟩
  go_wp2
  go_ret
  exact ⟨rfl, rfl⟩
theorem nil_parts (x : Int) (w : World) : Calls Tryd.prog 72 #[.pointer none, .int .u64 x] w fun e w' => e = .returned (.slice none 0 0) ∧ w = w' := by
  go_enter Tryd.func72, Tryd.ntmps72
  go_wp2_with fail
  refine (nil_object _ _).mono ?_
  rintro e w' ⟨rfl, rfl⟩
  go_wp2
  go_ret
  exact ⟨rfl, rfl⟩
theorem nil_text (x : Int) (w : World) : Calls Tryd.prog 59 #[.pointer none, .int .u64 x] w fun e w' => e = .returned (.string ⟨#[]⟩) ∧ w = w' := by
  go_enter Tryd.func59, Tryd.ntmps59
  go_wp2_with fail
  refine (nil_object _ _).mono ?_
  rintro e w' ⟨rfl, rfl⟩
  go_wp2
  go_ret
  exact ⟨rfl, rfl⟩
theorem nil_part (x : Int) (w : World) : Calls Tryd.prog 51 #[.pointer none, .int .u64 x, .int .i64 0] w fun e w' => e = .returned (.tuple #[.int .u64 0, .int .i64 1]) ∧ w = w' := by
  go_enter Tryd.func51, Tryd.ntmps51
  go_wp2_with fail
  refine (nil_parts _ _).mono ?_
  rintro e w' ⟨rfl, rfl⟩
  go_wp2
  go_ret2
  exact ⟨rfl, rfl⟩
theorem nil_setpart (x y : Int) (w : World) : Calls Tryd.prog 60 #[.pointer none, .int .u64 x, .int .i64 0, .int .u64 y] w fun e w' => e = .returned (.int .i64 1) ∧ w = w' := by
  go_enter Tryd.func60, Tryd.ntmps60
  go_wp2_with fail
  refine (nil_parts _ _).mono ?_
  rintro e w' ⟨rfl, rfl⟩
  go_wp2
  go_ret
  exact ⟨rfl, rfl⟩
theorem nil_collect (w : World) : Calls Tryd.prog 45 #[.pointer none, .slice none 0 0] w fun e w' => e = .returned (.tuple #[]) ∧ w = w' := by
  go_enter Tryd.func45, Tryd.ntmps45
  go_wp2
  refine bodyPost_ret (results_none rfl _ _ _) rfl ?_
  exact ⟨rfl, rfl⟩
theorem nil_put (w : World) : Calls Tryd.prog 13 #[.pointer none, .int .u8 1, .slice none 0 0, .slice none 0 0] w fun e w' => e = .returned (.tuple #[.int .u64 0, .int .i64 6]) ∧ w = w' := by
  go_enter Tryd.func13, Tryd.ntmps13
  go_wp2
  go_ret2
  exact ⟨rfl, rfl⟩
theorem nil_puttext (w : World) : Calls Tryd.prog 49 #[.pointer none, .string ⟨#[]⟩, .slice none 0 0] w fun e w' => e = .returned (.tuple #[.int .u64 0, .int .i64 6]) ∧ w = w' := by
  go_enter Tryd.func49, Tryd.ntmps49
  go_wp2
  go_ret2
  exact ⟨rfl, rfl⟩
theorem nil_copy (w : World) : Calls Tryd.prog 17 #[.pointer none] w fun e w' => e = .returned (.pointer none) ∧ w = w' := by
  go_enter Tryd.func17, Tryd.ntmps17
  go_wp2
  go_ret
  exact ⟨rfl, rfl⟩
end Go.Proofs.YtpmbdncackneoaaDoor
