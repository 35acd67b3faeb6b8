/- New, Arm, On, Ops, Restart; a nil drum. -/
import Derived.Test.YtdckcjcddibglaaDruG
namespace Go.Proofs.Ytdckcjcddibglaa
open Go.RowKit

def nilV : Nat → Value := fun _ => .slice none 0 0
/-- A new drum. -/
def new (n most : Nat) : Dr := ⟨n, most, fun _ => ⟨[], [], false⟩, false, 0, 0⟩

theorem trackInfo : (Try.prog.info? 67).map (fun i => (i.zero, i.size, i.bytes)) = some (some (.agg #[.slice none 0 0, .slice none 0 0, .bool false]), 3, 56) := by kernel_rfl

theorem madeT (n : Nat) (hn : n ≤ 8) (W : World) : (Instr.makeSlice 62 (.int .i64 (n : Int)) (.int .i64 (n : Int))).run Try.prog W = .ok (.slice (some ⟨W.heap.size, 0, none⟩) n n) (W.alloc (.cells (madeCells #[.slice none 0 0, .slice none 0 0, .bool false] (n * 3)) 67)) := by
  obtain ⟨i0, hi0, hz0, hz1, hz2⟩ := info_parts trackInfo
  have h := run_make (P := Try.prog) W 62 67 i0 _ Try.underlying62 hi0 hz0 .i64 .i64 (n : Int) (n : Int) (by omega) (by omega) (by rw [hz2]; omega) (by omega)
  simp only [Int.toNat_natCast, hz1] at h
  exact h

theorem new_at (w : World) (n most : Nat) (hn : n ≤ 8) (hm : most ≤ 1048576) :
    DAt ((w.alloc (.cells (madeCells #[.slice none 0 0, .slice none 0 0, .bool false] (n * 3)) 67)).alloc (.cells #[.int .i64 (most : Int), .slice (some ⟨w.heap.size, 0, none⟩) n n, .bool false, .int .i64 0, .int .i64 0] 64))
      (Fr (fun _ => False) w ((w.alloc (.cells (madeCells #[.slice none 0 0, .slice none 0 0, .bool false] (n * 3)) 67)).alloc (.cells #[.int .i64 (most : Int), .slice (some ⟨w.heap.size, 0, none⟩) n n, .bool false, .int .i64 0, .int .i64 0] 64)))
      (w.heap.size + 1) w.heap.size nilV nilV (new n most) where
  cell := by
    have := heap_alloc_new (w.alloc (.cells (madeCells #[.slice none 0 0, .slice none 0 0, .bool false] (n * 3)) 67)) (.cells #[.int .i64 (most : Int), .slice (some ⟨w.heap.size, 0, none⟩) n n, .bool false, .int .i64 0, .int .i64 0] 64)
    rw [show (w.alloc (.cells (madeCells #[.slice none 0 0, .slice none 0 0, .bool false] (n * 3)) 67)).heap.size = w.heap.size + 1 by simp] at this
    exact this
  row := by
    refine World.rowIs.alloc ⟨_, heap_alloc_new _ _, ?_, fun i hi => ?_⟩ _
    · rw [size_madeCells]; rfl
    · have h3 : i % 3 = 0 ∨ i % 3 = 1 ∨ i % 3 = 2 := by omega
      have hi' : i < n * 3 := hi
      rcases h3 with h | h | h
      · simp [madeCells, hi', h, tc, nilV]
      · simp [madeCells, hi', h, tc, nilV]
      · simp [madeCells, hi', h, tc, new]
  tk i _ := ⟨World.ownsRow_nil _ _ _ _, World.ownsRow_nil _ _ _ _, fun _ => List.prefix_refl _, (fun h => by cases h)⟩
  mine i _ g hg := by rcases hg with hg | hg <;> cases hg
  alone i j _ _ _ g hg := by rcases hg with hg | hg <;> cases hg
  sD := .inr ⟨by omega, by simp⟩
  sT := .inr ⟨by omega, by simp; omega⟩
  ne := by omega
  lim := ⟨hn, hm, Nat.zero_le _⟩
  fit i _ := ⟨Nat.zero_le _, Nat.zero_le _⟩

/-- What New leaves. -/
def NewPost (w : World) (n most : Nat) (e : Ending) (w' : World) : Prop :=
  ∃ D T, e = .returned (.tuple #[.pointer (some ⟨D, 0, none⟩), .int .i64 0]) ∧ DAt w' (Fr (fun _ => False) w w') D T nilV nilV (new n most) ∧ Below w.heap.size w w' ∧ w.heap.size ≤ T

set_option maxHeartbeats 4000000 in
set_option maxRecDepth 100000 in
theorem new_any (n most : Nat) (w : World) (h1 : 1 ≤ n) (h2 : n ≤ 8) (h3 : 1 ≤ most) (h4 : most ≤ 1048576) :
    Calls Try.prog 15 #[.int .i64 (n : Int), .int .i64 (most : Int)] w (NewPost w n most) := by
  have a1 : (1 : Int) ≤ (n : Int) := by omega
  have a2 : (n : Int) ≤ 8 := by omega
  have a3 : (1 : Int) ≤ (most : Int) := by omega
  have a4 : (most : Int) ≤ 1048576 := by omega
  have hmk := madeT n h2
  have FIN : Hid (NewPost w n most (.returned (.tuple #[.pointer (some ⟨w.heap.size + 1, 0, none⟩), .int .i64 0])) ((w.alloc (.cells (madeCells #[.slice none 0 0, .slice none 0 0, .bool false] (n * 3)) 67)).alloc (.cells #[.int .i64 (most : Int), .slice (some ⟨w.heap.size, 0, none⟩) n n, .bool false, .int .i64 0, .int .i64 0] 64))) :=
    Lib.hid ⟨_, _, rfl, new_at w n most h2 h4, ((Below.refl _ w).alloc (Nat.le_refl _) _).alloc (by simp) _, Nat.le_refl _⟩
  clear h1 h2 h3 h4
  go_enter Try.func15, Try.ntmps15
  go_wp2
  go_ret2
  exact FIN.out

/-- A nil drum. -/
theorem nil_read (i : Int) (w : World) : Calls Try.prog 29 #[.pointer none, .int .i64 i] w fun e w' => e = .returned (.tuple #[.slice none 0 0, .int .i64 6]) ∧ w = w' := by
  go_enter Try.func29, Try.ntmps29
  go_wp2_with fail
  refine (check_nil i w).mono ?_
  rintro e w' ⟨rfl, rfl⟩
  go_wp2_with fail
  go_ret2
  exact ⟨rfl, rfl⟩
theorem nil_append (i : Int) (x : Value) (w : World) : Calls Try.prog 13 #[.pointer none, .int .i64 i, x] w fun e w' => e = .returned (.int .i64 6) ∧ w = w' := by
  go_enter Try.func13, Try.ntmps13
  go_wp2_with fail
  refine (check_nil i w).mono ?_
  rintro e w' ⟨rfl, rfl⟩
  go_wp2_with fail
  go_ret
  exact ⟨rfl, rfl⟩
theorem nil_write (i : Int) (x : Value) (w : World) : Calls Try.prog 11 #[.pointer none, .int .i64 i, x] w fun e w' => e = .returned (.int .i64 6) ∧ w = w' := by
  go_enter Try.func11, Try.ntmps11
  go_wp2_with fail
  refine (check_nil i w).mono ?_
  rintro e w' ⟨rfl, rfl⟩
  go_wp2_with fail
  go_ret
  exact ⟨rfl, rfl⟩
theorem nil_sync (i : Int) (w : World) : Calls Try.prog 12 #[.pointer none, .int .i64 i] w fun e w' => e = .returned (.int .i64 6) ∧ w = w' := by
  go_enter Try.func12, Try.ntmps12
  go_wp2_with fail
  refine (check_nil i w).mono ?_
  rintro e w' ⟨rfl, rfl⟩
  go_wp2_with fail
  go_ret
  exact ⟨rfl, rfl⟩
theorem nil_tracks (w : World) : Calls Try.prog 28 #[.pointer none] w fun e w' => e = .returned (.int .i64 0) ∧ w = w' := by
  go_enter Try.func28, Try.ntmps28
  go_wp2
  go_ret
  exact ⟨rfl, rfl⟩
end Go.Proofs.Ytdckcjcddibglaa
