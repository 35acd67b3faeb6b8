/- New, Arm, On, Ops, Restart; a nil drum. -/
import Derived.Test.YtonahfpnlaolpaaDruG
namespace Go.Proofs.Ytonahfpnlaolpaa
open Go.RowKit

def nilV : Nat → Value := fun _ => .slice none 0 0
/-- A new drum. -/
def new (n most : Nat) : Dr := ⟨n, most, fun _ => ⟨[], [], false⟩, false, 0, 0⟩

theorem trackInfo : (Try.prog.info? 86).map (fun i => (i.zero, i.size, i.bytes)) = some (some (.agg #[.slice none 0 0, .slice none 0 0, .bool false]), 3, 56) := by kernel_rfl

theorem madeT (n : Nat) (hn : n ≤ 8) (W : World) : (Instr.makeSlice 81 (.int .i64 (n : Int)) (.int .i64 (n : Int))).run Try.prog W = .ok (.slice (some ⟨W.heap.size, 0, none⟩) n n) (W.alloc (.cells (madeCells #[.slice none 0 0, .slice none 0 0, .bool false] (n * 3)) 86)) := by
  obtain ⟨i0, hi0, hz0, hz1, hz2⟩ := info_parts trackInfo
  have h := run_make (P := Try.prog) W 81 86 i0 _ Try.underlying81 hi0 hz0 .i64 .i64 (n : Int) (n : Int) (by omega) (by omega) (by rw [hz2]; omega) (by omega)
  simp only [Int.toNat_natCast, hz1] at h
  exact h

theorem new_at (w : World) (n most : Nat) (hn : n ≤ 8) (hm : most ≤ 1048576) :
    DAt ((w.alloc (.cells (madeCells #[.slice none 0 0, .slice none 0 0, .bool false] (n * 3)) 86)).alloc (.cells #[.int .i64 (most : Int), .slice (some ⟨w.heap.size, 0, none⟩) n n, .bool false, .int .i64 0, .int .i64 0] 83))
      (Fr (fun _ => False) w ((w.alloc (.cells (madeCells #[.slice none 0 0, .slice none 0 0, .bool false] (n * 3)) 86)).alloc (.cells #[.int .i64 (most : Int), .slice (some ⟨w.heap.size, 0, none⟩) n n, .bool false, .int .i64 0, .int .i64 0] 83)))
      (w.heap.size + 1) w.heap.size nilV nilV (new n most) where
  cell := by
    have := heap_alloc_new (w.alloc (.cells (madeCells #[.slice none 0 0, .slice none 0 0, .bool false] (n * 3)) 86)) (.cells #[.int .i64 (most : Int), .slice (some ⟨w.heap.size, 0, none⟩) n n, .bool false, .int .i64 0, .int .i64 0] 83)
    rw [show (w.alloc (.cells (madeCells #[.slice none 0 0, .slice none 0 0, .bool false] (n * 3)) 86)).heap.size = w.heap.size + 1 by simp] at this
    exact this
  row := by
    refine World.rowIs.alloc ⟨_, heap_alloc_new _ _, ?_, fun i hi => ?_⟩ _
    · rw [size_madeCells]; rfl
    · have h3 : i % 3 = 0 ∨ i % 3 = 1 ∨ i % 3 = 2 := by omega
      have hi' : i < n * 3 := hi
      rcases h3 with h | h | h
      · simp [madeCells, hi', h, tc, nilV]
      · simp [madeCells, hi', h, tc, nilV]
      · simp [madeCells, hi', h, tc, new]
  tk i _ := ⟨World.ownsRow_nil _ _ _ _, World.ownsRow_nil _ _ _ _, fun _ => List.prefix_refl _, (fun h => by cases h)⟩
  mine i _ g hg := by rcases hg with hg | hg <;> cases hg
  alone i j _ _ _ g hg := by rcases hg with hg | hg <;> cases hg
  sD := .inr ⟨by omega, by simp⟩
  sT := .inr ⟨by omega, by simp; omega⟩
  ne := by omega
  lim := ⟨hn, hm, Nat.zero_le _⟩
  fit i _ := ⟨Nat.zero_le _, Nat.zero_le _⟩

/-- What New leaves. -/
def NewPost (w : World) (n most : Nat) (e : Ending) (w' : World) : Prop :=
  ∃ D T, e = .returned (.tuple #[.pointer (some ⟨D, 0, none⟩), .int .i64 0]) ∧ DAt w' (Fr (fun _ => False) w w') D T nilV nilV (new n most) ∧ Below w.heap.size w w' ∧ w.heap.size ≤ T

set_option maxHeartbeats 4000000 in
set_option maxRecDepth 100000 in
theorem new_any (n most : Nat) (w : World) (h1 : 1 ≤ n) (h2 : n ≤ 8) (h3 : 1 ≤ most) (h4 : most ≤ 1048576) :
    Calls Try.prog 28 #[.int .i64 (n : Int), .int .i64 (most : Int)] w (NewPost w n most) := by
  have a1 : (1 : Int) ≤ (n : Int) := by omega
  have a2 : (n : Int) ≤ 8 := by omega
  have a3 : (1 : Int) ≤ (most : Int) := by omega
  have a4 : (most : Int) ≤ 1048576 := by omega
  have hmk := madeT n h2
  have FIN : Hid (NewPost w n most (.returned (.tuple #[.pointer (some ⟨w.heap.size + 1, 0, none⟩), .int .i64 0])) ((w.alloc (.cells (madeCells #[.slice none 0 0, .slice none 0 0, .bool false] (n * 3)) 86)).alloc (.cells #[.int .i64 (most : Int), .slice (some ⟨w.heap.size, 0, none⟩) n n, .bool false, .int .i64 0, .int .i64 0] 83))) :=
    Lib.hid ⟨_, _, rfl, new_at w n most h2 h4, ((Below.refl _ w).alloc (Nat.le_refl _) _).alloc (by simp) _, Nat.le_refl _⟩
  clear h1 h2 h3 h4
  go_enter Try.func28, Try.ntmps28
  go_wp2
  go_ret2
  exact FIN.out

theorem arm_any (k : Nat) (w : World) {S : Nat → Prop} {D T : Nat} {vn vd : Nat → Value} {d : Dr} (h : DAt w S D T vn vd d) (hk : k ≤ 1000000) :
    Calls Try.prog 27 #[.pointer (some ⟨D, 0, none⟩), .int .i64 (k : Int)] w (CPost w S D T vn vd (0, { d with fuse := k })) := by
  obtain ⟨c0, c1, c2, c3, c4⟩ := h.cells
  have f4 := h.free 4
  have FIN : Hid (CPost w S D T vn vd (0, { d with fuse := k }) (.returned (.int .i64 0)) (w.setCell ⟨D, 4, none⟩ (.int .i64 (k : Int)))) :=
    Lib.hid ⟨rfl, h.head (heap_setCell_same _ _ _ _ _ _ h.cell) (fun g hg => heap_setCell_other _ _ _ _ hg) rfl rfl rfl (by show k ≤ _; omega), (Kept.refl (fun k => k = D) w).setCell (p := ⟨D, 4, none⟩) (.inl rfl) _⟩
  have k0 : (0 : Int) ≤ (k : Int) := by omega
  clear h hk c0 c1 c2 c3
  go_enter Try.func27, Try.ntmps27
  go_wp2
  go_ret
  exact FIN.out

/-- A nil drum. -/
theorem nil_read (i : Int) (w : World) : Calls Try.prog 42 #[.pointer none, .int .i64 i] w fun e w' => e = .returned (.tuple #[.slice none 0 0, .int .i64 6]) ∧ w = w' := by
  go_enter Try.func42, Try.ntmps42
  go_wp2_with fail
  refine (check_nil i w).mono ?_
  rintro e w' ⟨rfl, rfl⟩
  go_wp2_with fail
  go_ret2
  exact ⟨rfl, rfl⟩
theorem nil_append (i : Int) (x : Value) (w : World) : Calls Try.prog 17 #[.pointer none, .int .i64 i, x] w fun e w' => e = .returned (.int .i64 6) ∧ w = w' := by
  go_enter Try.func17, Try.ntmps17
  go_wp2_with fail
  refine (check_nil i w).mono ?_
  rintro e w' ⟨rfl, rfl⟩
  go_wp2_with fail
  go_ret
  exact ⟨rfl, rfl⟩
theorem nil_write (i : Int) (x : Value) (w : World) : Calls Try.prog 15 #[.pointer none, .int .i64 i, x] w fun e w' => e = .returned (.int .i64 6) ∧ w = w' := by
  go_enter Try.func15, Try.ntmps15
  go_wp2_with fail
  refine (check_nil i w).mono ?_
  rintro e w' ⟨rfl, rfl⟩
  go_wp2_with fail
  go_ret
  exact ⟨rfl, rfl⟩
theorem nil_sync (i : Int) (w : World) : Calls Try.prog 16 #[.pointer none, .int .i64 i] w fun e w' => e = .returned (.int .i64 6) ∧ w = w' := by
  go_enter Try.func16, Try.ntmps16
  go_wp2_with fail
  refine (check_nil i w).mono ?_
  rintro e w' ⟨rfl, rfl⟩
  go_wp2_with fail
  go_ret
  exact ⟨rfl, rfl⟩
theorem nil_arm (i : Int) (w : World) : Calls Try.prog 27 #[.pointer none, .int .i64 i] w fun e w' => e = .returned (.int .i64 6) ∧ w = w' := by
  go_enter Try.func27, Try.ntmps27
  go_wp2
  go_ret
  exact ⟨rfl, rfl⟩
theorem nil_restart (x : Value) (w : World) : Calls Try.prog 23 #[.pointer none, x] w fun e w' => e = .returned (.int .i64 6) ∧ w = w' := by
  go_enter Try.func23, Try.ntmps23
  go_wp2
  go_ret
  exact ⟨rfl, rfl⟩
theorem nil_tracks (w : World) : Calls Try.prog 41 #[.pointer none] w fun e w' => e = .returned (.int .i64 0) ∧ w = w' := by
  go_enter Try.func41, Try.ntmps41
  go_wp2
  go_ret
  exact ⟨rfl, rfl⟩
theorem nil_most (w : World) : Calls Try.prog 45 #[.pointer none] w fun e w' => e = .returned (.int .i64 0) ∧ w = w' := by
  go_enter Try.func45, Try.ntmps45
  go_wp2
  go_ret
  exact ⟨rfl, rfl⟩
end Go.Proofs.Ytonahfpnlaolpaa
