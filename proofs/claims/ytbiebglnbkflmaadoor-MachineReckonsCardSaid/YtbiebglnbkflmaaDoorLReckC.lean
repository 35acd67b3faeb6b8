/- MachineReckons: any two numbers, and how they compare. -/
import Derived.Test.YtbiebglnbkflmaaDoorLReckA
namespace Go.Proofs.YtbiebglnbkflmaaDoor
open Go.RowKit HeaM Ma

set_option maxHeartbeats 4000000 in
set_option maxRecDepth 100000 in
theorem reckons_5 (a b sg : Int) (w : World) (ha1 : -9223372036854775808 ≤ a) (ha2 : a ≤ 9223372036854775807) (hb1 : -9223372036854775808 ≤ b) (hb2 : b ≤ 9223372036854775807) (hs0 : 0 ≤ sg) (hs1 : sg ≤ 255) (hs : sg % 9 = 5) :
    Calls Tryd.prog 3 #[.int .i64 a, .int .i64 b, .int .u8 sg] w fun e w' => e = .returned (.bool true) ∧ Below w.heap.size w w' := by
  have HA := Lib.hid (lcut_t a · ha1 ha2)
  have HB := Lib.hid (lcut_t b · hb1 hb2)
  obtain ⟨hx1, hx2⟩ := cut_rep a
  obtain ⟨hy1, hy2⟩ := cut_rep b
  have HAW := Lib.hid fun w => lawake w
  have hcx := cut_id hx1 hx2
  have hcy := cut_id hy1 hy2
  generalize cut a = x at *
  generalize cut b = y at *
  by_cases hc : x = y
  · subst hc
    have hr := evRn x x 5 1 5 4 hcx hcy (by simp [operate, truth, ok, push, stR, st0, start])
    obtain ⟨R, hR⟩ : ∃ R : Int, ((V.num (1)).word : Int) = R := ⟨_, rfl⟩
    have hR' : R = 3 := by rw [← hR]; decide
    subst hR'
    have HR := Lib.hid fun w => lrunR' (E := 0) (R := 3) (Fu := 4) (ra := ⟨#[]⟩) (ou := ⟨#[]⟩) x x 5 5 w (by omega) (by omega) (by omega) hr rfl hR rfl rfl rfl
    have HNU : Hid (∀ w : World, Calls Tryd.prog 12 #[.int .i64 1] w fun e w' => e = .returned (.int .u64 3) ∧ w = w') := fun w => num_t 1 w
    clear hr hcx hcy
    go_enter Tryd.func3, Tryd.ntmps3
    go_wp2_with fail
    refine (HAW.out _).mono ?_
    rintro e w1 ⟨rfl, hb1'⟩
    have HB1 := Lib.hid hb1'
    clear hb1'
    go_wp2_with fail
    refine (HA.out _).mono ?_
    rintro e w' ⟨rfl, rfl⟩
    go_wp2_with fail
    refine (HB.out _).mono ?_
    rintro e w' ⟨rfl, rfl⟩
    go_wp2_with fail
    refine (HR.out w1).mono ?_
    rintro e w2 ⟨o, n, c, M, rfl, hb2'⟩
    have HB2 := Lib.hid (HB1.out.trans (hb2'.mono HB1.out.size))
    clear hb2' HR HA HB HAW
    go_wp2_with fail
    have hba := (Below.refl w2.heap.size w2).alloc (Nat.le_refl _) (.cells #[.int .i64 0, .int .u64 3, .string ⟨#[]⟩, .string ⟨#[]⟩, .slice o n c, .int .i64 4] 29)
    have hblk := heap_alloc_new w2 (.cells #[.int .i64 0, .int .u64 3, .string ⟨#[]⟩, .string ⟨#[]⟩, .slice o n c, .int .i64 4] 29)
    have HB3 := Lib.hid (HB2.out.trans (hba.mono HB2.out.size))
    have cc := fun j => cell_of_row _ w2.heap.size j _ _ (0, 0) hblk
    have t0 := (cc 0).trans rfl
    have t1 := (cc 1).trans rfl
    have t2 := (cc 2).trans rfl
    have t5 := (cc 5).trans rfl
    clear cc hba hblk
    generalize (w2.alloc (.cells #[.int .i64 0, .int .u64 3, .string ⟨#[]⟩, .string ⟨#[]⟩, .slice o n c, .int .i64 4] 29)) = w3 at *
    go_quiet (first
      | (go_at_call 12; exact Calls.quiet_of_same ((HNU.out _).mono fun _ _ h => ⟨h.1, h.2.symm⟩)))
    have HB4 : Hid (Below w.heap.size w (w3.drewN nq)) := HB3.out.trans (below_drewN _ _ _)
    generalize w3.drewN nq = w4 at *
    go_wp2
    go_ret
    exact ⟨rfl, HB4.out⟩
  · have hcz : (x == y) = false := by rw [beq_eq_false_iff_ne]; exact hc
    have hcn : (x != y) = true := by rw [bne_iff_ne]; exact hc
    have hr := evRn x y 5 0 5 4 hcx hcy (by simp [operate, truth, ok, push, stR, st0, start, hc])
    obtain ⟨R, hR⟩ : ∃ R : Int, ((V.num (0)).word : Int) = R := ⟨_, rfl⟩
    have hR' : R = 1 := by rw [← hR]; decide
    subst hR'
    have HR := Lib.hid fun w => lrunR' (E := 0) (R := 1) (Fu := 4) (ra := ⟨#[]⟩) (ou := ⟨#[]⟩) x y 5 5 w (by omega) (by omega) (by omega) hr rfl hR rfl rfl rfl
    have HNU : Hid (∀ w : World, Calls Tryd.prog 12 #[.int .i64 0] w fun e w' => e = .returned (.int .u64 1) ∧ w = w') := fun w => num_t 0 w
    clear hr hcx hcy
    go_enter Tryd.func3, Tryd.ntmps3
    go_wp2_with fail
    refine (HAW.out _).mono ?_
    rintro e w1 ⟨rfl, hb1'⟩
    have HB1 := Lib.hid hb1'
    clear hb1'
    go_wp2_with fail
    refine (HA.out _).mono ?_
    rintro e w' ⟨rfl, rfl⟩
    go_wp2_with fail
    refine (HB.out _).mono ?_
    rintro e w' ⟨rfl, rfl⟩
    go_wp2_with fail
    refine (HR.out w1).mono ?_
    rintro e w2 ⟨o, n, c, M, rfl, hb2'⟩
    have HB2 := Lib.hid (HB1.out.trans (hb2'.mono HB1.out.size))
    clear hb2' HR HA HB HAW
    go_wp2_with fail
    have hba := (Below.refl w2.heap.size w2).alloc (Nat.le_refl _) (.cells #[.int .i64 0, .int .u64 1, .string ⟨#[]⟩, .string ⟨#[]⟩, .slice o n c, .int .i64 4] 29)
    have hblk := heap_alloc_new w2 (.cells #[.int .i64 0, .int .u64 1, .string ⟨#[]⟩, .string ⟨#[]⟩, .slice o n c, .int .i64 4] 29)
    have HB3 := Lib.hid (HB2.out.trans (hba.mono HB2.out.size))
    have cc := fun j => cell_of_row _ w2.heap.size j _ _ (0, 0) hblk
    have t0 := (cc 0).trans rfl
    have t1 := (cc 1).trans rfl
    have t2 := (cc 2).trans rfl
    have t5 := (cc 5).trans rfl
    clear cc hba hblk
    generalize (w2.alloc (.cells #[.int .i64 0, .int .u64 1, .string ⟨#[]⟩, .string ⟨#[]⟩, .slice o n c, .int .i64 4] 29)) = w3 at *
    go_quiet (first
      | (go_at_call 12; exact Calls.quiet_of_same ((HNU.out _).mono fun _ _ h => ⟨h.1, h.2.symm⟩)))
    have HB4 : Hid (Below w.heap.size w (w3.drewN nq)) := HB3.out.trans (below_drewN _ _ _)
    generalize w3.drewN nq = w4 at *
    go_wp2
    go_ret
    exact ⟨rfl, HB4.out⟩
set_option maxHeartbeats 4000000 in
set_option maxRecDepth 100000 in
theorem reckons_6 (a b sg : Int) (w : World) (ha1 : -9223372036854775808 ≤ a) (ha2 : a ≤ 9223372036854775807) (hb1 : -9223372036854775808 ≤ b) (hb2 : b ≤ 9223372036854775807) (hs0 : 0 ≤ sg) (hs1 : sg ≤ 255) (hs : sg % 9 = 6) :
    Calls Tryd.prog 3 #[.int .i64 a, .int .i64 b, .int .u8 sg] w fun e w' => e = .returned (.bool true) ∧ Below w.heap.size w w' := by
  have HA := Lib.hid (lcut_t a · ha1 ha2)
  have HB := Lib.hid (lcut_t b · hb1 hb2)
  obtain ⟨hx1, hx2⟩ := cut_rep a
  obtain ⟨hy1, hy2⟩ := cut_rep b
  have HAW := Lib.hid fun w => lawake w
  have hcx := cut_id hx1 hx2
  have hcy := cut_id hy1 hy2
  generalize cut a = x at *
  generalize cut b = y at *
  by_cases hc : x = y
  · subst hc
    have hr := evRn x x 6 0 5 4 hcx hcy (by simp [operate, truth, ok, push, stR, st0, start])
    obtain ⟨R, hR⟩ : ∃ R : Int, ((V.num (0)).word : Int) = R := ⟨_, rfl⟩
    have hR' : R = 1 := by rw [← hR]; decide
    subst hR'
    have HR := Lib.hid fun w => lrunR' (E := 0) (R := 1) (Fu := 4) (ra := ⟨#[]⟩) (ou := ⟨#[]⟩) x x 6 5 w (by omega) (by omega) (by omega) hr rfl hR rfl rfl rfl
    have HNU : Hid (∀ w : World, Calls Tryd.prog 12 #[.int .i64 0] w fun e w' => e = .returned (.int .u64 1) ∧ w = w') := fun w => num_t 0 w
    clear hr hcx hcy
    go_enter Tryd.func3, Tryd.ntmps3
    go_wp2_with fail
    refine (HAW.out _).mono ?_
    rintro e w1 ⟨rfl, hb1'⟩
    have HB1 := Lib.hid hb1'
    clear hb1'
    go_wp2_with fail
    refine (HA.out _).mono ?_
    rintro e w' ⟨rfl, rfl⟩
    go_wp2_with fail
    refine (HB.out _).mono ?_
    rintro e w' ⟨rfl, rfl⟩
    go_wp2_with fail
    refine (HR.out w1).mono ?_
    rintro e w2 ⟨o, n, c, M, rfl, hb2'⟩
    have HB2 := Lib.hid (HB1.out.trans (hb2'.mono HB1.out.size))
    clear hb2' HR HA HB HAW
    go_wp2_with fail
    have hba := (Below.refl w2.heap.size w2).alloc (Nat.le_refl _) (.cells #[.int .i64 0, .int .u64 1, .string ⟨#[]⟩, .string ⟨#[]⟩, .slice o n c, .int .i64 4] 29)
    have hblk := heap_alloc_new w2 (.cells #[.int .i64 0, .int .u64 1, .string ⟨#[]⟩, .string ⟨#[]⟩, .slice o n c, .int .i64 4] 29)
    have HB3 := Lib.hid (HB2.out.trans (hba.mono HB2.out.size))
    have cc := fun j => cell_of_row _ w2.heap.size j _ _ (0, 0) hblk
    have t0 := (cc 0).trans rfl
    have t1 := (cc 1).trans rfl
    have t2 := (cc 2).trans rfl
    have t5 := (cc 5).trans rfl
    clear cc hba hblk
    generalize (w2.alloc (.cells #[.int .i64 0, .int .u64 1, .string ⟨#[]⟩, .string ⟨#[]⟩, .slice o n c, .int .i64 4] 29)) = w3 at *
    go_quiet (first
      | (go_at_call 12; exact Calls.quiet_of_same ((HNU.out _).mono fun _ _ h => ⟨h.1, h.2.symm⟩)))
    have HB4 : Hid (Below w.heap.size w (w3.drewN nq)) := HB3.out.trans (below_drewN _ _ _)
    generalize w3.drewN nq = w4 at *
    go_wp2
    go_ret
    exact ⟨rfl, HB4.out⟩
  · have hcz : (x == y) = false := by rw [beq_eq_false_iff_ne]; exact hc
    have hcn : (x != y) = true := by rw [bne_iff_ne]; exact hc
    have hr := evRn x y 6 1 5 4 hcx hcy (by simp [operate, truth, ok, push, stR, st0, start, hc])
    obtain ⟨R, hR⟩ : ∃ R : Int, ((V.num (1)).word : Int) = R := ⟨_, rfl⟩
    have hR' : R = 3 := by rw [← hR]; decide
    subst hR'
    have HR := Lib.hid fun w => lrunR' (E := 0) (R := 3) (Fu := 4) (ra := ⟨#[]⟩) (ou := ⟨#[]⟩) x y 6 5 w (by omega) (by omega) (by omega) hr rfl hR rfl rfl rfl
    have HNU : Hid (∀ w : World, Calls Tryd.prog 12 #[.int .i64 1] w fun e w' => e = .returned (.int .u64 3) ∧ w = w') := fun w => num_t 1 w
    clear hr hcx hcy
    go_enter Tryd.func3, Tryd.ntmps3
    go_wp2_with fail
    refine (HAW.out _).mono ?_
    rintro e w1 ⟨rfl, hb1'⟩
    have HB1 := Lib.hid hb1'
    clear hb1'
    go_wp2_with fail
    refine (HA.out _).mono ?_
    rintro e w' ⟨rfl, rfl⟩
    go_wp2_with fail
    refine (HB.out _).mono ?_
    rintro e w' ⟨rfl, rfl⟩
    go_wp2_with fail
    refine (HR.out w1).mono ?_
    rintro e w2 ⟨o, n, c, M, rfl, hb2'⟩
    have HB2 := Lib.hid (HB1.out.trans (hb2'.mono HB1.out.size))
    clear hb2' HR HA HB HAW
    go_wp2_with fail
    have hba := (Below.refl w2.heap.size w2).alloc (Nat.le_refl _) (.cells #[.int .i64 0, .int .u64 3, .string ⟨#[]⟩, .string ⟨#[]⟩, .slice o n c, .int .i64 4] 29)
    have hblk := heap_alloc_new w2 (.cells #[.int .i64 0, .int .u64 3, .string ⟨#[]⟩, .string ⟨#[]⟩, .slice o n c, .int .i64 4] 29)
    have HB3 := Lib.hid (HB2.out.trans (hba.mono HB2.out.size))
    have cc := fun j => cell_of_row _ w2.heap.size j _ _ (0, 0) hblk
    have t0 := (cc 0).trans rfl
    have t1 := (cc 1).trans rfl
    have t2 := (cc 2).trans rfl
    have t5 := (cc 5).trans rfl
    clear cc hba hblk
    generalize (w2.alloc (.cells #[.int .i64 0, .int .u64 3, .string ⟨#[]⟩, .string ⟨#[]⟩, .slice o n c, .int .i64 4] 29)) = w3 at *
    go_quiet (first
      | (go_at_call 12; exact Calls.quiet_of_same ((HNU.out _).mono fun _ _ h => ⟨h.1, h.2.symm⟩)))
    have HB4 : Hid (Below w.heap.size w (w3.drewN nq)) := HB3.out.trans (below_drewN _ _ _)
    generalize w3.drewN nq = w4 at *
    go_wp2
    go_ret
    exact ⟨rfl, HB4.out⟩
set_option maxHeartbeats 4000000 in
set_option maxRecDepth 100000 in
theorem reckons_7 (a b sg : Int) (w : World) (ha1 : -9223372036854775808 ≤ a) (ha2 : a ≤ 9223372036854775807) (hb1 : -9223372036854775808 ≤ b) (hb2 : b ≤ 9223372036854775807) (hs0 : 0 ≤ sg) (hs1 : sg ≤ 255) (hs : sg % 9 = 7) :
    Calls Tryd.prog 3 #[.int .i64 a, .int .i64 b, .int .u8 sg] w fun e w' => e = .returned (.bool true) ∧ Below w.heap.size w w' := by
  have HA := Lib.hid (lcut_t a · ha1 ha2)
  have HB := Lib.hid (lcut_t b · hb1 hb2)
  obtain ⟨hx1, hx2⟩ := cut_rep a
  obtain ⟨hy1, hy2⟩ := cut_rep b
  have HAW := Lib.hid fun w => lawake w
  have hcx := cut_id hx1 hx2
  have hcy := cut_id hy1 hy2
  generalize cut a = x at *
  generalize cut b = y at *
  by_cases hc : x < y
  · have hct : decide (x < y) = true := decide_eq_true hc
    have hr := evRn x y 7 1 5 5 hcx hcy (by simp [operate, reckon, truth, ok, push, stR, st0, start, hc])
    obtain ⟨R, hR⟩ : ∃ R : Int, ((V.num (1)).word : Int) = R := ⟨_, rfl⟩
    have hR' : R = 3 := by rw [← hR]; decide
    subst hR'
    have HR := Lib.hid fun w => lrunR' (E := 0) (R := 3) (Fu := 5) (ra := ⟨#[]⟩) (ou := ⟨#[]⟩) x y 7 5 w (by omega) (by omega) (by omega) hr rfl hR rfl rfl rfl
    have HNU : Hid (∀ w : World, Calls Tryd.prog 12 #[.int .i64 1] w fun e w' => e = .returned (.int .u64 3) ∧ w = w') := fun w => num_t 1 w
    clear hr hcx hcy
    go_enter Tryd.func3, Tryd.ntmps3
    go_wp2_with fail
    refine (HAW.out _).mono ?_
    rintro e w1 ⟨rfl, hb1'⟩
    have HB1 := Lib.hid hb1'
    clear hb1'
    go_wp2_with fail
    refine (HA.out _).mono ?_
    rintro e w' ⟨rfl, rfl⟩
    go_wp2_with fail
    refine (HB.out _).mono ?_
    rintro e w' ⟨rfl, rfl⟩
    go_wp2_with fail
    refine (HR.out w1).mono ?_
    rintro e w2 ⟨o, n, c, M, rfl, hb2'⟩
    have HB2 := Lib.hid (HB1.out.trans (hb2'.mono HB1.out.size))
    clear hb2' HR HA HB HAW
    go_wp2_with fail
    have hba := (Below.refl w2.heap.size w2).alloc (Nat.le_refl _) (.cells #[.int .i64 0, .int .u64 3, .string ⟨#[]⟩, .string ⟨#[]⟩, .slice o n c, .int .i64 5] 29)
    have hblk := heap_alloc_new w2 (.cells #[.int .i64 0, .int .u64 3, .string ⟨#[]⟩, .string ⟨#[]⟩, .slice o n c, .int .i64 5] 29)
    have HB3 := Lib.hid (HB2.out.trans (hba.mono HB2.out.size))
    have cc := fun j => cell_of_row _ w2.heap.size j _ _ (0, 0) hblk
    have t0 := (cc 0).trans rfl
    have t1 := (cc 1).trans rfl
    have t2 := (cc 2).trans rfl
    have t5 := (cc 5).trans rfl
    clear cc hba hblk
    generalize (w2.alloc (.cells #[.int .i64 0, .int .u64 3, .string ⟨#[]⟩, .string ⟨#[]⟩, .slice o n c, .int .i64 5] 29)) = w3 at *
    go_quiet (first
      | (go_at_call 12; exact Calls.quiet_of_same ((HNU.out _).mono fun _ _ h => ⟨h.1, h.2.symm⟩)))
    have HB4 : Hid (Below w.heap.size w (w3.drewN nq)) := HB3.out.trans (below_drewN _ _ _)
    generalize w3.drewN nq = w4 at *
    go_wp2
    go_ret
    exact ⟨rfl, HB4.out⟩
  · have hcf : decide (x < y) = false := decide_eq_false hc
    have hr := evRn x y 7 0 5 5 hcx hcy (by simp [operate, reckon, truth, ok, push, stR, st0, start, hc])
    obtain ⟨R, hR⟩ : ∃ R : Int, ((V.num (0)).word : Int) = R := ⟨_, rfl⟩
    have hR' : R = 1 := by rw [← hR]; decide
    subst hR'
    have HR := Lib.hid fun w => lrunR' (E := 0) (R := 1) (Fu := 5) (ra := ⟨#[]⟩) (ou := ⟨#[]⟩) x y 7 5 w (by omega) (by omega) (by omega) hr rfl hR rfl rfl rfl
    have HNU : Hid (∀ w : World, Calls Tryd.prog 12 #[.int .i64 0] w fun e w' => e = .returned (.int .u64 1) ∧ w = w') := fun w => num_t 0 w
    clear hr hcx hcy
    go_enter Tryd.func3, Tryd.ntmps3
    go_wp2_with fail
    refine (HAW.out _).mono ?_
    rintro e w1 ⟨rfl, hb1'⟩
    have HB1 := Lib.hid hb1'
    clear hb1'
    go_wp2_with fail
    refine (HA.out _).mono ?_
    rintro e w' ⟨rfl, rfl⟩
    go_wp2_with fail
    refine (HB.out _).mono ?_
    rintro e w' ⟨rfl, rfl⟩
    go_wp2_with fail
    refine (HR.out w1).mono ?_
    rintro e w2 ⟨o, n, c, M, rfl, hb2'⟩
    have HB2 := Lib.hid (HB1.out.trans (hb2'.mono HB1.out.size))
    clear hb2' HR HA HB HAW
    go_wp2_with fail
    have hba := (Below.refl w2.heap.size w2).alloc (Nat.le_refl _) (.cells #[.int .i64 0, .int .u64 1, .string ⟨#[]⟩, .string ⟨#[]⟩, .slice o n c, .int .i64 5] 29)
    have hblk := heap_alloc_new w2 (.cells #[.int .i64 0, .int .u64 1, .string ⟨#[]⟩, .string ⟨#[]⟩, .slice o n c, .int .i64 5] 29)
    have HB3 := Lib.hid (HB2.out.trans (hba.mono HB2.out.size))
    have cc := fun j => cell_of_row _ w2.heap.size j _ _ (0, 0) hblk
    have t0 := (cc 0).trans rfl
    have t1 := (cc 1).trans rfl
    have t2 := (cc 2).trans rfl
    have t5 := (cc 5).trans rfl
    clear cc hba hblk
    generalize (w2.alloc (.cells #[.int .i64 0, .int .u64 1, .string ⟨#[]⟩, .string ⟨#[]⟩, .slice o n c, .int .i64 5] 29)) = w3 at *
    go_quiet (first
      | (go_at_call 12; exact Calls.quiet_of_same ((HNU.out _).mono fun _ _ h => ⟨h.1, h.2.symm⟩)))
    have HB4 : Hid (Below w.heap.size w (w3.drewN nq)) := HB3.out.trans (below_drewN _ _ _)
    generalize w3.drewN nq = w4 at *
    go_wp2
    go_ret
    exact ⟨rfl, HB4.out⟩
set_option maxHeartbeats 4000000 in
set_option maxRecDepth 100000 in
theorem reckons_8 (a b sg : Int) (w : World) (ha1 : -9223372036854775808 ≤ a) (ha2 : a ≤ 9223372036854775807) (hb1 : -9223372036854775808 ≤ b) (hb2 : b ≤ 9223372036854775807) (hs0 : 0 ≤ sg) (hs1 : sg ≤ 255) (hs : sg % 9 = 8) :
    Calls Tryd.prog 3 #[.int .i64 a, .int .i64 b, .int .u8 sg] w fun e w' => e = .returned (.bool true) ∧ Below w.heap.size w w' := by
  have HA := Lib.hid (lcut_t a · ha1 ha2)
  have HB := Lib.hid (lcut_t b · hb1 hb2)
  obtain ⟨hx1, hx2⟩ := cut_rep a
  obtain ⟨hy1, hy2⟩ := cut_rep b
  have HAW := Lib.hid fun w => lawake w
  have hcx := cut_id hx1 hx2
  have hcy := cut_id hy1 hy2
  generalize cut a = x at *
  generalize cut b = y at *
  by_cases hc : x ≤ y
  · have hct : decide (x ≤ y) = true := decide_eq_true hc
    have hr := evRn x y 8 1 5 5 hcx hcy (by simp [operate, reckon, truth, ok, push, stR, st0, start, hc])
    obtain ⟨R, hR⟩ : ∃ R : Int, ((V.num (1)).word : Int) = R := ⟨_, rfl⟩
    have hR' : R = 3 := by rw [← hR]; decide
    subst hR'
    have HR := Lib.hid fun w => lrunR' (E := 0) (R := 3) (Fu := 5) (ra := ⟨#[]⟩) (ou := ⟨#[]⟩) x y 8 5 w (by omega) (by omega) (by omega) hr rfl hR rfl rfl rfl
    have HNU : Hid (∀ w : World, Calls Tryd.prog 12 #[.int .i64 1] w fun e w' => e = .returned (.int .u64 3) ∧ w = w') := fun w => num_t 1 w
    clear hr hcx hcy
    go_enter Tryd.func3, Tryd.ntmps3
    go_wp2_with fail
    refine (HAW.out _).mono ?_
    rintro e w1 ⟨rfl, hb1'⟩
    have HB1 := Lib.hid hb1'
    clear hb1'
    go_wp2_with fail
    refine (HA.out _).mono ?_
    rintro e w' ⟨rfl, rfl⟩
    go_wp2_with fail
    refine (HB.out _).mono ?_
    rintro e w' ⟨rfl, rfl⟩
    go_wp2_with fail
    refine (HR.out w1).mono ?_
    rintro e w2 ⟨o, n, c, M, rfl, hb2'⟩
    have HB2 := Lib.hid (HB1.out.trans (hb2'.mono HB1.out.size))
    clear hb2' HR HA HB HAW
    go_wp2_with fail
    have hba := (Below.refl w2.heap.size w2).alloc (Nat.le_refl _) (.cells #[.int .i64 0, .int .u64 3, .string ⟨#[]⟩, .string ⟨#[]⟩, .slice o n c, .int .i64 5] 29)
    have hblk := heap_alloc_new w2 (.cells #[.int .i64 0, .int .u64 3, .string ⟨#[]⟩, .string ⟨#[]⟩, .slice o n c, .int .i64 5] 29)
    have HB3 := Lib.hid (HB2.out.trans (hba.mono HB2.out.size))
    have cc := fun j => cell_of_row _ w2.heap.size j _ _ (0, 0) hblk
    have t0 := (cc 0).trans rfl
    have t1 := (cc 1).trans rfl
    have t2 := (cc 2).trans rfl
    have t5 := (cc 5).trans rfl
    clear cc hba hblk
    generalize (w2.alloc (.cells #[.int .i64 0, .int .u64 3, .string ⟨#[]⟩, .string ⟨#[]⟩, .slice o n c, .int .i64 5] 29)) = w3 at *
    go_quiet (first
      | (go_at_call 12; exact Calls.quiet_of_same ((HNU.out _).mono fun _ _ h => ⟨h.1, h.2.symm⟩)))
    have HB4 : Hid (Below w.heap.size w (w3.drewN nq)) := HB3.out.trans (below_drewN _ _ _)
    generalize w3.drewN nq = w4 at *
    go_wp2
    go_ret
    exact ⟨rfl, HB4.out⟩
  · have hcf : decide (x ≤ y) = false := decide_eq_false hc
    have hr := evRn x y 8 0 5 5 hcx hcy (by simp [operate, reckon, truth, ok, push, stR, st0, start, hc])
    obtain ⟨R, hR⟩ : ∃ R : Int, ((V.num (0)).word : Int) = R := ⟨_, rfl⟩
    have hR' : R = 1 := by rw [← hR]; decide
    subst hR'
    have HR := Lib.hid fun w => lrunR' (E := 0) (R := 1) (Fu := 5) (ra := ⟨#[]⟩) (ou := ⟨#[]⟩) x y 8 5 w (by omega) (by omega) (by omega) hr rfl hR rfl rfl rfl
    have HNU : Hid (∀ w : World, Calls Tryd.prog 12 #[.int .i64 0] w fun e w' => e = .returned (.int .u64 1) ∧ w = w') := fun w => num_t 0 w
    clear hr hcx hcy
    go_enter Tryd.func3, Tryd.ntmps3
    go_wp2_with fail
    refine (HAW.out _).mono ?_
    rintro e w1 ⟨rfl, hb1'⟩
    have HB1 := Lib.hid hb1'
    clear hb1'
    go_wp2_with fail
    refine (HA.out _).mono ?_
    rintro e w' ⟨rfl, rfl⟩
    go_wp2_with fail
    refine (HB.out _).mono ?_
    rintro e w' ⟨rfl, rfl⟩
    go_wp2_with fail
    refine (HR.out w1).mono ?_
    rintro e w2 ⟨o, n, c, M, rfl, hb2'⟩
    have HB2 := Lib.hid (HB1.out.trans (hb2'.mono HB1.out.size))
    clear hb2' HR HA HB HAW
    go_wp2_with fail
    have hba := (Below.refl w2.heap.size w2).alloc (Nat.le_refl _) (.cells #[.int .i64 0, .int .u64 1, .string ⟨#[]⟩, .string ⟨#[]⟩, .slice o n c, .int .i64 5] 29)
    have hblk := heap_alloc_new w2 (.cells #[.int .i64 0, .int .u64 1, .string ⟨#[]⟩, .string ⟨#[]⟩, .slice o n c, .int .i64 5] 29)
    have HB3 := Lib.hid (HB2.out.trans (hba.mono HB2.out.size))
    have cc := fun j => cell_of_row _ w2.heap.size j _ _ (0, 0) hblk
    have t0 := (cc 0).trans rfl
    have t1 := (cc 1).trans rfl
    have t2 := (cc 2).trans rfl
    have t5 := (cc 5).trans rfl
    clear cc hba hblk
    generalize (w2.alloc (.cells #[.int .i64 0, .int .u64 1, .string ⟨#[]⟩, .string ⟨#[]⟩, .slice o n c, .int .i64 5] 29)) = w3 at *
    go_quiet (first
      | (go_at_call 12; exact Calls.quiet_of_same ((HNU.out _).mono fun _ _ h => ⟨h.1, h.2.symm⟩)))
    have HB4 : Hid (Below w.heap.size w (w3.drewN nq)) := HB3.out.trans (below_drewN _ _ _)
    generalize w3.drewN nq = w4 at *
    go_wp2
    go_ret
    exact ⟨rfl, HB4.out⟩
end Go.Proofs.YtbiebglnbkflmaaDoor
