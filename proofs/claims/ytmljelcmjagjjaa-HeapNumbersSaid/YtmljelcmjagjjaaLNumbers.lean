/- HeapNumbers: the law's walk. -/
import Derived.Test.YtmljelcmjagjjaaHeaA
namespace Go.Proofs.Ytmljelcmjagjjaa
open Go.RowKit HeaM

theorem num_x (n : Int) : ∃ X : Nat, X < 18446744073709551616 ∧ Hid ((X : Int) = (2 * n + 1) % 18446744073709551616) ∧ ∀ w, Calls Try.prog 9 #[.int .i64 n] w fun e w' => e = .returned (.int .u64 (X : Int)) ∧ w = w' := by
  refine ⟨((2 * n + 1) % 18446744073709551616).toNat, by omega, ?_, fun w => ?_⟩
  · show _ = _
    omega
  · rw [show ((((2 * n + 1) % 18446744073709551616).toNat : Nat) : Int) = (2 * n + 1) % 18446744073709551616 by omega]
    exact num_t n w
theorem n_x (X : Nat) (hX : X < 18446744073709551616) : ∃ K : Int, Hid (K = wrap64 (X : Int) / 2) ∧ ∀ w, Calls Try.prog 10 #[.int .u64 (X : Int)] w fun e w' => e = .returned (.int .i64 K) ∧ w = w' :=
  ⟨_, (rfl : _ = _), fun w => n_t X w hX⟩
theorem isnum_x (X : Nat) (hX : X < 18446744073709551616) (h : Hid (X % 2 = 1)) (w : World) : Calls Try.prog 12 #[.int .u64 (X : Int)] w fun e w' => e = .returned (.bool true) ∧ w = w' := by
  have := isnum_t X w hX
  rw [h.out] at this
  exact this

theorem wrap64_eq (x : Int) : wrap64 x = (x + 9223372036854775808) % 18446744073709551616 - 9223372036854775808 := by
  unfold wrap64; rfl

/-- What the law asks, in the plain. -/
theorem num_in (n K : Int) (X : Nat) (h0 : -4611686018427387904 ≤ n) (h1 : n ≤ 4611686018427387903) (hX : (X : Int) = (2 * n + 1) % 18446744073709551616) (hK : K = wrap64 (X : Int) / 2) : K = n ∧ X % 2 = 1 := by
  rw [wrap64_eq] at hK
  omega
theorem num_odd (n : Int) (X : Nat) (hX : (X : Int) = (2 * n + 1) % 18446744073709551616) : X % 2 = 1 := by omega
theorem num_out (n K : Int) (X : Nat) (hX : (X : Int) = (2 * n + 1) % 18446744073709551616) (hK : K = wrap64 (X : Int) / 2) : IntKind.u64.wrap (IntKind.u64.wrap K * 2) = IntKind.u64.wrap (IntKind.u64.wrap n * 2) := by
  rw [wrap64_eq] at hK
  simp only [IntKind.wrap_u64]
  omega
theorem num_word (n : Int) (X : Nat) (hX : (X : Int) = (2 * n + 1) % 18446744073709551616) : (X : Int) = IntKind.u64.wrap (IntKind.u64.wrap (IntKind.u64.wrap n * 2) + 1) := by
  simp only [IntKind.wrap_u64]
  omega

set_option maxHeartbeats 2000000 in
set_option maxRecDepth 100000 in
theorem numbers_walk (n : Int) (w : World) (h0 : -9223372036854775808 ≤ n) (h1 : n ≤ 9223372036854775807) :
    Calls Try.prog 3 #[.int .i64 n] w fun e w' => e = .returned (.bool true) ∧ Below w.heap.size w w' := by
  obtain ⟨X, hX, HX, hnum⟩ := num_x n
  obtain ⟨K, HK, hN⟩ := n_x X hX
  have HO : Hid (X % 2 = 1) := num_odd n X HX.out
  have HI := Lib.hid (isnum_x X hX HO)
  have HNum := Lib.hid hnum
  have HN := Lib.hid hN
  have HL := Lib.hid hX
  clear hnum hN hX
  by_cases hin : -4611686018427387904 ≤ n ∧ n ≤ 4611686018427387903
  · obtain ⟨hn0, hn1⟩ := hin
    have HKn : Hid (K = n) := (num_in n K X hn0 hn1 HX.out HK.out).1
    have HW : Hid ((X : Int) = IntKind.u64.wrap (IntKind.u64.wrap (IntKind.u64.wrap n * 2) + 1)) := num_word n X HX.out
    have e1 : ¬ 4611686018427387903 < n := by omega
    have e2 : ¬ n < -4611686018427387904 := by omega
    go_enter Try.func3, Try.ntmps3
    go_wp2_with fail
    refine (HNum.out _).mono ?_
    rintro e w' ⟨rfl, rfl⟩
    go_wp2_with fail
    refine (awake _).mono ?_
    rintro e w1 ⟨rfl, hb1⟩
    go_wp2_with fail
    refine (HI.out _).mono ?_
    rintro e w' ⟨rfl, rfl⟩
    go_wp2_with fail
    refine (HN.out _).mono ?_
    rw [HKn.out]
    rintro e w' ⟨rfl, rfl⟩
    go_wp2_with fail
    go_ret
    exact ⟨by
      show Ending.returned (.bool ((X : Int) == IntKind.u64.wrap (IntKind.u64.wrap (IntKind.u64.wrap n * 2) + 1))) = _
      rw [← HW.out]
      simp, hb1⟩
  · have HU : Hid (IntKind.u64.wrap (IntKind.u64.wrap K * 2) = IntKind.u64.wrap (IntKind.u64.wrap n * 2)) := num_out n K X HX.out HK.out
    have HU2 : Hid (0 ≤ n → IntKind.u64.wrap (IntKind.u64.wrap K * 2) = n * 2) := fun h => by
      rw [HU.out]
      simp only [IntKind.wrap_u64]
      omega
    rcases (show 4611686018427387903 < n ∨ n < -4611686018427387904 by omega) with hn | hn
    all_goals
      clear hin
      go_enter Try.func3, Try.ntmps3
      go_wp2_with fail
      refine (HNum.out _).mono ?_
      rintro e w' ⟨rfl, rfl⟩
      go_wp2_with fail
      refine (HN.out _).mono ?_
      rintro e w' ⟨rfl, rfl⟩
      go_wp2_with fail
      refine (awake _).mono ?_
      rintro e w1 ⟨rfl, hb1⟩
      go_wp2_with fail
      refine (HI.out _).mono ?_
      rintro e w' ⟨rfl, rfl⟩
      go_wp2_with fail
      go_ret
      exact ⟨by
        first
        | (show Ending.returned (.bool (IntKind.u64.wrap (IntKind.u64.wrap K * 2) == IntKind.u64.wrap (IntKind.u64.wrap n * 2))) = _
           rw [HU.out]
           simp)
        | (show Ending.returned (.bool (IntKind.u64.wrap (IntKind.u64.wrap K * 2) == n * 2)) = _
           rw [HU2.out (by omega)]
           simp), hb1⟩
end Go.Proofs.Ytmljelcmjagjjaa
