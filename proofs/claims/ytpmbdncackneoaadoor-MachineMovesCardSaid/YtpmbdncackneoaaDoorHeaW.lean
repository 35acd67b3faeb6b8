/- The words' own functions: Num, N, IsNum, head, kind, size, isKind, Need. -/
import Derived.Test.YtpmbdncackneoaaDoorHeaB
namespace Go.Proofs.YtpmbdncackneoaaDoor
open Go.RowKit

theorem num_or (n : Int) : bits .or .u64 (IntKind.u64.wrap (IntKind.u64.wrap n * 2)) 1 = (2 * n + 1) % 18446744073709551616 := by
  simp only [IntKind.wrap_u64]
  have e : n % 18446744073709551616 * 2 % 18446744073709551616 = ((2 * (n % 9223372036854775808).toNat : Nat) : Int) := by omega
  rw [e, show (1 : Int) = ((1 : Nat) : Int) from rfl, u64_or_nat _ _ (by omega) (by omega)]
  have h := Nat.two_pow_add_eq_or_of_lt (i := 1) (b := 1) (by decide) (n % 9223372036854775808).toNat
  rw [Nat.pow_one] at h
  rw [← h]
  omega
theorem and_one (x : Nat) (hx : x < 18446744073709551616) : (bits .and .u64 (x : Int) 1 == 1) = (x % 2 == 1) := by
  rw [show (1 : Int) = ((1 : Nat) : Int) from rfl, u64_and_nat _ _ hx (by omega), Nat.and_one_is_mod]
  rw [Bool.eq_iff_iff]
  simp
  omega
theorem head_or (n k : Nat) (hn : n < 36028797018963968) (hk : k < 256) : bits .or .u64 ((n : Int) * 256) (k : Int) = ((n * 256 + k : Nat) : Int) := by
  rw [show (n : Int) * 256 = ((n * 256 : Nat) : Int) by omega, u64_or_nat _ _ (by omega) (by omega)]
  have h := Nat.two_pow_add_eq_or_of_lt (i := 8) (b := k) hk n
  rw [show (2 : Nat) ^ 8 = 256 from rfl, Nat.mul_comm] at h
  rw [← h]

theorem num_t (n : Int) (w : World) :
    Calls Tryd.prog 7 #[.int .i64 n] w fun e w' => e = .returned (.int .u64 ((2 * n + 1) % 18446744073709551616)) ∧ w = w' := by
  go_enter Tryd.func7, Tryd.ntmps7
  go_wp2
  go_ret
  refine ⟨?_, rfl⟩
  show Ending.returned (Value.int .u64 (bits .or .u64 (IntKind.u64.wrap (IntKind.u64.wrap n * 2)) 1)) = _
  rw [num_or n]

theorem n_t (x : Nat) (w : World) (hx : x < 18446744073709551616) :
    Calls Tryd.prog 55 #[.int .u64 (x : Int)] w fun e w' => e = .returned (.int .i64 (wrap64 (x : Int) / 2)) ∧ w = w' := by
  have hx' : (x : Int) ≤ 18446744073709551615 := by omega
  go_enter Tryd.func55, Tryd.ntmps55
  go_wp2
  go_ret
  refine ⟨?_, rfl⟩
  show Ending.returned (Value.int .i64 (wrap64 (x : Int) / 2)) = _
  rfl

theorem isnum_t (x : Nat) (w : World) (hx : x < 18446744073709551616) :
    Calls Tryd.prog 52 #[.int .u64 (x : Int)] w fun e w' => e = .returned (.bool (x % 2 == 1)) ∧ w = w' := by
  have hx' : (x : Int) ≤ 18446744073709551615 := by omega
  go_enter Tryd.func52, Tryd.ntmps52
  go_wp2
  go_ret
  refine ⟨?_, rfl⟩
  show Ending.returned (Value.bool (bits .and .u64 (x : Int) 1 == 1)) = _
  rw [and_one x hx]

theorem head_t (k n : Nat) (w : World) (hk : k < 256) (hx : n < 36028797018963968) :
    Calls Tryd.prog 25 #[.int .u8 (k : Int), .int .i64 (n : Int)] w fun e w' => e = .returned (.int .u64 ((n * 256 + k : Nat) : Int)) ∧ w = w' := by
  have hx' : (n : Int) ≤ 36028797018963967 := by omega
  have hk' : (k : Int) ≤ 255 := by omega
  go_enter Tryd.func25, Tryd.ntmps25
  go_wp2
  go_ret
  refine ⟨?_, rfl⟩
  show Ending.returned (Value.int .u64 (bits .or .u64 ((n : Int) * 256) (k : Int))) = _
  rw [head_or n k hx hk]

theorem kind_t (x : Nat) (w : World) (hx : x < 18446744073709551616) :
    Calls Tryd.prog 74 #[.int .u64 (x : Int)] w fun e w' => e = .returned (.int .u8 ((x % 256 : Nat) : Int)) ∧ w = w' := by
  have hx' : (x : Int) ≤ 18446744073709551615 := by omega
  go_enter Tryd.func74, Tryd.ntmps74
  go_wp2
  go_ret
  exact ⟨rfl, rfl⟩

theorem size_t (x : Nat) (w : World) (hx : x < 18446744073709551616) :
    Calls Tryd.prog 75 #[.int .u64 (x : Int)] w fun e w' => e = .returned (.int .i64 ((x / 256 : Nat) : Int)) ∧ w = w' := by
  have hx' : (x : Int) ≤ 18446744073709551615 := by omega
  go_enter Tryd.func75, Tryd.ntmps75
  go_wp2
  go_ret
  exact ⟨rfl, rfl⟩
end Go.Proofs.YtpmbdncackneoaaDoor
