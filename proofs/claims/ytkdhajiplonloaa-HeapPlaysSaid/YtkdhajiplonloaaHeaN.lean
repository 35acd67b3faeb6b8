/- The words' own functions: Num, N, IsNum, head, kind, size, isKind, Need. -/
/- Need, isKind, New; the calls of a nil heap. -/
import Derived.Test.YtkdhajiplonloaaHeaB
namespace Go.Proofs.Ytkdhajiplonloaa
open Go.RowKit

theorem num_or (n : Int) : bits .or .u64 (IntKind.u64.wrap (IntKind.u64.wrap n * 2)) 1 = (2 * n + 1) % 18446744073709551616 := by
  simp only [IntKind.wrap_u64]
  have e : n % 18446744073709551616 * 2 % 18446744073709551616 = ((2 * (n % 9223372036854775808).toNat : Nat) : Int) := by omega
  rw [e, show (1 : Int) = ((1 : Nat) : Int) from rfl, u64_or_nat _ _ (by omega) (by omega)]
  have h := Nat.two_pow_add_eq_or_of_lt (i := 1) (b := 1) (by decide) (n % 9223372036854775808).toNat
  rw [Nat.pow_one] at h
  rw [← h]
  omega
theorem and_one (x : Nat) (hx : x < 18446744073709551616) : (bits .and .u64 (x : Int) 1 == 1) = (x % 2 == 1) := by
  rw [show (1 : Int) = ((1 : Nat) : Int) from rfl, u64_and_nat _ _ hx (by omega), Nat.and_one_is_mod]
  rw [Bool.eq_iff_iff]
  simp
  omega
theorem head_or (n k : Nat) (hn : n < 36028797018963968) (hk : k < 256) : bits .or .u64 ((n : Int) * 256) (k : Int) = ((n * 256 + k : Nat) : Int) := by
  rw [show (n : Int) * 256 = ((n * 256 : Nat) : Int) by omega, u64_or_nat _ _ (by omega) (by omega)]
  have h := Nat.two_pow_add_eq_or_of_lt (i := 8) (b := k) hk n
  rw [show (2 : Nat) ^ 8 = 256 from rfl, Nat.mul_comm] at h
  rw [← h]

theorem num_t (n : Int) (w : World) :
    Calls Try.prog 24 #[.int .i64 n] w fun e w' => e = .returned (.int .u64 ((2 * n + 1) % 18446744073709551616)) ∧ w = w' := by
  go_enter Try.func24, Try.ntmps24
  go_wp2
  go_ret
  refine ⟨?_, rfl⟩
  show Ending.returned (Value.int .u64 (bits .or .u64 (IntKind.u64.wrap (IntKind.u64.wrap n * 2)) 1)) = _
  rw [num_or n]

theorem isnum_t (x : Nat) (w : World) (hx : x < 18446744073709551616) :
    Calls Try.prog 32 #[.int .u64 (x : Int)] w fun e w' => e = .returned (.bool (x % 2 == 1)) ∧ w = w' := by
  have hx' : (x : Int) ≤ 18446744073709551615 := by omega
  go_enter Try.func32, Try.ntmps32
  go_wp2
  go_ret
  refine ⟨?_, rfl⟩
  show Ending.returned (Value.bool (bits .and .u64 (x : Int) 1 == 1)) = _
  rw [and_one x hx]

theorem head_t (k n : Nat) (w : World) (hk : k < 256) (hx : n < 36028797018963968) :
    Calls Try.prog 39 #[.int .u8 (k : Int), .int .i64 (n : Int)] w fun e w' => e = .returned (.int .u64 ((n * 256 + k : Nat) : Int)) ∧ w = w' := by
  have hx' : (n : Int) ≤ 36028797018963967 := by omega
  have hk' : (k : Int) ≤ 255 := by omega
  go_enter Try.func39, Try.ntmps39
  go_wp2
  go_ret
  refine ⟨?_, rfl⟩
  show Ending.returned (Value.int .u64 (bits .or .u64 ((n : Int) * 256) (k : Int))) = _
  rw [head_or n k hx hk]

theorem kind_t (x : Nat) (w : World) (hx : x < 18446744073709551616) :
    Calls Try.prog 42 #[.int .u64 (x : Int)] w fun e w' => e = .returned (.int .u8 ((x % 256 : Nat) : Int)) ∧ w = w' := by
  have hx' : (x : Int) ≤ 18446744073709551615 := by omega
  go_enter Try.func42, Try.ntmps42
  go_wp2
  go_ret
  exact ⟨rfl, rfl⟩

theorem size_t (x : Nat) (w : World) (hx : x < 18446744073709551616) :
    Calls Try.prog 43 #[.int .u64 (x : Int)] w fun e w' => e = .returned (.int .i64 ((x / 256 : Nat) : Int)) ∧ w = w' := by
  have hx' : (x : Int) ≤ 18446744073709551615 := by omega
  go_enter Try.func43, Try.ntmps43
  go_wp2
  go_ret
  exact ⟨rfl, rfl⟩
end Go.Proofs.Ytkdhajiplonloaa
namespace Go.Proofs.Ytkdhajiplonloaa
open Go.RowKit

/-- How many words an object takes. -/
def need (k n : Nat) : Nat := if k = 3 then 1 + (n + 7) / 8 else 1 + n

theorem need_text (n : Nat) (w : World) (hn : n ≤ 140737488355328) :
    Calls Try.prog 37 #[.int .u8 3, .int .i64 (n : Int)] w fun e w' => e = .returned (.int .i64 ((need 3 n : Nat) : Int)) ∧ w = w' := by
  have hn' : (n : Int) ≤ 140737488355328 := by omega
  have e : (1 : Int) + (n : Int) / 8 + ((n : Int) % 8 + 8 - 1) / 8 = ((need 3 n : Nat) : Int) := by
    show _ = ((1 + (n + 7) / 8 : Nat) : Int)
    omega
  have E := Lib.hid e
  clear e
  have hm : max (n : Int) 0 = (n : Int) := by omega
  go_enter Try.func37, Try.ntmps37
  go_wp2
  go_ret
  exact ⟨congrArg (fun i => Ending.returned (.int .i64 i)) E.out, rfl⟩

theorem need_parts (k n : Nat) (w : World) (hn : n ≤ 140737488355328) (h3 : k ≠ 3) :
    Calls Try.prog 37 #[.int .u8 (k : Int), .int .i64 (n : Int)] w fun e w' => e = .returned (.int .i64 ((need k n : Nat) : Int)) ∧ w = w' := by
  have hn' : (n : Int) ≤ 140737488355328 := by omega
  have e : (1 : Int) + (n : Int) = ((need k n : Nat) : Int) := by
    unfold need; rw [if_neg h3]; omega
  have E := Lib.hid e
  clear e
  have hm : max (n : Int) 0 = (n : Int) := by omega
  have h1 : ((k : Int) != 3) = true := by rw [bne_iff_ne]; omega
  have h2 : ((k : Int) == 3) = false := by rw [beq_eq_false_iff_ne]; omega
  clear h3
  go_enter Try.func37, Try.ntmps37
  go_wp2
  go_ret
  exact ⟨congrArg (fun i => Ending.returned (.int .i64 i)) E.out, rfl⟩

/-- Is a kind one of the six? -/
def isK (k : Nat) : Bool := decide (1 ≤ k ∧ k ≤ 6)

theorem iskind_t (k : Nat) (w : World) (hk : k < 256) :
    Calls Try.prog 44 #[.int .u8 (k : Int)] w fun e w' => e = .returned (.bool (isK k)) ∧ w = w' := by
  have hk' : (k : Int) ≤ 255 := by omega
  by_cases h : 1 ≤ k ∧ k ≤ 6
  · have E := Lib.hid (show isK k = true by simp [isK]; omega)
    have h1 : ¬ (k : Int) < 1 := by omega
    have h6 : (k : Int) ≤ 6 := by omega
    have h1n : 1 ≤ k := h.1
    have h6n : k ≤ 6 := h.2
    clear h
    go_enter Try.func44, Try.ntmps44
    go_wp2
    all_goals
      go_ret
      exact ⟨by rw [E.out]; simp, rfl⟩
  · have E := Lib.hid (show isK k = false by simp [isK]; omega)
    have H := Lib.hid h
    clear h
    go_enter Try.func44, Try.ntmps44
    go_wp2
    all_goals
      go_ret
      have h := H.out
      exact ⟨by rw [E.out]; first | (simp; done) | (simp; omega), rfl⟩
end Go.Proofs.Ytkdhajiplonloaa
