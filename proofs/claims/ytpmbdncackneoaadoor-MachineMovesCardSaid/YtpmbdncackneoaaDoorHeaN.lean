/- Need, isKind, New; the calls of a nil heap. -/
import Derived.Test.YtpmbdncackneoaaDoorHeaW
namespace Go.Proofs.YtpmbdncackneoaaDoor
open Go.RowKit

/-- How many words an object takes. -/
def need (k n : Nat) : Nat := if k = 3 then 1 + (n + 7) / 8 else 1 + n

theorem need_text (n : Nat) (w : World) (hn : n ≤ 140737488355328) :
    Calls Tryd.prog 12 #[.int .u8 3, .int .i64 (n : Int)] w fun e w' => e = .returned (.int .i64 ((need 3 n : Nat) : Int)) ∧ w = w' := by
  have hn' : (n : Int) ≤ 140737488355328 := by omega
  have e : (1 : Int) + (n : Int) / 8 + ((n : Int) % 8 + 8 - 1) / 8 = ((need 3 n : Nat) : Int) := by
    show _ = ((1 + (n + 7) / 8 : Nat) : Int)
    omega
  have E := Lib.hid e
  clear e
  have hm : max (n : Int) 0 = (n : Int) := by omega
  go_enter Tryd.func12, Tryd.ntmps12
  go_wp2
  go_ret
  exact ⟨congrArg (fun i => Ending.returned (.int .i64 i)) E.out, rfl⟩

theorem need_parts (k n : Nat) (w : World) (hn : n ≤ 140737488355328) (h3 : k ≠ 3) :
    Calls Tryd.prog 12 #[.int .u8 (k : Int), .int .i64 (n : Int)] w fun e w' => e = .returned (.int .i64 ((need k n : Nat) : Int)) ∧ w = w' := by
  have hn' : (n : Int) ≤ 140737488355328 := by omega
  have e : (1 : Int) + (n : Int) = ((need k n : Nat) : Int) := by
    unfold need; rw [if_neg h3]; omega
  have E := Lib.hid e
  clear e
  have hm : max (n : Int) 0 = (n : Int) := by omega
  have h1 : ((k : Int) != 3) = true := by rw [bne_iff_ne]; omega
  have h2 : ((k : Int) == 3) = false := by rw [beq_eq_false_iff_ne]; omega
  clear h3
  go_enter Tryd.func12, Tryd.ntmps12
  go_wp2
  go_ret
  exact ⟨congrArg (fun i => Ending.returned (.int .i64 i)) E.out, rfl⟩

/-- Is a kind one of the six? -/
def isK (k : Nat) : Bool := decide (1 ≤ k ∧ k ≤ 6)

theorem iskind_t (k : Nat) (w : World) (hk : k < 256) :
    Calls Tryd.prog 22 #[.int .u8 (k : Int)] w fun e w' => e = .returned (.bool (isK k)) ∧ w = w' := by
  have hk' : (k : Int) ≤ 255 := by omega
  by_cases h : 1 ≤ k ∧ k ≤ 6
  · have E := Lib.hid (show isK k = true by simp [isK]; omega)
    have h1 : ¬ (k : Int) < 1 := by omega
    have h6 : (k : Int) ≤ 6 := by omega
    have h1n : 1 ≤ k := h.1
    have h6n : k ≤ 6 := h.2
    clear h
    go_enter Tryd.func22, Tryd.ntmps22
    go_wp2
    all_goals
      go_ret
      exact ⟨by rw [E.out]; simp, rfl⟩
  · have E := Lib.hid (show isK k = false by simp [isK]; omega)
    have H := Lib.hid h
    clear h
    go_enter Tryd.func22, Tryd.ntmps22
    go_wp2
    all_goals
      go_ret
      have h := H.out
      exact ⟨by rw [E.out]; first | (simp; done) | (simp; omega), rfl⟩
end Go.Proofs.YtpmbdncackneoaaDoor
