/- Sum: contracts. -/
import Derived.Test.YtlfnblgpekilnaaOctD
import Derived.Test.YtlfnblgpekilnaaOctC
namespace Go.Proofs.Ytlfnblgpekilnaa
open Go.RowKit OctM

theorem step_int (x : Nat) (hx : (x : Int) < 4294967296) :
    bits .xor .u32 ((x : Int) / 2) (bits .and .u32 2197175160 (-bits .and .u32 (x : Int) 1 % 4294967296)) = ((f x : Nat) : Int) := by
  have e1 : bits .and .u32 (x : Int) 1 = ((x % 2 : Nat) : Int) := by
    rw [show (1 : Int) = ((1 : Nat) : Int) from rfl, u32_and_nat x 1 (by omega) (by omega), nat_mask1]
  have e2 : (-((x % 2 : Nat) : Int)) % 4294967296 = (((4294967296 - x % 2) % 4294967296 : Nat) : Int) := by omega
  rw [e1, e2, show (2197175160 : Int) = ((poly : Nat) : Int) from rfl, u32_and_nat poly _ (by decide) (by omega)]
  have e3 : (x : Int) / 2 = ((x / 2 : Nat) : Int) := by omega
  have hp : poly &&& ((4294967296 - x % 2) % 4294967296) < 4294967296 := Nat.lt_of_le_of_lt Nat.and_le_left (by decide)
  rw [e3, u32_xor_nat _ _ (by omega) hp, step_mask]

theorem step_hid {x k S : Nat} (h : Hid (x = fs k S)) : Hid (f x = fs (k + 1) S) := by
  have := h.out
  show f x = fs (k + 1) S
  rw [fs_succ, this]

/-- What eight bits of a sum leave. -/
def Div (S : Nat) (e : Ending) : Prop := ∃ x : Nat, e = .returned (.int .u32 (x : Int)) ∧ x = fs 8 S

/-- The checksum of bytes. -/
def Summed (l : List UInt8) (e : Ending) : Prop := ∃ x : Nat, e = .returned (.int .u32 (x : Int)) ∧ x = sum l

theorem st_hid {l : List UInt8} {k x y : Nat} (hk : k < l.length) (h : Hid (x = st 4294967295 (l.take k))) (hy : y = fs 8 (x ^^^ l[k].toNat)) : Hid (y = st 4294967295 (l.take (k + 1))) := by
  have := h.out
  show y = _
  rw [List.take_succ_eq_append_getElem hk, st_snoc, hy, this]

theorem summed_of {l : List UInt8} {k x : Nat} (hx : (x : Int) < 4294967296) (h : Hid (x = st 4294967295 (l.take k))) (hk : Hid (k = l.length)) :
    Summed l (.returned (.int .u32 (bits .xor .u32 (if IntKind.u32.signed = true then -1 else IntKind.u32.max) (x : Int)))) := by
  have e : (if IntKind.u32.signed = true then -1 else IntKind.u32.max) = ((4294967295 : Nat) : Int) := by decide
  have h1 := xor_ones 32 x (by omega)
  rw [show (2 : Nat) ^ 32 - 1 = 4294967295 from rfl] at h1
  rw [e, u32_xor_nat _ _ (by omega) (by omega), Nat.xor_comm, h1]
  have h2 := h.out
  rw [hk.out, List.take_length] at h2
  exact ⟨_, rfl, by unfold sum; rw [← h2]; omega⟩

end Go.Proofs.Ytlfnblgpekilnaa
