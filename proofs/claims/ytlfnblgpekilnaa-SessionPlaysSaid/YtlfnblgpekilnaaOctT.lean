/- The reference's Sum. -/
import Derived.Test.YtlfnblgpekilnaaOctG
import Derived.Test.YtlfnblgpekilnaaOctX
namespace Go.Proofs.Ytlfnblgpekilnaa
open Go.RowKit OctM

/-- One bit, as the reference reckons it. -/
theorem ref_step (c x : Nat) : (c / 2 ^^^ (if (c % 2 + x % 2) % 2 = 1 then poly else 0)) ^^^ (x / 2) = f (c ^^^ x) := by
  have h := f_xor c x
  rw [h]
  unfold f
  rcases Nat.mod_two_eq_zero_or_one c with hc | hc <;> rcases Nat.mod_two_eq_zero_or_one x with hx | hx <;> simp only [hc, hx]
  · simp
  · simp only [Nat.zero_ne_one, if_false, if_true, Nat.xor_zero]
    rw [Nat.xor_assoc, Nat.xor_comm poly]
  · simp only [Nat.zero_ne_one, if_false, if_true, Nat.xor_zero]
  · have : (1 + 1) % 2 = 0 := rfl
    rw [this]
    simp only [Nat.zero_ne_one, if_false, if_true, Nat.xor_zero]
    rw [Nat.xor_assoc, ← Nat.xor_assoc poly, Nat.xor_comm poly (x / 2), Nat.xor_assoc (x / 2), Nat.xor_self, Nat.xor_zero]

/-- The inner loop: behind k bits of b. -/
def Bits (c0 b k y : Nat) : Prop := y < 4294967296 ∧ y ^^^ (b / 2 ^ k) = fs k (c0 ^^^ b)

theorem bits_start (c0 b : Nat) (h : c0 < 4294967296) : Bits c0 b 0 c0 := ⟨h, by simp [fs]⟩
theorem bits_end {c0 b y : Nat} (h : Bits c0 b 8 y) (hb : b < 256) : y = fs 8 (c0 ^^^ b) := by
  have h2 := h.2
  rw [show (2 : Nat) ^ 8 = 256 from rfl, Nat.div_eq_of_lt hb, Nat.xor_zero] at h2
  exact h2
theorem bits_step {c0 b k y : Nat} (h : Bits c0 b k y) : Bits c0 b (k + 1) (y / 2 ^^^ (if (y % 2 + b / 2 ^ k % 2) % 2 = 1 then poly else 0)) := by
  refine ⟨?_, ?_⟩
  · have h2 : (if (y % 2 + b / 2 ^ k % 2) % 2 = 1 then poly else 0) < 4294967296 := by split <;> decide
    exact xor_lt _ _ (by have := h.1; omega) h2
  · rw [fs_succ, ← h.2, ← ref_step, Nat.pow_succ, Nat.div_div_eq_div_mul]

theorem low_int (y x : Nat) (hy : y < 4294967296) (hx : x < 256) : bits .xor .u32 (bits .and .u32 (y : Int) 1) (bits .and .u32 (x : Int) 1) = (((y % 2 + x % 2) % 2 : Nat) : Int) := by
  rw [show (1 : Int) = ((1 : Nat) : Int) from rfl, u32_and_nat y 1 hy (by omega), u32_and_nat x 1 (by omega) (by omega), nat_mask1, nat_mask1, u32_xor_nat _ _ (by omega) (by omega)]
  rcases Nat.mod_two_eq_zero_or_one y with h1 | h1 <;> rcases Nat.mod_two_eq_zero_or_one x with h2 | h2 <;> simp [h1, h2]

theorem poly_int (y : Nat) (hy : y < 4294967296) : bits .xor .u32 ((y : Int) / 2) 2197175160 = ((y / 2 ^^^ poly : Nat) : Int) := by
  rw [show (y : Int) / 2 = ((y / 2 : Nat) : Int) by omega, show (2197175160 : Int) = ((poly : Nat) : Int) from rfl, u32_xor_nat _ _ (by omega) (by decide)]

theorem refsummed {l : List UInt8} {x : Nat} (_hx : (x : Int) < 4294967296) (h : x = st 4294967295 l) : Summed l (.returned (.int .u32 (4294967295 - (x : Int)))) := by
  have hs := st_lt 4294967295 l (by omega)
  refine ⟨sum l, ?_, rfl⟩
  have e : (4294967295 - (x : Int)) = ((sum l : Nat) : Int) := by unfold sum; omega
  rw [e]

end Go.Proofs.Ytlfnblgpekilnaa
