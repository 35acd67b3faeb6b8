/- Plain mathematics: numbers as bytes stand in the numbers' order. -/
import Derived.Test.YtdckcjcddibglaaOctM
import GoSem.Op.String
namespace Go.Proofs.Ytdckcjcddibglaa.OctM

theorem lex (m x y r s : Nat) (hr : r < m) (hs : s < m) : (r + m * x < s + m * y) ↔ (x < y ∨ (x = y ∧ r < s)) := by
  rcases Nat.lt_trichotomy x y with h | h | h
  · have := Nat.mul_le_mul_left m (show x + 1 ≤ y from h)
    rw [Nat.mul_add, Nat.mul_one] at this
    constructor
    · intro _; exact .inl h
    · intro _; omega
  · subst h
    constructor
    · intro _; exact .inr ⟨rfl, by omega⟩
    · rintro (h | ⟨_, h⟩) <;> omega
  · have := Nat.mul_le_mul_left m (show y + 1 ≤ x from h)
    rw [Nat.mul_add, Nat.mul_one] at this
    constructor
    · intro _; omega
    · rintro (h | ⟨h, _⟩) <;> omega

/-- The k lowest digits, the highest first. -/
def low (k n : Nat) : List UInt8 := ((List.range k).map (dig n)).reverse

theorem low_succ (k n : Nat) : low (k + 1) n = dig n k :: low k n := by simp [low, List.range_succ]

theorem dig_lt (a b k : Nat) : (dig a k < dig b k) ↔ (a / 256 ^ k % 256 < b / 256 ^ k % 256) := by
  simp [dig, UInt8.lt_iff_toNat_lt]
theorem dig_eq (a b k : Nat) : (dig a k = dig b k) ↔ (a / 256 ^ k % 256 = b / 256 ^ k % 256) := by
  simp [dig, ← UInt8.toNat_inj]

theorem low_less (k a b : Nat) : Op.bytesLess (low k a) (low k b) = decide (a % 256 ^ k < b % 256 ^ k) := by
  induction k with
  | zero => simp [low, Op.bytesLess, Nat.mod_one]
  | succ k ih =>
    rw [low_succ, low_succ, Op.bytesLess, ih, Nat.pow_succ, Nat.mod_mul, Nat.mod_mul]
    have hm : 0 < 256 ^ k := Nat.pow_pos (by omega)
    have h := lex (256 ^ k) (a / 256 ^ k % 256) (b / 256 ^ k % 256) (a % 256 ^ k) (b % 256 ^ k) (Nat.mod_lt _ hm) (Nat.mod_lt _ hm)
    rw [Bool.eq_iff_iff]
    simp only [Bool.or_eq_true, Bool.and_eq_true, decide_eq_true_eq, beq_iff_eq]
    rw [dig_lt, dig_eq, h]

theorem nd_bound (n : Nat) (h : n < 18446744073709551616) : n < 256 ^ nd n := by
  unfold nd
  repeat' split
  all_goals (simp; omega)

theorem nd_lower' (n : Nat) : nd n = 0 ∨ 256 ^ (nd n - 1) ≤ n := by
  unfold nd
  repeat' split
  all_goals first | (left; rfl) | (right; simp; omega)

theorem nd_lower (n : Nat) (h : 0 < nd n) : 256 ^ (nd n - 1) ≤ n := by
  rcases nd_lower' n with h1 | h1
  · omega
  · exact h1

theorem nd_mono (a b : Nat) (h : a ≤ b) (hb : b < 18446744073709551616) : nd a ≤ nd b := by
  rcases Nat.lt_or_ge (nd b) (nd a) with h1 | h1
  · have h2 := nd_lower a (by omega)
    have h3 := nd_bound b hb
    have h4 := Nat.pow_le_pow_right (show 0 < 256 by omega) (show nd b ≤ nd a - 1 by omega)
    omega
  · exact h1

theorem enc_low (n : Nat) : enc n = UInt8.ofNat (nd n) :: low (nd n) n := rfl

theorem enc_less (a b : Nat) (ha : a < 18446744073709551616) (hb : b < 18446744073709551616) : Op.bytesLess (enc a) (enc b) = decide (a < b) := by
  rw [enc_low, enc_low, Op.bytesLess]
  have la := nd_le a
  have lb := nd_le b
  have e1 : (UInt8.ofNat (nd a) < UInt8.ofNat (nd b)) ↔ nd a < nd b := by
    simp only [UInt8.lt_iff_toNat_lt, UInt8.toNat_ofNat']
    omega
  have e2 : (UInt8.ofNat (nd a) = UInt8.ofNat (nd b)) ↔ nd a = nd b := by
    simp only [← UInt8.toNat_inj, UInt8.toNat_ofNat']
    omega
  rw [Bool.eq_iff_iff]
  simp only [Bool.or_eq_true, Bool.and_eq_true, decide_eq_true_eq, beq_iff_eq, e1, e2]
  by_cases h : nd a = nd b
  · rw [h, low_less]
    have h1 := nd_bound a ha
    have h2 := nd_bound b hb
    rw [h] at h1
    rw [Nat.mod_eq_of_lt h1, Nat.mod_eq_of_lt h2]
    simp
  · constructor
    · rintro (h1 | ⟨h1, _⟩)
      · rcases Nat.lt_or_ge a b with h2 | h2
        · exact h2
        · have := nd_mono b a h2 ha
          omega
      · omega
    · intro h1
      have := nd_mono a b (by omega) hb
      left
      omega

end Go.Proofs.Ytdckcjcddibglaa.OctM
