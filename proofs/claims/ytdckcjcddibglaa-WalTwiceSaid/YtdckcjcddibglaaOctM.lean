/- Plain mathematics of layer 1 (octet): digits of numbers, no program in sight. -/
namespace Go.Proofs.Ytdckcjcddibglaa.OctM

/-- How many bytes a number takes. -/
def nd (n : Nat) : Nat :=
  if n < 1 then 0 else if n < 256 then 1 else if n < 65536 then 2 else if n < 16777216 then 3 else if n < 4294967296 then 4 else
  if n < 1099511627776 then 5 else if n < 281474976710656 then 6 else if n < 72057594037927936 then 7 else 8

theorem nd_le (n : Nat) : nd n ≤ 8 := by unfold nd; repeat' split
                                         all_goals omega

/-- The digit of 256^i. -/
def dig (n i : Nat) : UInt8 := UInt8.ofNat (n / 256 ^ i)

/-- The digits, the lowest first. -/
def digs (n : Nat) : List UInt8 := (List.range (nd n)).map (dig n)

/-- A number as bytes: how many, and they, the highest first. -/
def enc (n : Nat) : List UInt8 := UInt8.ofNat (nd n) :: (digs n).reverse

theorem digs_length (n : Nat) : (digs n).length = nd n := by simp [digs]
theorem enc_length (n : Nat) : (enc n).length = nd n + 1 := by simp [enc, digs_length]

theorem enc_take_one (n : Nat) : (enc n).take 1 = [UInt8.ofNat (nd n)] := by simp [enc]

theorem enc_take_succ (n i : Nat) (h : i < nd n) : (enc n).take (1 + i + 1) = (enc n).take (1 + i) ++ [dig n (nd n - 1 - i)] := by
  have hl : 1 + i < (enc n).length := by rw [enc_length]; omega
  rw [List.take_succ_eq_append_getElem hl]
  congr 2
  have e : (enc n)[1 + i] = (enc n)[i + 1]'(by rw [enc_length]; omega) := by simp [Nat.add_comm]
  rw [e]
  simp only [enc, List.getElem_cons_succ, List.getElem_reverse, digs_length]
  simp [digs]

theorem enc_take_all (n : Nat) : (enc n).take (1 + nd n) = enc n := List.take_of_length_le (by rw [enc_length]; omega)

/-- Against ones: what is missing to them. -/
theorem xor_ones (k a : Nat) (h : a < 2 ^ k) : a ^^^ (2 ^ k - 1) = 2 ^ k - (a + 1) := by
  apply Nat.eq_of_testBit_eq
  intro i
  rw [Nat.testBit_xor, Nat.testBit_two_pow_sub_one, Nat.testBit_two_pow_sub_succ h]
  by_cases hi : i < k
  · simp [hi]
  · simp only [hi, decide_false, Bool.xor_false, Bool.false_and]
    exact Nat.testBit_lt_two_pow (Nat.lt_of_lt_of_le h (Nat.pow_le_pow_right (by omega) (by omega)))

/-- A number with a sign as one without: 0, -1, 1, -2, 2 .. -/
def zig (n : Int) : Nat := if n < 0 then (-2 * n - 1).toNat else (2 * n).toNat

end Go.Proofs.Ytdckcjcddibglaa.OctM
