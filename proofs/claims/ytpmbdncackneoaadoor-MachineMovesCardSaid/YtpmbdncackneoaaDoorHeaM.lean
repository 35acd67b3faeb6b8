/- Bytes as words, the lowest byte first (plain). -/
import Derived.Lib.Hide
namespace Go.Proofs.YtpmbdncackneoaaDoor.HeaM

/-- Bytes as a number, the lowest first. -/
def le : List UInt8 → Nat
  | [] => 0
  | b :: t => b.toNat + 256 * le t

theorem le_lt : ∀ l : List UInt8, le l < 256 ^ l.length
  | [] => by simp [le]
  | b :: t => by
    have h := le_lt t
    have hb := b.toNat_lt
    simp only [le, List.length_cons, Nat.pow_succ]
    omega
theorem le_append : ∀ a b : List UInt8, le (a ++ b) = le a + 256 ^ a.length * le b
  | [], b => by simp [le]
  | x :: t, b => by
    have h := le_append t b
    simp only [List.cons_append, le, List.length_cons, Nat.pow_succ, h, Nat.mul_add]
    rw [show 256 * (256 ^ t.length * le b) = 256 ^ t.length * 256 * le b by rw [Nat.mul_comm (256 ^ t.length) 256, Nat.mul_assoc]]
    omega
theorem le_snoc (l : List UInt8) (c : UInt8) : le (l ++ [c]) = le l + c.toNat * 256 ^ l.length := by
  rw [le_append, show le [c] = c.toNat by simp [le], Nat.mul_comm]
theorem le_get (l : List UInt8) (k : Nat) (h : k < l.length) : le l / 256 ^ k % 256 = l[k].toNat := by
  have e : l = l.take k ++ l.drop k := (List.take_append_drop k l).symm
  have e2 : l.drop k = l[k] :: l.drop (k + 1) := by rw [List.drop_eq_getElem_cons h]
  have hl : (l.take k).length = k := by rw [List.length_take]; omega
  have hk := le_lt (l.take k)
  rw [hl] at hk
  have hp : 0 < 256 ^ k := Nat.pow_pos (by decide)
  conv => lhs; rw [e]
  rw [le_append, hl, Nat.add_mul_div_left _ _ hp, Nat.div_eq_of_lt hk, Nat.zero_add, e2]
  have hb := l[k].toNat_lt
  simp only [le]
  omega

/-- Word i of the first k bytes of l. -/
def wd (l : List UInt8) (k i : Nat) : Nat := le (((l.take k).drop (8 * i)).take 8)
/-- How many words so many bytes take. -/
def nw (n : Nat) : Nat := (n + 7) / 8
/-- The words of the first k bytes of l, of as many words as l takes. -/
def pkTo (l : List UInt8) (k : Nat) : List Nat := (List.range (nw l.length)).map (wd l k)
/-- A text's words. -/
def pk (l : List UInt8) : List Nat := pkTo l l.length

theorem pkTo_length (l : List UInt8) (k : Nat) : (pkTo l k).length = nw l.length := by simp [pkTo]
theorem pk_length (l : List UInt8) : (pk l).length = nw l.length := pkTo_length _ _
theorem pkTo_zero (l : List UInt8) : pkTo l 0 = List.replicate (nw l.length) 0 := by
  apply List.ext_getElem?
  intro j
  by_cases hj : j < nw l.length
  · simp [pkTo, wd, hj, le]
  · simp [pkTo, hj]
theorem pkTo_get (l : List UInt8) (k i : Nat) (h : i < nw l.length) : (pkTo l k)[i]? = some (wd l k i) := by simp [pkTo, h]
theorem wd_lt (l : List UInt8) (k i : Nat) : wd l k i < 18446744073709551616 := by
  have h := le_lt (((l.take k).drop (8 * i)).take 8)
  have h8 : (((l.take k).drop (8 * i)).take 8).length ≤ 8 := by rw [List.length_take]; omega
  have : 256 ^ (((l.take k).drop (8 * i)).take 8).length ≤ 256 ^ 8 := Nat.pow_le_pow_right (by decide) h8
  unfold wd
  omega
theorem wd_low (l : List UInt8) (k : Nat) (hk : k ≤ l.length) : wd l k (k / 8) < 256 ^ (k % 8) := by
  have h := le_lt (((l.take k).drop (8 * (k / 8))).take 8)
  have h8 : (((l.take k).drop (8 * (k / 8))).take 8).length = k % 8 := by simp only [List.length_take, List.length_drop]; omega
  rw [h8] at h
  exact h
/-- One byte more. -/
theorem wd_succ (l : List UInt8) (k : Nat) (hk : k < l.length) : wd l (k + 1) (k / 8) = wd l k (k / 8) + l[k].toNat * 256 ^ (k % 8) := by
  unfold wd
  have e : ((l.take (k + 1)).drop (8 * (k / 8))).take 8 = ((l.take k).drop (8 * (k / 8))).take 8 ++ [l[k]] := by
    rw [List.take_succ_eq_append_getElem hk, List.drop_append_of_le_length (by rw [List.length_take]; omega)]
    have hD : ((l.take k).drop (8 * (k / 8))).length = k % 8 := by simp only [List.length_drop, List.length_take]; omega
    generalize (l.take k).drop (8 * (k / 8)) = D at *
    rw [List.take_of_length_le (by simp only [List.length_append, List.length_singleton]; omega), List.take_of_length_le (l := D) (by omega)]
  rw [e, le_snoc]
  congr 2
  simp only [List.length_take, List.length_drop]
  congr 1
  omega
theorem wd_other (l : List UInt8) (k i : Nat) (hk : k < l.length) (hi : i ≠ k / 8) : wd l (k + 1) i = wd l k i := by
  unfold wd
  congr 1
  rw [List.take_succ_eq_append_getElem hk]
  by_cases h : 8 * i ≤ k
  · rw [List.drop_append_of_le_length (by rw [List.length_take]; omega), List.take_append_of_le_length (by simp only [List.length_drop, List.length_take]; omega)]
  · rw [List.drop_of_length_le (by simp only [List.length_append, List.length_take, List.length_singleton]; omega), List.drop_of_length_le (by rw [List.length_take]; omega)]
theorem pkTo_succ (l : List UInt8) (k : Nat) (hk : k < l.length) : pkTo l (k + 1) = (pkTo l k).set (k / 8) (wd l k (k / 8) + l[k].toNat * 256 ^ (k % 8)) := by
  have hn : k / 8 < nw l.length := by unfold nw; omega
  apply List.ext_getElem?
  intro j
  rw [List.getElem?_set, pkTo_length]
  by_cases hj : j < nw l.length
  · rw [pkTo_get l _ j hj, pkTo_get l _ j hj]
    by_cases e : k / 8 = j
    · subst e
      simp [hn, wd_succ l k hk]
    · simp [e, wd_other l k j hk (Ne.symm e)]
  · have h1 : (pkTo l (k + 1))[j]? = none := by rw [List.getElem?_eq_none_iff, pkTo_length]; omega
    have h2 : (pkTo l k)[j]? = none := by rw [List.getElem?_eq_none_iff, pkTo_length]; omega
    rw [h1, h2]
    split
    · omega
    · rfl
/-- A byte that is read out of its word. -/
theorem wd_byte (l : List UInt8) (k : Nat) (hk : k < l.length) : wd l l.length (k / 8) / 256 ^ (k % 8) % 256 = l[k].toNat := by
  have hlen : k % 8 < (((l.take l.length).drop (8 * (k / 8))).take 8).length := by simp only [List.take_length, List.length_take, List.length_drop]; omega
  have h := le_get _ _ hlen
  unfold wd
  rw [h]
  congr 1
  simp only [List.take_length, List.getElem_take, List.getElem_drop]
  congr 1
  omega
end Go.Proofs.YtpmbdncackneoaaDoor.HeaM
