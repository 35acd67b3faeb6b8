/- Plain mathematics of the checksum: bits that stand within 32 that follow one another are found. -/
import Derived.Test.YtjbailnnaigjbaaOctC
namespace Go.Proofs.Ytjbailnnaigjbaa.OctM

theorem add_xor (i a b : Nat) (h : b < 2 ^ i) : 2 ^ i * a + b = b ^^^ (a * 2 ^ i) := by
  apply Nat.eq_of_testBit_eq
  intro j
  rw [Nat.testBit_two_pow_mul_add a h, Nat.testBit_xor, Nat.mul_comm a, Nat.testBit_two_pow_mul]
  by_cases hj : j < i
  · simp [hj, show ¬ i ≤ j by omega]
  · have hb : b.testBit j = false := Nat.testBit_lt_two_pow (Nat.lt_of_lt_of_le h (Nat.pow_le_pow_right (by omega) (by omega)))
    simp [hj, hb, show i ≤ j by omega]

theorem xor_mul (i a b : Nat) : (a ^^^ b) * 2 ^ i = (a * 2 ^ i) ^^^ (b * 2 ^ i) := by
  rw [← Nat.shiftLeft_eq, ← Nat.shiftLeft_eq, ← Nat.shiftLeft_eq, Nat.shiftLeft_xor_distrib]

theorem f_xor (a b : Nat) : f (a ^^^ b) = f a ^^^ f b := by
  unfold f
  have h1 : (a ^^^ b) / 2 = a / 2 ^^^ b / 2 := by
    have := Nat.shiftRight_xor_distrib (a := a) (b := b) (i := 1)
    simpa [Nat.shiftRight_eq_div_pow] using this
  have h2 : (a ^^^ b) % 2 = (a % 2 + b % 2) % 2 := by
    have := Nat.testBit_xor a b 0
    simp only [Nat.testBit_zero] at this
    rcases Nat.mod_two_eq_zero_or_one a with ha | ha <;> rcases Nat.mod_two_eq_zero_or_one b with hb | hb <;> rcases Nat.mod_two_eq_zero_or_one (a ^^^ b) with hc | hc <;> simp [ha, hb, hc] at this ⊢
  rw [h1, h2]
  rcases Nat.mod_two_eq_zero_or_one a with ha | ha <;> rcases Nat.mod_two_eq_zero_or_one b with hb | hb <;> simp only [ha, hb]
  · simp
  · simp [Nat.xor_assoc]
  · simp only [Nat.zero_ne_one, if_false, if_true, Nat.xor_zero]
    rw [Nat.xor_assoc, Nat.xor_assoc, Nat.xor_comm poly]
  · simp only [if_true]
    have : (1 + 1) % 2 = 0 := rfl
    rw [this]
    simp only [Nat.zero_ne_one, if_false, Nat.xor_zero]
    rw [Nat.xor_assoc, ← Nat.xor_assoc poly, Nat.xor_comm poly (b / 2), Nat.xor_assoc (b / 2), Nat.xor_self, Nat.xor_zero]

theorem fs_xor (m a b : Nat) : fs m (a ^^^ b) = fs m a ^^^ fs m b := by
  induction m generalizing a b with
  | zero => rfl
  | succ m ih => simp only [fs]; rw [f_xor, ih]

theorem fs_mul (m x : Nat) : fs m (x * 2 ^ m) = x := by
  induction m with
  | zero => simp [fs]
  | succ m ih =>
    have e : f (x * 2 ^ (m + 1)) = x * 2 ^ m := by
      unfold f
      have e1 : x * 2 ^ (m + 1) = 2 * (x * 2 ^ m) := by rw [Nat.pow_succ, ← Nat.mul_assoc, Nat.mul_comm]
      rw [e1, if_neg (by omega), Nat.xor_zero]
      omega
    rw [fs, e, ih]

theorem fs_add (a b c : Nat) : fs (a + b) c = fs b (fs a c) := by
  induction a generalizing c with
  | zero => rw [Nat.zero_add]; rfl
  | succ a ih => rw [Nat.succ_add, fs, ih, fs]

/-- Bytes as a number, the lowest first. -/
def num : List UInt8 → Nat
  | [] => 0
  | b :: t => b.toNat ^^^ (num t * 2 ^ 8)

theorem byte_lt (b : UInt8) : b.toNat < 2 ^ 8 := b.toNat_lt

theorem num_cons (b : UInt8) (t : List UInt8) : num (b :: t) = 2 ^ 8 * num t + b.toNat := (add_xor 8 (num t) b.toNat (byte_lt b)).symm

theorem num_append (l k : List UInt8) : num (l ++ k) = num l ^^^ (num k * 2 ^ (8 * l.length)) := by
  induction l with
  | nil => simp [num]
  | cons b t ih =>
    rw [List.cons_append, num, ih, num, xor_mul, Nat.mul_assoc, ← Nat.pow_add, List.length_cons, show 8 * (t.length + 1) = 8 * t.length + 8 from rfl, Nat.xor_assoc]

theorem num_inj (l k : List UInt8) (hl : l.length = k.length) (h : num l = num k) : l = k := by
  induction l generalizing k with
  | nil => exact (List.eq_nil_of_length_eq_zero hl.symm).symm
  | cons b t ih =>
    match k, hl with
    | c :: u, hl =>
      rw [num_cons, num_cons] at h
      have hb := byte_lt b
      have hc := byte_lt c
      have e1 : b.toNat = c.toNat := by omega
      have e2 : num t = num u := by omega
      rw [UInt8.toNat_inj.1 e1, ih u (by simpa using hl) e2]

theorem st_num (c : Nat) (l : List UInt8) : st c l = fs (8 * l.length) (c ^^^ num l) := by
  induction l generalizing c with
  | nil => simp [st, num, fs]
  | cons b t ih =>
    have e : st c (b :: t) = st (fs 8 (c ^^^ b.toNat)) t := rfl
    have e2 : fs 8 (c ^^^ b.toNat ^^^ num t * 2 ^ 8) = fs 8 (c ^^^ b.toNat) ^^^ num t := by rw [fs_xor 8 (c ^^^ b.toNat), fs_mul]
    rw [e, ih, num, ← Nat.xor_assoc, List.length_cons, show 8 * (t.length + 1) = 8 + 8 * t.length by omega, fs_add, e2]

theorem num_set (m : List UInt8) (j : Nat) (x : UInt8) (hj : j < m.length) : num (m.set j (m[j] ^^^ x)) = num m ^^^ (x.toNat * 2 ^ (8 * j)) := by
  induction m generalizing j with
  | nil => cases hj
  | cons b t ih =>
    cases j with
    | zero =>
      simp only [List.set_cons_zero, List.getElem_cons_zero, num, UInt8.toNat_xor, Nat.mul_zero, Nat.pow_zero, Nat.mul_one]
      rw [Nat.xor_assoc, Nat.xor_assoc, Nat.xor_comm x.toNat]
    | succ j =>
      have h := ih j (by simpa using hj)
      simp only [List.set_cons_succ, List.getElem_cons_succ, num]
      rw [h, xor_mul, Nat.mul_assoc, ← Nat.pow_add, show 8 * (j + 1) = 8 * j + 8 from rfl, Nat.xor_assoc]

theorem xor_zero (a b : Nat) (h : a ^^^ b = 0) : a = b := by
  have e : (a ^^^ b) ^^^ b = a := by rw [Nat.xor_assoc, Nat.xor_self, Nat.xor_zero]
  rw [h, Nat.zero_xor] at e
  exact e.symm

theorem f_zero (x : Nat) (h : x < 4294967296) (hf : f x = 0) : x = 0 := by
  unfold f at hf
  have h2 := xor_zero _ _ hf
  rcases Nat.mod_two_eq_zero_or_one x with e | e
  · rw [if_neg (by omega)] at h2; omega
  · rw [if_pos e] at h2
    have : poly = 2197175160 := rfl
    omega

theorem fs_zero (m x : Nat) (h : x < 4294967296) (hf : fs m x = 0) : x = 0 := by
  induction m generalizing x with
  | zero => exact hf
  | succ m ih => exact f_zero x h (ih (f x) (f_lt x h) hf)

theorem fs_burst (n p k : Nat) (hp : p < 4294967296) (h : fs n (p * 2 ^ k) = 0) : p = 0 := by
  rcases Nat.lt_or_ge k n with hk | hk
  · obtain ⟨d, rfl⟩ : ∃ d, n = k + d := ⟨n - k, by omega⟩
    rw [fs_add, fs_mul] at h
    exact fs_zero d p hp h
  · obtain ⟨d, rfl⟩ : ∃ d, k = d + n := ⟨k - n, by omega⟩
    rw [Nat.pow_add, ← Nat.mul_assoc, fs_mul] at h
    rcases Nat.mul_eq_zero.1 h with h | h
    · exact h
    · have := Nat.two_pow_pos d; omega

theorem num_lt (l : List UInt8) : num l < 2 ^ (8 * l.length) := by
  induction l with
  | nil => simp [num]
  | cons b t ih =>
    rw [num_cons, List.length_cons, show 8 * (t.length + 1) = 8 + 8 * t.length by omega, Nat.pow_add]
    have hb := byte_lt b
    have h2 : 2 ^ 8 * (num t + 1) ≤ 2 ^ 8 * 2 ^ (8 * t.length) := Nat.mul_le_mul_left _ ih
    omega

theorem num_byte (n : Nat) (t : List UInt8) : num (UInt8.ofNat n :: t) = 256 * num t + n % 256 := by
  rw [num_cons, UInt8.toNat_ofNat']

theorem num_le4 (n : Nat) (h : n < 4294967296) : num [UInt8.ofNat n, UInt8.ofNat (n / 256), UInt8.ofNat (n / 65536), UInt8.ofNat (n / 16777216)] = n := by
  simp only [num_byte]
  have : num [] = 0 := rfl
  omega

/-- What is left of sealed bytes is always the same. -/
theorem residue (l k : List UInt8) (h : num k = sum l) : fs (8 * l.length) (4294967295 ^^^ num (l ++ k)) = 4294967295 := by
  rw [num_append, ← Nat.xor_assoc, fs_xor, fs_mul, ← st_num, h]
  have hs := st_lt 4294967295 l (by omega)
  have e : sum l = st 4294967295 l ^^^ 4294967295 := by
    have := xor_ones 32 (st 4294967295 l) (by omega)
    rw [show (2 : Nat) ^ 32 - 1 = 4294967295 from rfl] at this
    rw [this]
    unfold sum
    omega
  rw [e, ← Nat.xor_assoc, Nat.xor_self, Nat.zero_xor]

/-- Two sealed ones of one length that differ in bits within 32 are the same. -/
theorem burst (l m : List UInt8) (k k' : List UInt8) (p i : Nat) (hl : l.length = m.length) (hk : num k = sum l) (hk' : num k' = sum m) (hp : p < 4294967296) (h : num (m ++ k') = num (l ++ k) ^^^ (p * 2 ^ i)) : p = 0 := by
  have h1 := residue l k hk
  have h2 := residue m k' hk'
  rw [h, ← Nat.xor_assoc, ← hl, fs_xor, h1] at h2
  have h3 : fs (8 * l.length) (p * 2 ^ i) = 0 := by
    have e : 4294967295 ^^^ (4294967295 ^^^ fs (8 * l.length) (p * 2 ^ i)) = fs (8 * l.length) (p * 2 ^ i) := by rw [← Nat.xor_assoc, Nat.xor_self, Nat.zero_xor]
    rw [h2, Nat.xor_self] at e
    exact e.symm
  exact fs_burst _ p i hp h3

/-- One bit more of the pattern. -/
theorem pattern_succ (p i k : Nat) : (p % 2 ^ (i + 1)) * 2 ^ k = ((p % 2 ^ i) * 2 ^ k) ^^^ ((p / 2 ^ i % 2) * 2 ^ (k + i)) := by
  rw [Nat.pow_succ, Nat.mod_mul, Nat.add_comm (p % 2 ^ i), add_xor i _ _ (Nat.mod_lt _ (Nat.two_pow_pos i)), xor_mul, Nat.mul_assoc, ← Nat.pow_add, Nat.add_comm i k]

end Go.Proofs.Ytjbailnnaigjbaa.OctM
