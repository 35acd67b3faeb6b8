/- Whole numbers as words of float64: sums, differences and products of them are exact. -/
import Derived.Laws.ComplexArith
namespace TurF
open Ieee Go

/-- A whole number of a sign and a size. -/
def sg (s : Bool) (m : Nat) : Int := if s then -(m : Int) else (m : Int)

/-- The word b stands for the whole number n. -/
def Is (b : Nat) (n : Int) : Prop := ∃ (s : Bool) (m k : Nat), double.read b = .number s (m * 2 ^ k) (-(k : Int)) ∧ n = sg s m

theorem log2_scale (m k : Nat) (h : m ≠ 0) : (m * 2 ^ k).log2 = m.log2 + k := by
  have hp : 0 < 2 ^ k := Nat.two_pow_pos k
  have h1 := (Nat.log2_eq_iff h).1 rfl
  refine (Nat.log2_eq_iff (by have := Nat.mul_pos (Nat.pos_of_ne_zero h) hp; omega)).2 ⟨?_, ?_⟩
  · rw [Nat.pow_add]
    exact Nat.mul_le_mul_right _ h1.1
  · rw [show m.log2 + k + 1 = m.log2 + 1 + k by omega, Nat.pow_add]
    exact Nat.mul_lt_mul_of_pos_right h1.2 hp

theorem cut_exact (way : Toward) (hw : way = .even ∨ way = .zero) (neg : Bool) (m k : Nat) : way.cut neg (m * 2 ^ k) k = m := by
  have hp : 0 < 2 ^ k := Nat.two_pow_pos k
  unfold Toward.cut
  rcases Nat.eq_zero_or_pos m with rfl | hm
  · rcases hw with rfl | rfl
    · simp
    · simp
  · have hl := log2_scale m k (by omega)
    have hmin : min k ((m * 2 ^ k).log2 + 2) = k := by omega
    simp only [hmin, Nat.one_shiftLeft]
    rw [Nat.mul_div_cancel _ hp, Nat.mul_mod_left]
    rcases hw with rfl | rfl
    · simp
    · simp

theorem nearest_eq (s : Bool) (m k : Nat) (h0 : m ≠ 0) (h1 : m < 2 ^ 53) :
    double.nearest s (m * 2 ^ k) (-(k : Int)) = double.word s ((m.log2 + 1022) * 2 ^ 52 + m * 2 ^ (52 - m.log2)) ∧ m.log2 ≤ 52 ∧ 2 ^ 52 ≤ m * 2 ^ (52 - m.log2) ∧ m * 2 ^ (52 - m.log2) < 2 ^ 53 := by
  have hb := (Nat.log2_eq_iff h0).1 rfl
  have hL : m.log2 ≤ 52 := by
    have := (Nat.log2_lt h0).2 h1
    omega
  have hp := Nat.two_pow_pos (52 - m.log2)
  have hlo : 2 ^ 52 ≤ m * 2 ^ (52 - m.log2) := by
    have := Nat.mul_le_mul_right (2 ^ (52 - m.log2)) hb.1
    rw [← Nat.pow_add] at this
    rwa [show m.log2 + (52 - m.log2) = 52 by omega] at this
  have hhi : m * 2 ^ (52 - m.log2) < 2 ^ 53 := by
    have := Nat.mul_lt_mul_of_pos_right hb.2 hp
    rw [← Nat.pow_add] at this
    rwa [show m.log2 + 1 + (52 - m.log2) = 53 by omega] at this
  refine ⟨?_, hL, hlo, hhi⟩
  have hk := Nat.two_pow_pos k
  have hne : ¬ m * 2 ^ k = 0 := by have := Nat.mul_pos (Nat.pos_of_ne_zero h0) hk; omega
  have hlog := log2_scale m k h0
  have hlp : double.leastPlace = -1074 := by decide
  have hinf : double.infRung = 2047 * 2 ^ 52 := by decide
  have hbin : double.binade = 2 ^ 52 := by decide
  have hfb : double.fractionBits = 52 := rfl
  unfold Format.nearest
  rw [if_neg hne]
  dsimp only
  rw [hlog, hlp, hinf, hbin, hfb]
  generalize m.log2 = L at *
  have hlast : max (-(k : Int) + ((L + k : Nat) : Int) - ((52 : Nat) : Int)) (-1074) = (L : Int) - 52 := by omega
  rw [hlast]
  have e1 : ((L : Int) - 52 - -1074).toNat = L + 1022 := by omega
  rw [e1]
  have hcut : Toward.even.cut s ((m * 2 ^ k) <<< (-(k : Int) - ((L : Int) - 52)).toNat) ((L : Int) - 52 - -(k : Int)).toNat = m * 2 ^ (52 - L) := by
    rcases Nat.le_total k (52 - L) with h | h
    · rw [show (-(k : Int) - ((L : Int) - 52)).toNat = 52 - L - k by omega, show ((L : Int) - 52 - -(k : Int)).toNat = 0 by omega, Nat.shiftLeft_eq, Nat.mul_assoc, ← Nat.pow_add, show k + (52 - L - k) = 52 - L by omega]
      have := cut_exact .even (.inl rfl) s (m * 2 ^ (52 - L)) 0
      rwa [Nat.pow_zero, Nat.mul_one] at this
    · rw [show (-(k : Int) - ((L : Int) - 52)).toNat = 0 by omega, show ((L : Int) - 52 - -(k : Int)).toNat = k - (52 - L) by omega, Nat.shiftLeft_zero]
      have := cut_exact .even (.inl rfl) s (m * 2 ^ (52 - L)) (k - (52 - L))
      rwa [Nat.mul_assoc, ← Nat.pow_add, show 52 - L + (k - (52 - L)) = k by omega] at this
  rw [hcut]
  congr 1
  apply Nat.min_eq_left
  omega

theorem read_word (s : Bool) (L M : Nat) (hL : L ≤ 52) (hlo : 2 ^ 52 ≤ M) (hhi : M < 2 ^ 53) : double.read (double.word s ((L + 1022) * 2 ^ 52 + M)) = .number s M ((L : Int) - 52) := by
  have hsw : double.signWeight = 2 ^ 63 := by decide
  have hlp : double.leastPlace = -1074 := by decide
  have hinf : double.infRung = 2047 * 2 ^ 52 := by decide
  have hbin : double.binade = 2 ^ 52 := by decide
  have hr : (L + 1022) * 2 ^ 52 + M < 2 ^ 63 := by omega
  have hmod : double.word s ((L + 1022) * 2 ^ 52 + M) % 2 ^ 63 = (L + 1022) * 2 ^ 52 + M := by
    unfold Format.word
    rw [hsw]
    split
    · rw [Nat.add_mod_left, Nat.mod_eq_of_lt hr]
    · exact Nat.mod_eq_of_lt hr
  have hneg : (double.word s ((L + 1022) * 2 ^ 52 + M) / 2 ^ 63 % 2 == 1) = s := by
    unfold Format.word
    rw [hsw]
    cases s
    · simp only [Bool.false_eq_true, if_false]
      rw [Nat.div_eq_of_lt hr]; rfl
    · simp only [if_true]
      rw [Nat.add_div_left _ (Nat.two_pow_pos 63), Nat.div_eq_of_lt hr]; rfl
  unfold Format.read
  rw [hsw, hlp, hinf, hbin]
  dsimp only
  rw [hmod, hneg, if_neg (by omega), if_pos (by omega)]
  have h1 : ((L + 1022) * 2 ^ 52 + M) / 2 ^ 52 = L + 1023 := by omega
  have h2 : ((L + 1022) * 2 ^ 52 + M) % 2 ^ 52 = M - 2 ^ 52 := by omega
  rw [h1, h2, show 2 ^ 52 + (M - 2 ^ 52) = M by omega, show (-1074 : Int) + ((L + 1023 - 1 : Nat) : Int) = (L : Int) - 52 by omega]

theorem is_word0 (s : Bool) : Is (double.word s 0) 0 := by
  have h : double.read (double.word s 0) = .number s 0 (-1074) := by cases s <;> decide +kernel
  have g : ∀ k : Nat, k = 1074 → double.read (double.word s 0) = .number s (0 * 2 ^ k) (-(k : Int)) := by
    intro k hk
    rw [h, Nat.zero_mul, hk]
    rfl
  obtain ⟨k, hk⟩ : ∃ k : Nat, k = 1074 := ⟨_, rfl⟩
  exact ⟨s, 0, k, g k hk, by cases s <;> rfl⟩

theorem is_nearest (s : Bool) (m k : Nat) (h : m < 2 ^ 53) : Is (double.nearest s (m * 2 ^ k) (-(k : Int))) (sg s m) := by
  rcases Nat.eq_zero_or_pos m with rfl | hm
  · have e : double.nearest s (0 * 2 ^ k) (-(k : Int)) = double.word s 0 := by
      unfold Format.nearest
      rw [if_pos (Nat.zero_mul _)]
    have e2 : sg s 0 = 0 := by cases s <;> rfl
    rw [e, e2]
    exact is_word0 s
  · obtain ⟨h1, h2, h3, h4⟩ := nearest_eq s m k (by omega) h
    refine ⟨s, m, 52 - m.log2, ?_, rfl⟩
    rw [h1, read_word s m.log2 _ h2 h3 h4]
    congr 1
    omega

theorem is_zero : Is 0 0 := is_word0 false
theorem is_one : Is 4607182418800017408 1 := ⟨false, 1, 52, by decide +kernel, rfl⟩

/-- A whole number below 2^53. -/
def Sm (n : Int) : Prop := -9007199254740992 < n ∧ n < 9007199254740992

theorem is_int (n : Int) (h : Sm n) : Is (floatOfInt .f64 n) n := by
  have e : floatOfInt .f64 n = double.nearest (decide (n < 0)) (n.natAbs * 2 ^ 0) (-((0 : Nat) : Int)) := by
    rw [Nat.pow_zero, Nat.mul_one]; rfl
  have := is_nearest (decide (n < 0)) n.natAbs 0 (by unfold Sm at h; omega)
  rw [e]
  have e2 : sg (decide (n < 0)) n.natAbs = n := by unfold sg; split <;> simp_all <;> omega
  rwa [e2] at this

theorem signed_scale (s : Bool) (m k up : Nat) : signed s (m * 2 ^ k) up = sg s m * 2 ^ (k + up) := by
  unfold signed sg
  rw [Nat.shiftLeft_eq, Nat.mul_assoc, ← Nat.pow_add]
  split <;> simp [Int.neg_mul]

theorem sum_is {s t : Bool} {m n i j : Nat} (h : Sm (sg s m + sg t n)) :
    ∃ d, (Datum.number s (m * 2 ^ i) (-(i : Int))).sum (Datum.number t (n * 2 ^ j) (-(j : Int))) = some d ∧ Is (double.write d) (sg s m + sg t n) := by
  refine ⟨_, rfl, ?_⟩
  rw [signed_scale, signed_scale]
  obtain ⟨K, hK⟩ : ∃ K, K = max i j := ⟨_, rfl⟩
  have hb : min (-(i : Int)) (-(j : Int)) = -(K : Int) := by omega
  rw [hb, show i + (-(i : Int) - -(K : Int)).toNat = K by omega, show j + (-(j : Int) - -(K : Int)).toNat = K by omega, ← Int.add_mul]
  generalize sg s m + sg t n = T at *
  have hp : (0 : Int) < 2 ^ K := Int.pow_pos (by decide)
  have e1 : (T * 2 ^ K).natAbs = T.natAbs * 2 ^ K := by
    rw [Int.natAbs_mul, Int.natAbs_pow]; rfl
  rw [e1]
  have hT : T.natAbs < 2 ^ 53 := by unfold Sm at h; omega
  show Is (double.nearest _ (T.natAbs * 2 ^ K) (-(K : Int))) T
  by_cases hz : T = 0
  · subst hz
    rw [if_pos (by simp)]
    have := is_nearest (s && t) 0 K (by decide)
    rw [show sg (s && t) 0 = 0 by cases s <;> cases t <;> rfl] at this
    simpa using this
  · have hz2 : ¬ T * 2 ^ K = 0 := by
      rw [Int.mul_eq_zero]; omega
    rw [if_neg hz2]
    have e2 : decide (T * 2 ^ K < 0) = decide (T < 0) := by
      rw [Bool.eq_iff_iff]
      simp only [decide_eq_true_eq]
      constructor
      · intro h1
        rcases Int.lt_or_le T 0 with h2 | h2
        · exact h2
        · have := Int.mul_nonneg h2 (Int.le_of_lt hp); omega
      · intro h1
        exact Int.mul_neg_of_neg_of_pos h1 hp
    have := is_nearest (decide (T < 0)) T.natAbs K hT
    have e3 : sg (decide (T < 0)) T.natAbs = T := by unfold sg; split <;> simp_all <;> omega
    rw [e3] at this
    rw [e2]
    exact this

theorem is_add {x y : Nat} {a b : Int} (hx : Is x a) (hy : Is y b) (h : Sm (a + b)) : ∃ r, floatBits .add .f64 x y = some r ∧ Is r (a + b) := by
  obtain ⟨s, m, i, h1, rfl⟩ := hx
  obtain ⟨t, n, j, h2, rfl⟩ := hy
  obtain ⟨d, hd, hi⟩ := sum_is (i := i) (j := j) h
  refine ⟨_, ?_, hi⟩
  show ((double.read x).sum (double.read y)).map double.write = _
  rw [h1, h2, hd]
  rfl

theorem is_sub {x y : Nat} {a b : Int} (hx : Is x a) (hy : Is y b) (h : Sm (a - b)) : ∃ r, floatBits .sub .f64 x y = some r ∧ Is r (a - b) := by
  obtain ⟨s, m, i, h1, rfl⟩ := hx
  obtain ⟨t, n, j, h2, rfl⟩ := hy
  have e : sg s m - sg t n = sg s m + sg (!t) n := by unfold sg; cases t <;> simp <;> omega
  rw [e] at h ⊢
  obtain ⟨d, hd, hi⟩ := sum_is (i := i) (j := j) h
  refine ⟨_, ?_, hi⟩
  show ((double.read x).sum (double.read y).opposite).map double.write = _
  rw [h1, h2]
  show ((Datum.number s (m * 2 ^ i) (-(i : Int))).sum (Datum.number (!t) (n * 2 ^ j) (-(j : Int)))).map double.write = _
  rw [hd]
  rfl

theorem is_mul {x y : Nat} {a b : Int} (hx : Is x a) (hy : Is y b) (h : Sm (a * b)) : ∃ r, floatBits .mul .f64 x y = some r ∧ Is r (a * b) := by
  obtain ⟨s, m, i, h1, rfl⟩ := hx
  obtain ⟨t, n, j, h2, rfl⟩ := hy
  have e : sg s m * sg t n = sg (s ^^ t) (m * n) := by unfold sg; cases s <;> cases t <;> simp [Int.neg_mul, Int.mul_neg]
  rw [e] at h ⊢
  refine ⟨double.nearest (s ^^ t) (m * n * 2 ^ (i + j)) (-((i + j : Nat) : Int)), ?_, is_nearest _ _ _ ?_⟩
  · show ((double.read x).product (double.read y)).map double.write = _
    rw [h1, h2]
    show some (double.nearest (s ^^ t) (m * 2 ^ i * (n * 2 ^ j)) (-(i : Int) + -(j : Int))) = _
    rw [show m * 2 ^ i * (n * 2 ^ j) = m * n * 2 ^ (i + j) by rw [Nat.pow_add]; simp only [Nat.mul_assoc, Nat.mul_left_comm], show -(i : Int) + -(j : Int) = -((i + j : Nat) : Int) by omega]
  · unfold Sm sg at h
    split at h <;> omega

theorem is_toInt {x : Nat} {a : Int} (hx : Is x a) (h : Sm a) : floatToIntVal .f64 x .i64 = some a := by
  obtain ⟨s, m, k, h1, rfl⟩ := hx
  have e : (FloatKind.f64.decode x).toInt .zero = some (sg s m) := by
    show (double.read x).toInt .zero = _
    rw [h1]
    unfold Datum.toInt Datum.integral
    dsimp only
    rw [show (-(k : Int)).toNat = 0 by omega, show (- -(k : Int)).toNat = k by omega, Nat.shiftLeft_zero, cut_exact .zero (.inr rfl)]
    unfold signed sg
    simp
  unfold floatToIntVal
  rw [e]
  dsimp only
  have h2 : IntKind.i64.min = -9223372036854775808 := by decide
  have h3 : IntKind.i64.max = 9223372036854775807 := by decide
  rw [if_pos (by rw [h2, h3]; unfold Sm at h; omega)]

/-- A complex number of whole parts. -/
def IsC (re im : Nat) (x y : Int) : Prop := Is re x ∧ Is im y

theorem isC_mul {a b c d : Nat} {x y u v : Int} (h : IsC a b x y) (k : IsC c d u v) (h1 : Sm (x * u)) (h2 : Sm (y * v)) (h3 : Sm (x * u - y * v)) (h4 : Sm (x * v)) (h5 : Sm (y * u)) (h6 : Sm (x * v + y * u)) :
    ∃ re im, cMulBits a b c d = some (re, im) ∧ IsC re im (x * u - y * v) (x * v + y * u) := by
  obtain ⟨p, hp, ip⟩ := is_mul h.1 k.1 h1
  obtain ⟨q, hq, iq⟩ := is_mul h.2 k.2 h2
  obtain ⟨re, hre, ire⟩ := is_sub ip iq h3
  obtain ⟨r, hr, ir⟩ := is_mul h.1 k.2 h4
  obtain ⟨s, hs, is⟩ := is_mul h.2 k.1 h5
  obtain ⟨im, him, iim⟩ := is_add ir is h6
  exact ⟨re, im, by simp [cMulBits, hp, hq, hre, hr, hs, him], ire, iim⟩

theorem isC_add {a b c d : Nat} {x y u v : Int} (h : IsC a b x y) (k : IsC c d u v) (h1 : Sm (x + u)) (h2 : Sm (y + v)) :
    ∃ re im, cSumBits .add .f64 a b c d = some (re, im) ∧ IsC re im (x + u) (y + v) := by
  obtain ⟨re, hre, ire⟩ := is_add h.1 k.1 h1
  obtain ⟨im, him, iim⟩ := is_add h.2 k.2 h2
  exact ⟨re, im, by simp [cSumBits, hre, him], ire, iim⟩
end TurF
