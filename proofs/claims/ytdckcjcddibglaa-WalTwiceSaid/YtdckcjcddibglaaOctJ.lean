/- Plain mathematics: a number read is one whose bytes are made so. -/
import Derived.Test.YtdckcjcddibglaaOctQ
import Derived.Test.YtdckcjcddibglaaOctO
namespace Go.Proofs.Ytdckcjcddibglaa
open Go.RowKit OctM

theorem low_snoc (k n : Nat) : low (k + 1) n = low k (n / 256) ++ [dig n 0] := by
  unfold low
  rw [List.range_succ_eq_map, List.map_cons, List.reverse_cons, List.map_map]
  congr 2
  apply List.map_congr_left
  intro i _
  simp only [Function.comp, dig]
  rw [Nat.succ_eq_add_one, Nat.pow_succ', ← Nat.div_div_eq_div_mul]

theorem low_be (l : List UInt8) : low l.length (be l) = l := by
  obtain ⟨m, rfl⟩ : ∃ m : List UInt8, l = m.reverse := ⟨l.reverse, by simp⟩
  induction m with
  | nil => rfl
  | cons b t ih =>
    have hb := b.toNat_lt
    rw [List.reverse_cons, be_snoc, List.length_append, List.length_singleton, low_snoc, show (be t.reverse * 256 + b.toNat) / 256 = be t.reverse by omega, ih]
    congr 2
    apply UInt8.toNat_inj.1
    simp [dig]

theorem enc_low (n : Nat) : enc n = UInt8.ofNat (nd n) :: low (nd n) n := rfl

theorem be_cons (x : UInt8) (t : List UInt8) : be (x :: t) = x.toNat * 256 ^ t.length + be t := by
  obtain ⟨m, rfl⟩ : ∃ m : List UInt8, t = m.reverse := ⟨t.reverse, by simp⟩
  induction m with
  | nil => simp [be]
  | cons b t ih =>
    rw [List.reverse_cons, ← List.cons_append, be_snoc, be_snoc, ih, List.length_append, List.length_singleton, Nat.pow_succ, Nat.add_mul, Nat.mul_assoc, Nat.add_assoc]

/-- The bytes of the number that bytes are, are those ones: unless the first one is 0. -/
theorem enc_be (d : List UInt8) : enc (be d) = UInt8.ofNat d.length :: d ↔ nd (be d) = d.length := by
  constructor
  · intro h
    have := congrArg List.length h
    rw [enc_length, List.length_cons] at this
    omega
  · intro h
    rw [enc_low, h, low_be]

theorem nd_be_cons (x : UInt8) (t : List UInt8) (h8 : t.length + 1 ≤ 8) : nd (be (x :: t)) = t.length + 1 ↔ ¬ x.toNat = 0 := by
  have hlt := be_lt t
  have hlt2 := be_lt (x :: t)
  have h64 := be_lt8 (x :: t) (by simpa using h8)
  have hb := nd_bound _ h64
  have hc := be_cons x t
  rw [List.length_cons] at hlt2
  have hle : nd (be (x :: t)) ≤ t.length + 1 := by
    rcases Nat.eq_zero_or_pos (nd (be (x :: t))) with h | h
    · omega
    · have h1 := nd_lower _ h
      have h2 : 256 ^ (nd (be (x :: t)) - 1) < 256 ^ (t.length + 1) := Nat.lt_of_le_of_lt h1 hlt2
      have h3 := (Nat.pow_lt_pow_iff_right (by decide : 1 < 256)).1 h2
      omega
  constructor
  · intro h hx
    have h1 := nd_lower (be (x :: t)) (by omega)
    rw [h, Nat.add_sub_cancel, hc, hx, Nat.zero_mul, Nat.zero_add] at h1
    omega
  · intro hx
    rcases Nat.lt_or_ge (nd (be (x :: t))) (t.length + 1) with h | h
    · have h1 : 256 ^ nd (be (x :: t)) ≤ 256 ^ t.length := Nat.pow_le_pow_right (by decide) (by omega)
      have h2 : 1 * 256 ^ t.length ≤ x.toNat * 256 ^ t.length := Nat.mul_le_mul_right _ (by omega)
      rw [Nat.one_mul] at h2
      have h3 := Nat.lt_of_lt_of_le hb (Nat.le_trans h1 h2)
      omega
    · omega

theorem be_nil_nd : nd (be []) = 0 := by decide

/-- The next number, as the reference has it. -/
theorem uintS_none : uintS none = (0, none) := rfl
theorem uintS_empty : uintS (some []) = (0, none) := rfl

theorem uintS_far (x : UInt8) (t : List UInt8) (h : 8 < x.toNat ∨ t.length < x.toNat) : uintS (some (x :: t)) = (0, none) := by
  have e : takeS (some (x :: t)) 1 = ([x], some t) := by simp [takeS]
  by_cases h8 : 8 < x.toNat
  · have hs : sizeS (some (x :: t)) = (0, none) := sizeS_big (by rw [e]) h8
    rw [uintS_nil] <;> rw [hs] <;> rfl
  · have hs : sizeS (some (x :: t)) = (x.toNat, some t) := by rw [sizeS_ok (by rw [e]) h8, e]
    have ht : takeS (some t) x.toNat = ([], none) := by simp [takeS]; omega
    rw [uintS_nil] <;> rw [hs, ht]

theorem uintS_near (x : UInt8) (t : List UInt8) (h8 : ¬ 8 < x.toNat) (hl : x.toNat ≤ t.length) :
    uintS (some (x :: t)) = if enc (be (t.take x.toNat)) = x :: t.take x.toNat then (be (t.take x.toNat), some (t.drop x.toNat)) else (0, none) := by
  have e : takeS (some (x :: t)) 1 = ([x], some t) := by simp [takeS]
  have hs : sizeS (some (x :: t)) = (x.toNat, some t) := by rw [sizeS_ok (by rw [e]) h8, e]
  have ht : takeS (some t) x.toNat = (t.take x.toNat, some (t.drop x.toNat)) := takeS_le hl
  have hlen : (t.take x.toNat).length = x.toNat := by rw [List.length_take]; omega
  have hx : x = UInt8.ofNat (t.take x.toNat).length := by rw [hlen]; simp
  have hE : (enc (be (t.take x.toNat)) = x :: t.take x.toNat) ↔ nd (be (t.take x.toNat)) = x.toNat := by
    have := enc_be (t.take x.toNat)
    rw [← hx, hlen] at this
    exact this
  have hfst : (takeS (sizeS (some (x :: t))).2 (sizeS (some (x :: t))).1) = (t.take x.toNat, some (t.drop x.toNat)) := by rw [hs, ht]
  generalize hd : t.take x.toNat = d at *
  rcases d with _ | ⟨y, u⟩
  · rw [if_pos (hE.2 (by rw [be_nil_nd]; simpa using hlen)), uintS_nil (by rw [hfst]), hfst]
    rfl
  · have hn := nd_be_cons y u (by rw [List.length_cons] at hlen; omega)
    rw [List.length_cons] at hlen
    rw [hlen] at hn
    by_cases hy : y.toNat = 0
    · rw [if_neg (fun h => hn.1 (hE.1 h) hy), uintS_zero (by rw [hfst]) hy]
    · rw [if_pos (hE.2 (hn.2 hy)), uintS_ok (by rw [hfst]) hy, hfst]

theorem be_low (k n : Nat) : be (low k n) = n % 256 ^ k := by
  induction k generalizing n with
  | zero => simp [low, be, Nat.mod_one]
  | succ k ih =>
    rw [low_snoc, be_snoc, ih, Nat.pow_succ', Nat.mod_mul]
    have e : (dig n 0).toNat = n % 256 := by simp [dig]
    rw [e]
    omega

theorem low_length (k n : Nat) : (low k n).length = k := by simp [low]

/-- A number that was laid is read. -/
theorem uintS_enc (n : Nat) (r : List UInt8) (h : n < 18446744073709551616) : uintS (some (enc n ++ r)) = (n, some r) := by
  have h8 := nd_le n
  have hx : (UInt8.ofNat (nd n)).toNat = nd n := by simp; omega
  have ht : (low (nd n) n ++ r).take (nd n) = low (nd n) n := List.take_left' (low_length _ _)
  have hd : (low (nd n) n ++ r).drop (nd n) = r := List.drop_left' (low_length _ _)
  have hb : be (low (nd n) n) = n := by rw [be_low, Nat.mod_eq_of_lt (nd_bound n h)]
  have e := uintS_near (UInt8.ofNat (nd n)) (low (nd n) n ++ r) (by rw [hx]; omega) (by rw [hx, List.length_append, low_length]; omega)
  rw [hx, ht, hd, hb, if_pos (enc_low n)] at e
  exact e

theorem unzig_zig (n : Int) : unzig (zig n) = n := by
  unfold zig
  by_cases h : n < 0
  · rw [if_pos h]
    unfold unzig
    split <;> omega
  · rw [if_neg h]
    unfold unzig
    split <;> omega
end Go.Proofs.Ytdckcjcddibglaa
