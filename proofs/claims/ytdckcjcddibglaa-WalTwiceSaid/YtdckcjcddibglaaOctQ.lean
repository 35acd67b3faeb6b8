/- The reader: size, Uint, Int, Upto, Bytes, Text, End; NewReader. -/
import Derived.Test.YtdckcjcddibglaaOctR
namespace Go.Proofs.Ytdckcjcddibglaa
open Go.RowKit OctM

/-- A slice beside the reader: without a byte, or with a first one. -/
theorem Rg.parts {ptr : Option Addr} {w : World} {v : Value} {l : List UInt8} (h : Rg ptr w v l) :
    (l = [] ∧ ∃ o c, v = .slice o 0 c) ∨ ∃ x t g off c, l = x :: t ∧ v = .slice (some ⟨g, off, none⟩) (t.length + 1) c ∧ Off ptr g ∧ t.length + 1 ≤ c ∧ c ≤ maxLen ∧ ∀ j u, (x :: t)[j]? = some u → w.cell? ⟨g, off + j, none⟩ = some (B u) := by
  rcases h with ⟨rfl, rfl⟩ | ⟨g, off, c, rfl, ho, hl, hm, hc⟩
  · exact .inl ⟨rfl, _, _, rfl⟩
  · rcases l with _ | ⟨x, t⟩
    · exact .inl ⟨rfl, _, _, rfl⟩
    · exact .inr ⟨x, t, g, off, c, rfl, rfl, ho, hl, hm, hc⟩

/-- Of how many bytes the next number is. -/
def sizeS (s : Option (List UInt8)) : Nat × Option (List UInt8) :=
  match takeS s 1 with
  | ([], s') => (0, s')
  | (k :: _, s') => if 8 < k.toNat then (0, none) else (k.toNat, s')

theorem sizeS_nil {s : Option (List UInt8)} (h : (takeS s 1).1 = []) : sizeS s = (0, (takeS s 1).2) := by
  unfold sizeS
  split
  · next h1 => rw [h1]
  · next h1 => rw [h1] at h; cases h
theorem sizeS_big {s : Option (List UInt8)} {x : UInt8} {t : List UInt8} (h : (takeS s 1).1 = x :: t) (hx : 8 < x.toNat) : sizeS s = (0, none) := by
  unfold sizeS
  split
  · next h1 => rw [h1] at h; cases h
  · next h1 => rw [h1] at h; injection h with h _; subst h; rw [if_pos hx]
theorem sizeS_ok {s : Option (List UInt8)} {x : UInt8} {t : List UInt8} (h : (takeS s 1).1 = x :: t) (hx : ¬ 8 < x.toNat) : sizeS s = (x.toNat, (takeS s 1).2) := by
  unfold sizeS
  split
  · next h1 => rw [h1] at h; cases h
  · next h1 => rw [h1] at h; injection h with h _; subst h; rw [if_neg hx, h1]

theorem sizeS_le (s : Option (List UInt8)) : (sizeS s).1 ≤ 8 := by
  unfold sizeS
  split
  · simp
  · split <;> simp; omega

/-- What a read of a number leaves. -/
structure NPost (ptr : Option Addr) (w w' : World) (k : IntKind) (n : Int) (s : Option (List UInt8)) (e : Ending) : Prop where
  ret : e = .returned (.int k n)
  st : RS w' ptr s
  kept : Kept (own1 ptr) w w'

set_option maxHeartbeats 2000000 in
set_option maxRecDepth 100000 in
theorem rsize (ptr : Option Addr) (s : Option (List UInt8)) (w : World) (h : RS w ptr s) :
    Calls Try.prog 57 #[.pointer ptr] w fun e w' => NPost ptr w w' .i64 (sizeS s).1 (sizeS s).2 e := by
  have H := Lib.hid (rtake ptr s 1 w h (by omega) (by omega))
  go_enter Try.func57, Try.ntmps57
  go_wp2_with fail
  refine H.out.mono ?_
  rintro e w1 ⟨⟨v, rfl, hg⟩, hs, hk⟩
  simp only [show (1 : Int).toNat = 1 from rfl] at hg hs
  rcases hg.parts with ⟨h1, o, c, rfl⟩ | ⟨x, t, g, off, c, h1, rfl, ho, hl, hm, hc⟩
  · have hz := sizeS_nil h1
    have HZ := Lib.hid hz
    clear hz h1 hg
    go_wp2_with fail
    go_ret
    rw [HZ.out]
    exact ⟨rfl, hs, hk⟩
  · have c0 : w1.cell? ⟨g, off, none⟩ = some (.int .u8 (x.toNat : Int)) := hc 0 x rfl
    have hx0 : (0 : Int) ≤ (x.toNat : Int) := by omega
    have hx1 : (x.toNat : Int) < 256 := by have := x.toNat_lt; omega
    unfold maxLen at hm
    have hlen : (0 : Int) < (t.length : Int) + 1 := by omega
    by_cases hx : 8 < x.toNat
    · have hz := sizeS_big h1 hx
      have HZ := Lib.hid hz
      have hd : (8 : Int) < (x.toNat : Int) := by omega
      have H2 := Lib.hid (rfail ptr _ w1 hs)
      generalize x.toNat = X at *
      clear hz h1 hg hc hs
      go_wp2_with fail
      refine H2.out.mono ?_
      rintro e w2 ⟨rfl, h3, h4⟩
      go_wp2_with fail
      go_ret
      rw [HZ.out]
      exact ⟨rfl, h3, hk.trans h4⟩
    · have hz := sizeS_ok h1 hx
      have HZ := Lib.hid hz
      have hd : (x.toNat : Int) ≤ 8 := by omega
      generalize x.toNat = X at *
      clear hz h1 hg hc
      go_wp2_with fail
      go_ret
      rw [HZ.out]
      exact ⟨rfl, hs, hk⟩

/-- The bytes as a number, the highest first. -/
def be (l : List UInt8) : Nat := l.foldl (fun n b => n * 256 + b.toNat) 0

/-- The next number. -/
def uintS (s : Option (List UInt8)) : Nat × Option (List UInt8) :=
  match takeS (sizeS s).2 (sizeS s).1 with
  | ([], s') => (0, s')
  | (x :: t, s') => if x.toNat = 0 then (0, none) else (be (x :: t), s')

theorem uintS_nil {s : Option (List UInt8)} (h : (takeS (sizeS s).2 (sizeS s).1).1 = []) : uintS s = (0, (takeS (sizeS s).2 (sizeS s).1).2) := by
  unfold uintS
  split
  · next h1 => rw [h1]
  · next h1 => rw [h1] at h; cases h
theorem uintS_zero {s : Option (List UInt8)} {x : UInt8} {t : List UInt8} (h : (takeS (sizeS s).2 (sizeS s).1).1 = x :: t) (hx : x.toNat = 0) : uintS s = (0, none) := by
  unfold uintS
  split
  · next h1 => rw [h1] at h; cases h
  · next h1 => rw [h1] at h; injection h with h _; subst h; rw [if_pos hx]
theorem uintS_ok {s : Option (List UInt8)} {x : UInt8} {t : List UInt8} (h : (takeS (sizeS s).2 (sizeS s).1).1 = x :: t) (hx : ¬ x.toNat = 0) : uintS s = (be (x :: t), (takeS (sizeS s).2 (sizeS s).1).2) := by
  unfold uintS
  split
  · next h1 => rw [h1] at h; cases h
  · next h1 => rw [h1] at h; injection h with h h2; subst h; subst h2; rw [if_neg hx, h1]

theorem takeS_len (s : Option (List UInt8)) (n : Nat) : (takeS s n).1.length ≤ n := by
  unfold takeS
  split
  · simp
  · split
    · simp; omega
    · simp

theorem be_snoc (l : List UInt8) (b : UInt8) : be (l ++ [b]) = be l * 256 + b.toNat := by simp [be, List.foldl_append]
theorem be_from (l : List UInt8) (a : Nat) : l.foldl (fun n b => n * 256 + b.toNat) a < (a + 1) * 256 ^ l.length := by
  induction l generalizing a with
  | nil => simp
  | cons b t ih =>
    have hb := b.toNat_lt
    have h1 := ih (a * 256 + b.toNat)
    have h2 : (a * 256 + b.toNat + 1) * 256 ^ t.length ≤ ((a + 1) * 256) * 256 ^ t.length := Nat.mul_le_mul_right _ (by omega)
    rw [List.length_cons, Nat.pow_succ, Nat.mul_comm (256 ^ t.length) 256, ← Nat.mul_assoc]
    exact Nat.lt_of_lt_of_le h1 h2
theorem be_lt (l : List UInt8) : be l < 256 ^ l.length := by
  have := be_from l 0
  simpa [be] using this
theorem be_lt7 (l : List UInt8) (h : l.length ≤ 7) : be l < 72057594037927936 :=
  Nat.lt_of_lt_of_le (be_lt l) (Nat.pow_le_pow_right (n := 256) (by omega) h)
theorem be_lt8 (l : List UInt8) (h : l.length ≤ 8) : be l < 18446744073709551616 :=
  Nat.lt_of_lt_of_le (be_lt l) (Nat.pow_le_pow_right (n := 256) (by omega) h)

theorem or_byte (x b : Nat) (hx : x < 72057594037927936) (hb : b < 256) : bits .or .u64 (IntKind.u64.wrap ((x : Int) * 256)) (b : Int) = ((x * 256 + b : Nat) : Int) := by
  have e : IntKind.u64.wrap ((x : Int) * 256) = ((x * 256 : Nat) : Int) := by rw [IntKind.wrap_u64]; omega
  have h := Nat.two_pow_add_eq_or_of_lt (i := 8) (b := b) (by omega) x
  rw [show (2 : Nat) ^ 8 = 256 from rfl, Nat.mul_comm 256 x] at h
  rw [e, u64_or_nat _ _ (by omega) (by omega), h]

theorem be_hid {l : List UInt8} {k x y : Nat} (hk : k < l.length) (h : Hid (x = be (l.take k))) (hy : y = x * 256 + l[k].toNat) : Hid (y = be (l.take (k + 1))) := by
  have := h.out
  show y = _
  rw [List.take_succ_eq_append_getElem hk, be_snoc, hy, this]

set_option maxHeartbeats 4000000 in
set_option maxRecDepth 100000 in
theorem ruint (ptr : Option Addr) (s : Option (List UInt8)) (w : World) (h : RS w ptr s) :
    Calls Try.prog 47 #[.pointer ptr] w fun e w' => NPost ptr w w' .u64 (uintS s).1 (uintS s).2 e := by
  have H := Lib.hid (rsize ptr s w h)
  have hle := sizeS_le s
  go_enter Try.func47, Try.ntmps47
  go_wp2_with fail
  refine H.out.mono ?_
  rintro e w1 ⟨rfl, hs1, hk1⟩
  have H1 := Lib.hid (rtake ptr _ (sizeS s).1 w1 hs1 (by omega) (by omega))
  go_wp2_with fail
  refine H1.out.mono ?_
  rintro e w2 ⟨⟨v, rfl, hg⟩, hs2, hk2⟩
  rw [Int.toNat_natCast] at hg hs2
  have hlen := takeS_len (sizeS s).2 (sizeS s).1
  have hk := hk1.trans hk2
  rcases hg.parts with ⟨h1, o, c, rfl⟩ | ⟨x, t, g, off, c, h1, rfl, ho, hl, hm, hc⟩
  · have HZ := Lib.hid (uintS_nil h1)
    clear h1 hg
    go_wp2_with fail
    go_ret
    rw [HZ.out]
    exact ⟨rfl, hs2, hk⟩
  · have c0 : w2.cell? ⟨g, off, none⟩ = some (.int .u8 (x.toNat : Int)) := hc 0 x rfl
    have hx0 : (0 : Int) ≤ (x.toNat : Int) := by omega
    have hx1 : (x.toNat : Int) < 256 := by have := x.toNat_lt; omega
    rw [h1, List.length_cons] at hlen
    have hl8 : t.length + 1 ≤ 8 := by omega
    unfold maxLen at hm
    have hlen0 : (0 : Int) < (t.length : Int) + 1 := by omega
    have hlen1 : (t.length : Int) + 1 ≤ 8 := by omega
    by_cases hx : x.toNat = 0
    · have HZ := Lib.hid (uintS_zero h1 hx)
      have hd : ((x.toNat : Int) == 0) = true := by simp [hx]
      have H2 := Lib.hid (rfail ptr _ w2 hs2)
      clear h1 hg hc hs2 hx hk1 hk2
      generalize x.toNat = X at *
      go_wp2_with fail
      refine H2.out.mono ?_
      rintro e w3 ⟨rfl, h3, h4⟩
      go_wp2_with fail
      go_ret
      rw [HZ.out]
      exact ⟨rfl, h3, hk.trans h4⟩
    · have HZ := Lib.hid (uintS_ok h1 hx)
      have hd : ((x.toNat : Int) == 0) = false := by simp; omega
      have HC := Lib.hid hc
      clear h1 hg hc hx hk1 hk2
      go_wp2_with fail
      go_loop [4, 22] (fun n i => ∃ k y : Nat, k ≤ t.length + 1 ∧ i = .int .i64 k ∧ n = .int .u64 (y : Int) ∧ Hid (y = be ((x :: t).take k))) (fun _ i => t.length + 1 - (intOf i).toNat)
      case atStart => exact ⟨0, 0, by omega, rfl, rfl, rfl⟩
      case round =>
        obtain ⟨k, y, hkl, rfl, rfl, hy⟩ := hrel
        by_cases hlt : k < t.length + 1
        · have hcell := HC.out k ((x :: t)[k]'(by simpa using hlt)) (by simp [hlt])
          unfold B at hcell
          have hb := ((x :: t)[k]'(by simpa using hlt)).toNat_lt
          have fin := fun z hz => be_hid (l := x :: t) (k := k) (y := z) (by simpa using hlt) hy hz
          have hyl : y < 72057594037927936 := by rw [hy.out]; exact be_lt7 _ (by rw [List.length_take]; omega)
          have hd : decide ((k : Int) < (t.length : Int) + 1) = true := by simp; omega
          generalize ((x :: t)[k]'(by simpa using hlt)).toNat = u at *
          have hor := Lib.hid (or_byte y u hyl (by omega))
          have HF := Lib.hid (fin _ rfl)
          have hb' : (u : Int) < 256 := by omega
          clear fin hyl hb
          go_wp2_with fail
          go_round
          case rel => exact ⟨k + 1, y * 256 + u, by omega, by go_num, by rw [hor.out], HF.out⟩
          case measure => simp [intOf]; omega
        · have hd : decide ((k : Int) < (t.length : Int) + 1) = false := by simp; omega
          have hkl' : k = t.length + 1 := by omega
          have hy' : Hid (y = be (x :: t)) := by
            have := hy.out
            rw [hkl', List.take_of_length_le (by simp)] at this
            exact this
          clear hkl' hy
          repeat go_step
          go_ret
          rw [HZ.out]
          exact ⟨by rw [← hy'.out]; rfl, hs2, hk⟩

/-- The next number with a sign. -/
def unzig (n : Nat) : Int := if n % 2 = 1 then -((n / 2 : Nat) : Int) - 1 else ((n / 2 : Nat) : Int)

end Go.Proofs.Ytdckcjcddibglaa
