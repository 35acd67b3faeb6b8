/- Texts in quotes: the plain words. -/
import Derived.Lib.Hide
namespace PriM

/-- A byte in quotes; bytes in quotes; a text in quotes. -/
def es (c : UInt8) : List UInt8 := if c = 92 then [92, 92] else if c = 34 then [92, 34] else if c = 10 then [92, 110] else if c = 9 then [92, 116] else [c]
def fl (l : List UInt8) : List UInt8 := l.flatMap es
def qt (l : List UInt8) : List UInt8 := 34 :: (fl l ++ [34])

theorem u8_iff (m : UInt8) (n : Nat) (h : n < 256) : (m.toNat : Int) = (n : Int) ↔ m = UInt8.ofNat n := by
  constructor
  · intro h1
    apply UInt8.toNat_inj.1
    rw [UInt8.toNat_ofNat_of_lt' (by simpa using h)]
    omega
  · intro h1
    rw [h1, UInt8.toNat_ofNat_of_lt' (by simpa using h)]
theorem es_92 {m : UInt8} (h : (m.toNat : Int) = 92) : es m = [92, 92] := by
  rw [(u8_iff m 92 (by decide)).1 h]; decide
theorem es_34 {m : UInt8} (h : (m.toNat : Int) = 34) : es m = [92, 34] := by
  rw [(u8_iff m 34 (by decide)).1 h]; decide
theorem es_10 {m : UInt8} (h : (m.toNat : Int) = 10) : es m = [92, 110] := by
  rw [(u8_iff m 10 (by decide)).1 h]; decide
theorem es_9 {m : UInt8} (h : (m.toNat : Int) = 9) : es m = [92, 116] := by
  rw [(u8_iff m 9 (by decide)).1 h]; decide
theorem es_one {m : UInt8} (h1 : (m.toNat : Int) ≠ 92) (h2 : (m.toNat : Int) ≠ 34) (h3 : (m.toNat : Int) ≠ 10) (h4 : (m.toNat : Int) ≠ 9) : es m = [m] := by
  unfold es
  rw [if_neg (show ¬ m = 92 from fun e => h1 (by rw [e]; rfl)), if_neg (show ¬ m = 34 from fun e => h2 (by rw [e]; rfl)), if_neg (show ¬ m = 10 from fun e => h3 (by rw [e]; rfl)), if_neg (show ¬ m = 9 from fun e => h4 (by rw [e]; rfl))]
theorem es_len (m : UInt8) : 1 ≤ (es m).length ∧ (es m).length ≤ 2 := by
  unfold es
  split
  · decide
  · split
    · decide
    · split
      · decide
      · split
        · decide
        · exact ⟨Nat.le_refl _, Nat.le_succ _⟩
theorem fl_append (a b : List UInt8) : fl (a ++ b) = fl a ++ fl b := by simp [fl]
theorem fl_one (c : UInt8) : fl [c] = es c := by simp [fl]
theorem fl_len (l : List UInt8) : l.length ≤ (fl l).length ∧ (fl l).length ≤ 2 * l.length := by
  induction l with
  | nil => exact ⟨Nat.le_refl _, Nat.le_refl _⟩
  | cons c l ih =>
    have h := es_len c
    have e : fl (c :: l) = es c ++ fl l := by simp [fl]
    rw [e, List.length_append, List.length_cons]
    omega
theorem fl_take (l : List UInt8) (k : Nat) (h : k < l.length) : fl (l.take (k + 1)) = fl (l.take k) ++ es l[k] := by
  rw [List.take_succ_eq_append_getElem h, fl_append, fl_one]
theorem fl_split (l : List UInt8) (k : Nat) : fl l = fl (l.take k) ++ fl (l.drop k) := by rw [← fl_append, List.take_append_drop]
theorem fl_drop (l : List UInt8) (k : Nat) (h : k < l.length) : fl (l.drop k) = es l[k] ++ fl (l.drop (k + 1)) := by
  rw [List.drop_eq_getElem_cons h, ← List.singleton_append, fl_append, fl_one]
theorem fl_take_le (l : List UInt8) (k : Nat) : (fl (l.take k)).length ≤ 2 * k := by
  have := (fl_len (l.take k)).2
  have h2 := List.length_take_le k l
  omega
theorem qt_len (l : List UInt8) : (qt l).length = (fl l).length + 2 := by simp [qt]
end PriM
