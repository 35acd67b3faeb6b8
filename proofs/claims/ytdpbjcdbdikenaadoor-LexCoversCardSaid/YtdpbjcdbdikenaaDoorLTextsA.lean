/- The law of texts in quotes. -/
import Derived.Test.YtdpbjcdbdikenaaDoorLNumbers
namespace Go.Proofs.YtdpbjcdbdikenaaDoor
open Go.RowKit LexM

/-- A byte in quotes; bytes in quotes. -/
def q1 (b : UInt8) : List UInt8 := if b = 10 then [92, 110] else if b = 9 then [92, 116] else if b = 34 then [92, 34] else if b = 92 then [92, 92] else [b]
def qs : List UInt8 → List UInt8
  | [] => []
  | b :: r => q1 b ++ qs r

theorem qs_append (a b : List UInt8) : qs (a ++ b) = qs a ++ qs b := by
  induction a with
  | nil => rfl
  | cons x a ih => rw [List.cons_append, qs, qs, ih, List.append_assoc]
theorem qs_take (l : List UInt8) (k : Nat) (h : k < l.length) : qs (l.take (k + 1)) = qs (l.take k) ++ q1 l[k] := by
  rw [List.take_succ_eq_append_getElem h, qs_append]
  simp [qs]
theorem q1_len (b : UInt8) : (q1 b).length ≤ 2 := by
  unfold q1
  split
  · decide
  · split
    · decide
    · split
      · decide
      · split <;> simp
theorem qs_len (l : List UInt8) : (qs l).length ≤ 2 * l.length := by
  induction l with
  | nil => exact Nat.le_refl _
  | cons b r ih => have := q1_len b; simp only [qs, List.length_append, List.length_cons]; omega

theorem uq_q1 (b : UInt8) (r : List UInt8) : (uq (q1 b ++ r)).1 = (uq r).1 ∧ ((uq r).1 = true → (uq (q1 b ++ r)).2.1 = b :: (uq r).2.1) ∧ (uq (q1 b ++ r)).2.2 = (uq r).2.2 + (q1 b).length := by
  have e110 : esc 110 = 10 := by decide
  have e116 : esc 116 = 9 := by decide
  have e34 : esc 34 = 34 := by decide
  have e92 : esc 92 = 92 := by decide
  unfold q1
  by_cases h1 : b = 10
  · rw [if_pos h1, show [(92 : UInt8), 110] ++ r = 92 :: 110 :: r from rfl, uq_esc r (by rw [e110]; decide), e110, h1]
    exact ⟨rfl, fun _ => rfl, rfl⟩
  · rw [if_neg h1]
    by_cases h2 : b = 9
    · rw [if_pos h2, show [(92 : UInt8), 116] ++ r = 92 :: 116 :: r from rfl, uq_esc r (by rw [e116]; decide), e116, h2]
      exact ⟨rfl, fun _ => rfl, rfl⟩
    · rw [if_neg h2]
      by_cases h3 : b = 34
      · rw [if_pos h3, show [(92 : UInt8), 34] ++ r = 92 :: 34 :: r from rfl, uq_esc r (by rw [e34]; decide), e34, h3]
        exact ⟨rfl, fun _ => rfl, rfl⟩
      · rw [if_neg h3]
        by_cases h4 : b = 92
        · rw [if_pos h4, show [(92 : UInt8), 92] ++ r = 92 :: 92 :: r from rfl, uq_esc r (by rw [e92]; decide), e92, h4]
          exact ⟨rfl, fun _ => rfl, rfl⟩
        · rw [if_neg h4, show [b] ++ r = b :: r from rfl]
          exact uq_one r h3 h4

theorem uq_qs (l r : List UInt8) : (uq (qs l ++ r)).1 = (uq r).1 ∧ ((uq r).1 = true → (uq (qs l ++ r)).2.1 = l ++ (uq r).2.1) ∧ (uq (qs l ++ r)).2.2 = (uq r).2.2 + (qs l).length := by
  induction l with
  | nil => exact ⟨rfl, fun _ => rfl, rfl⟩
  | cons b t ih =>
    have h := uq_q1 b (qs t ++ r)
    rw [qs, List.append_assoc]
    obtain ⟨i1, i2, i3⟩ := ih
    refine ⟨by rw [h.1, i1], fun hr => ?_, ?_⟩
    · rw [h.2.1 (by rw [i1]; exact hr), i2 hr]
      rfl
    · rw [h.2.2, i3, List.length_append]
      omega

theorem one_txt (t : List UInt8) : sk (34 :: t) = (0, true) ∧ one (34 :: t) = txt1 (34 :: t) := by
  have ho : opens (34 :: t) = false := by
    rcases t with _ | ⟨d, t⟩
    · exact opens_one _
    · rw [opens_cons]; rfl
  refine ⟨sk_no (by decide) ho, ?_⟩
  unfold one
  rw [List.headD_cons, if_neg (by decide), if_neg (by decide), if_pos (by decide)]

theorem toks_txt (l : List UInt8) : toks 0 (34 :: qs l ++ [34]) = (0, 0, [⟨5, l, 0⟩, ⟨0, [], (qs l).length + 2⟩]) := by
  obtain ⟨hs, h1⟩ := one_txt (qs l ++ [34])
  have hu := uq_qs l [34]
  rw [uq_quote] at hu
  have h2 : txt1 (34 :: (qs l ++ [34])) = (0, (qs l).length + 2, 5, l) := by
    unfold txt1
    rw [List.tail_cons, if_pos hu.1, hu.2.1 rfl, hu.2.2]
    simp only [List.append_nil, Prod.mk.injEq, and_true, true_and]
    omega
  rw [List.cons_append, toks_one 0 (l := 34 :: (qs l ++ [34])) (c := 34) (r := qs l ++ [34]) (by rw [hs]) (by rw [hs]; rfl) (by rw [h1, h2]), h1, h2, hs]
  simp only
  rw [List.drop_of_length_le (by simp), toks_nil]
  unfold pre
  rw [if_pos rfl]
  simp

theorem toks_open (l : List UInt8) : toks 0 (34 :: qs l) = (4, (qs l).length + 1, []) := by
  obtain ⟨hs, h1⟩ := one_txt (qs l)
  have hu := uq_qs l []
  rw [List.append_nil] at hu
  have h2 : txt1 (34 :: qs l) = (4, (qs l).length + 1, 0, []) := by
    unfold txt1
    rw [List.tail_cons, if_neg (by rw [hu.1]; simp [uq]), hu.2.2]
    simp [uq]
  rw [toks_err 0 (l := 34 :: qs l) (c := 34) (r := qs l) (by rw [hs]) (by rw [hs]; rfl) (by rw [h1, h2]; simp), h1, h2, hs]
  simp

theorem q1_of (b : UInt8) : ((b.toNat : Int) = 10 → q1 b = [92, 110]) ∧ ((b.toNat : Int) = 9 → q1 b = [92, 116]) ∧ ((b.toNat : Int) = 34 → q1 b = [92, 34]) ∧ ((b.toNat : Int) = 92 → q1 b = [92, 92]) ∧
    (¬ (b.toNat : Int) = 10 → ¬ (b.toNat : Int) = 9 → ¬ (b.toNat : Int) = 34 → ¬ (b.toNat : Int) = 92 → q1 b = [b]) := by
  have e1 := eqN b 10 (by decide)
  have e2 := eqN b 9 (by decide)
  have e3 := eqN b 34 (by decide)
  have e4 := eqN b 92 (by decide)
  refine ⟨fun h => ?_, fun h => ?_, fun h => ?_, fun h => ?_, fun h1 h2 h3 h4 => ?_⟩
  · rw [e1.2 h]; rfl
  · rw [e2.2 h]; rfl
  · rw [e3.2 h]; rfl
  · rw [e4.2 h]; rfl
  · unfold q1
    rw [if_neg (show ¬ b = 10 from fun e => h1 (e1.1 e)), if_neg (show ¬ b = 9 from fun e => h2 (e2.1 e)), if_neg (show ¬ b = 34 from fun e => h3 (e3.1 e)), if_neg (show ¬ b = 92 from fun e => h4 (e4.1 e))]

theorem eqTok_same (W : World) (a c : Int) (s : ByteArray) : (binOp .eql 33 (.agg #[.int .u8 a, .string s, .int .i64 c]) (.agg #[.int .u8 a, .string s, .int .i64 c])).run Tryd.prog W = .ok (.bool true) W := by
  rw [eqTok]; simp

theorem drewN_rd {w : World} {v : Value} {l : List UInt8} (h : Rd w v l) (n : Nat) : Rd (w.drewN n) v l := h.same fun _ _ => rfl
theorem Rd.drew {w : World} {v : Value} {l : List UInt8} (h : Rd w v l) : Rd w.drew v l := h.same fun _ _ => rfl

end Go.Proofs.YtdpbjcdbdikenaaDoor
