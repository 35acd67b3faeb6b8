/- The lexer, plain: what the laws say. -/
import Derived.Test.YtdpbjcdbdikenaaDoorLexO
namespace LexM
open Go.Proofs.YtdpbjcdbdikenaaDoor (shift)

theorem cmt_append : ∀ (n o : Nat) (l x : List UInt8) (k : Nat), l.length ≤ n → cmt o l = some k → cmt o (l ++ x) = some k := by
  intro n
  induction n with
  | zero => intro o l x k hl h; obtain rfl := List.eq_nil_of_length_eq_zero (Nat.le_zero.1 hl); rw [cmt_nil] at h; cases h
  | succ n ih =>
    intro o l x k hl h
    rcases l with _ | ⟨a, _ | ⟨b, t⟩⟩
    · rw [cmt_nil] at h; cases h
    · simp [cmt] at h
    · simp only [List.length_cons] at hl
      rw [List.cons_append, List.cons_append]
      have e1 : opens (a :: b :: (t ++ x)) = opens (a :: b :: t) := by rw [opens_cons, opens_cons]
      have e2 : closes (a :: b :: (t ++ x)) = closes (a :: b :: t) := by rw [closes_cons, closes_cons]
      rcases ho : opens (a :: b :: t) with _ | _
      · rcases hc : closes (a :: b :: t) with _ | _
        · rw [cmt_else o ho hc, Option.map_eq_some_iff] at h
          obtain ⟨m, hm, rfl⟩ := h
          rw [cmt_else o (e1.trans ho) (e2.trans hc)]
          have := ih o (b :: t) x m (by simp only [List.length_cons]; omega) hm
          rw [List.cons_append] at this
          rw [List.drop_succ_cons, List.drop_zero, this]
          rfl
        · rw [cmt_closes o hc] at h
          rw [cmt_closes o (e2.trans hc)]
          split at h
          · rename_i h1; rw [if_pos h1]; exact h
          · rename_i h1
            rw [if_neg h1]
            rw [Option.map_eq_some_iff] at h
            obtain ⟨m, hm, rfl⟩ := h
            have := ih (o - 1) t x m (by omega) hm
            rw [List.drop_succ_cons, List.drop_succ_cons, List.drop_zero, this]
            rfl
      · rw [cmt_opens o ho, Option.map_eq_some_iff] at h
        obtain ⟨m, hm, rfl⟩ := h
        rw [cmt_opens o (e1.trans ho)]
        have := ih (o + 1) t x m (by omega) hm
        rw [List.drop_succ_cons, List.drop_succ_cons, List.drop_zero, this]
        rfl

theorem opens_nl (c : UInt8) (t b : List UInt8) : opens (c :: t ++ 10 :: b) = opens (c :: t) := by
  rcases t with _ | ⟨d, t⟩
  · rw [opens_one]
    show opens (c :: 10 :: b) = false
    rw [opens_cons]
    simp
  · show opens (c :: d :: (t ++ 10 :: b)) = _
    rw [opens_cons, opens_cons]

/-- Blanks, with a line's end and more behind them. -/
theorem sk_nl : ∀ (n : Nat) (l b : List UInt8), l.length ≤ n → (sk l).2 = true →
    sk (l ++ 10 :: b) = if l.drop (sk l).1 = [] then ((sk l).1 + 1 + (sk b).1, (sk b).2) else sk l := by
  intro n
  induction n with
  | zero =>
    intro l b hl _
    obtain rfl := List.eq_nil_of_length_eq_zero (Nat.le_zero.1 hl)
    rw [List.nil_append, sk_sp (by decide), sk_nil]
    simp only [List.drop_nil, if_true]
    rw [Nat.add_comm 0 1, Nat.add_zero, Nat.add_comm]
  | succ n ih =>
    intro l b hl h2
    rcases l with _ | ⟨c, t⟩
    · rw [List.nil_append, sk_sp (by decide), sk_nil]
      simp only [List.drop_nil, if_true]
      rw [Nat.add_comm 0 1, Nat.add_zero, Nat.add_comm]
    · simp only [List.length_cons] at hl
      rcases hs : isSp c with _ | _
      · rcases ho : opens (c :: t) with _ | _
        · rw [sk_no hs ho]
          simp only [List.drop_zero]
          rw [if_neg (by simp)]
          have := opens_nl c t b
          rw [ho] at this
          exact sk_no hs this
        · cases hc : cmt 0 (c :: t) with
          | none => rw [sk_bad hs ho hc] at h2; cases h2
          | some k =>
            have hk := cmt_le _ 0 _ k (Nat.le_refl _) hc
            have ho' := opens_nl c t b
            rw [ho] at ho'
            have hc' := cmt_append _ 0 (c :: t) (10 :: b) k (Nat.le_refl _) hc
            rw [sk_cmt hs ho hc] at h2 ⊢
            simp only at h2 ⊢
            have := ih ((c :: t).drop k) b (by rw [List.length_drop, List.length_cons]; omega) h2
            have e := sk_cmt (c := c) (r := t ++ 10 :: b) hs ho' hc'
            rw [show c :: (t ++ 10 :: b) = (c :: t) ++ 10 :: b from rfl, List.drop_append_of_le_length hk.2, this] at e
            rw [e, List.drop_drop, Nat.add_comm k]
            by_cases hd : (c :: t).drop ((sk ((c :: t).drop k)).1 + k) = []
            · rw [if_pos hd, if_pos hd]
              simp only [Prod.mk.injEq, and_true]
              omega
            · rw [if_neg hd, if_neg hd]
      · rw [sk_sp hs] at h2 ⊢
        simp only at h2 ⊢
        have := ih t b (by omega) h2
        rw [List.cons_append, sk_sp hs, this, List.drop_succ_cons]
        by_cases hd : t.drop (sk t).1 = []
        · rw [if_pos hd, if_pos hd]
          simp only [Prod.mk.injEq, and_true]
          omega
        · rw [if_neg hd, if_neg hd]

theorem run_append (q : UInt8 → Bool) (y : UInt8) (x : List UInt8) (hy : q y = false) (l : List UInt8) : run q (l ++ y :: x) = run q l := by
  induction l with
  | nil => simp [run, hy]
  | cons a t ih => rw [List.cons_append, run, run, ih]

theorem uq_append : ∀ (n : Nat) (l x : List UInt8), l.length ≤ n → (uq l).1 = true → uq (l ++ x) = uq l := by
  intro n
  induction n with
  | zero => intro l x hl h; obtain rfl := List.eq_nil_of_length_eq_zero (Nat.le_zero.1 hl); simp [uq] at h
  | succ n ih =>
    intro l x hl h
    rcases l with _ | ⟨b, r⟩
    · simp [uq] at h
    · simp only [List.length_cons] at hl
      by_cases h34 : b = 34
      · subst h34; rw [List.cons_append, uq_quote, uq_quote]
      · by_cases h92 : b = 92
        · subst h92
          rcases r with _ | ⟨c, t⟩
          · rw [uq_end] at h; cases h
          · by_cases he : esc c = 0
            · rw [uq_bad t he] at h; cases h
            · simp only [List.length_cons] at hl
              rw [uq_esc t he] at h ⊢
              have := ih t x (by omega) h
              rw [List.cons_append, List.cons_append, uq_esc _ he, this]
        · have h1 := uq_one r h34 h92
          have h2 := uq_one (r ++ x) h34 h92
          rw [h1.1] at h
          have := ih r x (by omega) h
          rw [this] at h2
          rw [List.cons_append]
          exact Prod.ext (by rw [h2.1, h1.1]) (Prod.ext (by rw [h2.2.1 h, h1.2.1 h]) (by rw [h2.2.2, h1.2.2]))

theorem pfx_append : ∀ (k l : List UInt8) (y : UInt8) (x : List UInt8), y ∉ k → k.isPrefixOf (l ++ y :: x) = k.isPrefixOf l := by
  intro k
  induction k with
  | nil => intro l y x _; simp [List.isPrefixOf]
  | cons a k ih =>
    intro l y x hy
    rcases l with _ | ⟨b, l⟩
    · rw [List.nil_append]
      simp only [List.isPrefixOf]
      rw [Bool.and_eq_false_iff]
      left
      rw [beq_eq_false_iff_ne]
      rintro rfl
      exact hy List.mem_cons_self
    · rw [List.cons_append]
      simp only [List.isPrefixOf]
      rw [ih l y x (fun h => hy (List.mem_cons_of_mem _ h))]

theorem sgs_nl : ∀ k ∈ sgs, (10 : UInt8) ∉ k := by decide

theorem one_nl (c : UInt8) (t b : List UInt8) (h : (one (c :: t)).1 = 0) : one (c :: t ++ 10 :: b) = one (c :: t) := by
  have hw : run inNm (t ++ 10 :: b) = run inNm t := run_append _ _ _ (by decide) t
  have hwl := run_le inNm t
  have hdl := run_le isDg (c :: t)
  unfold one at h ⊢
  rw [List.cons_append, List.headD_cons] at *
  rw [List.headD_cons] at *
  split
  · rename_i h1
    rw [if_pos h1] at h
    unfold word1
    rw [List.tail_cons, List.tail_cons, hw, List.headD_cons, List.headD_cons]
    have ht : (c :: (t ++ 10 :: b)).take (run inNm t + 1) = (c :: t).take (run inNm t + 1) := by
      rw [List.take_succ_cons, List.take_succ_cons, List.take_append_of_le_length hwl]
    rw [ht]
    rcases t with _ | ⟨d, t⟩
    · simp only [List.nil_append, List.headD_cons, List.headD_nil]
      have : isLo 10 = isLo 0 := by decide
      rw [this]
      rfl
    · rw [List.cons_append, List.headD_cons, List.headD_cons]
  · rename_i h1
    rw [if_neg h1] at h
    split
    · rename_i h2
      rw [if_pos h2] at h
      unfold num1
      rw [← List.cons_append]
      have hd : run isDg (c :: t ++ 10 :: b) = run isDg (c :: t) := run_append _ _ _ (by decide) _
      rw [hd]
      have ht : (c :: t ++ 10 :: b).take (run isDg (c :: t)) = (c :: t).take (run isDg (c :: t)) := List.take_append_of_le_length hdl
      rw [ht, List.drop_append_of_le_length hdl]
      have hin : inNm (((c :: t).drop (run isDg (c :: t)) ++ 10 :: b).headD 0) = inNm (((c :: t).drop (run isDg (c :: t))).headD 0) := by
        rcases (c :: t).drop (run isDg (c :: t)) with _ | ⟨d, r⟩
        · simp only [List.nil_append, List.headD_cons, List.headD_nil]; decide
        · rw [List.cons_append, List.headD_cons, List.headD_cons]
      rw [hin]
    · rename_i h2
      rw [if_neg h2] at h
      split
      · rename_i h3
        rw [if_pos h3] at h
        unfold txt1 at h ⊢
        rw [List.tail_cons] at h ⊢
        rw [List.tail_cons]
        have hu : (uq t).1 = true := by
          rcases hh : (uq t).1 with _ | _
          · rw [if_neg (by simp [hh])] at h; cases h
          · rfl
        rw [uq_append _ t (10 :: b) (Nat.le_refl _) hu]
      · unfold sgn1
        have : sgs.find? (fun x => x.isPrefixOf (c :: (t ++ 10 :: b))) = sgs.find? (fun x => x.isPrefixOf (c :: t)) := by
          rw [← List.cons_append]
          have key : ∀ (L : List (List UInt8)), (∀ k ∈ L, (10 : UInt8) ∉ k) → L.find? (fun x => x.isPrefixOf (c :: t ++ 10 :: b)) = L.find? (fun x => x.isPrefixOf (c :: t)) := by
            intro L
            induction L with
            | nil => intro _; rfl
            | cons k L ih =>
              intro hL
              rw [List.find?_cons, List.find?_cons, pfx_append k _ _ _ (hL k List.mem_cons_self), ih (fun k hk => hL k (List.mem_cons_of_mem _ hk))]
          exact key sgs sgs_nl
        rw [this]

/-- Tokens, and faults, so many places further on. -/
def shR (n : Nat) (r : Nat × Nat × List Tk) : Nat × Nat × List Tk := (r.1, (if r.1 = 0 then r.2.1 else r.2.1 + n), r.2.2.map (shift n))

theorem shR_pre (n : Nat) (t : Tk) (r : Nat × Nat × List Tk) : shR n (pre t r) = pre (shift n t) (shR n r) := by
  unfold shR pre
  by_cases h : r.1 = 0
  · simp [h]
  · simp [h]

theorem tk_shift (n : Nat) : ∀ (m p : Nat) (l : List UInt8), tk m (p + n) l = shR n (tk m p l) := by
  intro m
  induction m with
  | zero => intro p l; rfl
  | succ m ih =>
    intro p l
    unfold tk
    split
    · cases h : l.drop (sk l).1 with
      | nil =>
        simp only [shR, if_true, List.map_cons, List.map_nil, shift]
        simp only [Prod.mk.injEq, List.cons.injEq, and_true, true_and, Tk.mk.injEq]
        omega
      | cons c r =>
        simp only
        split
        · rename_i h0
          rw [shR_pre, ← ih]
          congr 1
          · simp only [shift, Tk.mk.injEq, true_and]; omega
          · congr 1; omega
        · rename_i h0
          simp only [shR, if_neg h0, List.map_nil, Prod.mk.injEq, and_true, true_and]
          omega
    · simp only [shR, List.map_nil, Prod.mk.injEq, and_true, true_and]
      simp
      omega
theorem toks_shift (n p : Nat) (l : List UInt8) : toks (p + n) l = shR n (toks p l) := tk_shift n _ p l

/-- What is skipped at the head doesn't count. -/
theorem toks_skip (p n : Nat) (l l' : List UInt8) (h : sk l = ((sk l').1 + n, (sk l').2)) (hd : l.drop n = l') : toks p l = toks (p + n) l' := by
  have hd2 : l.drop (sk l).1 = l'.drop (sk l').1 := by rw [h, ← hd, List.drop_drop, hd, Nat.add_comm n]
  rcases h2 : (sk l').2 with _ | _
  · rw [toks_bad p (by rw [h]; exact h2), toks_bad (p + n) h2, h]
    simp only [Prod.mk.injEq, and_true, true_and]
    omega
  · have h2' : (sk l).2 = true := by rw [h]; exact h2
    cases hc : l'.drop (sk l').1 with
    | nil =>
      rw [toks_end p h2' (hd2.trans hc), toks_end (p + n) h2 hc, h]
      simp only [Prod.mk.injEq, List.cons.injEq, and_true, true_and, Tk.mk.injEq]
      omega
    | cons c r =>
      by_cases he : (one (c :: r)).1 = 0
      · rw [toks_one p h2' (hd2.trans hc) he, toks_one (p + n) h2 hc he, h]
        have e : p + ((sk l').1 + n) = p + n + (sk l').1 := by omega
        simp only
        rw [e]
      · rw [toks_err p h2' (hd2.trans hc) he, toks_err (p + n) h2 hc he, h]
        simp only [Prod.mk.injEq, and_true, true_and]
        omega

/-- Whatever holds of tokens. -/
theorem toks_ind {P : Nat → List UInt8 → Nat × Nat × List Tk → Prop}
    (bad : ∀ p l, (sk l).2 = false → P p l (4, p + (sk l).1, []))
    (fin : ∀ p l, (sk l).2 = true → l.drop (sk l).1 = [] → P p l (0, 0, [⟨0, [], p + (sk l).1⟩]))
    (err : ∀ p l c r, (sk l).2 = true → l.drop (sk l).1 = c :: r → (one (c :: r)).1 ≠ 0 → P p l ((one (c :: r)).1, p + (sk l).1 + (one (c :: r)).2.1, []))
    (step : ∀ p l c r, (sk l).2 = true → l.drop (sk l).1 = c :: r → (one (c :: r)).1 = 0 →
      P (p + (sk l).1 + (one (c :: r)).2.1) ((c :: r).drop (one (c :: r)).2.1) (toks (p + (sk l).1 + (one (c :: r)).2.1) ((c :: r).drop (one (c :: r)).2.1)) →
      P p l (pre ⟨(one (c :: r)).2.2.1, (one (c :: r)).2.2.2, p + (sk l).1⟩ (toks (p + (sk l).1 + (one (c :: r)).2.1) ((c :: r).drop (one (c :: r)).2.1)))) :
    ∀ (n p : Nat) (l : List UInt8), l.length ≤ n → P p l (toks p l) := by
  intro n
  induction n with
  | zero =>
    intro p l hn
    obtain rfl := List.eq_nil_of_length_eq_zero (Nat.le_zero.1 hn)
    rw [toks_end p (by rfl) (by rfl)]
    exact fin p [] rfl rfl
  | succ n ih =>
    intro p l hn
    rcases h2 : (sk l).2 with _ | _
    · rw [toks_bad p h2]; exact bad p l h2
    · cases hc : l.drop (sk l).1 with
      | nil => rw [toks_end p h2 hc]; exact fin p l h2 hc
      | cons c r =>
        by_cases he : (one (c :: r)).1 = 0
        · rw [toks_one p h2 hc he]
          have h1 := one_le c r
          have h3 := h1.2 he
          have h4 : (c :: r).length ≤ l.length := by rw [← hc, List.length_drop]; omega
          exact step p l c r h2 hc he (ih _ _ (by rw [List.length_drop]; omega))
        · rw [toks_err p h2 hc he]; exact err p l c r h2 hc he

theorem one_e (c : UInt8) (r : List UInt8) : (one (c :: r)).1 < 256 := by
  unfold one word1 num1 txt1 sgn1
  split
  · split
    · decide
    · split <;> simp
  · split
    · split
      · simp
      · split <;> simp
    · split
      · split <;> simp
      · split <;> simp

/-- Tokens that are in order are some, and have no place at fault; of others there are none. -/
theorem toks_ok (p : Nat) (l : List UInt8) : ((toks p l).1 = 0 → (toks p l).2.1 = 0 ∧ (toks p l).2.2 ≠ []) ∧ ((toks p l).1 ≠ 0 → (toks p l).2.2 = []) := by
  refine toks_ind (P := fun _ _ R => (R.1 = 0 → R.2.1 = 0 ∧ R.2.2 ≠ []) ∧ (R.1 ≠ 0 → R.2.2 = [])) ?_ ?_ ?_ ?_ _ p l (Nat.le_refl _)
  · intro p l h; simp
  · intro p l h h'; simp
  · intro p l c r h h' he; simp [he]
  · intro p l c r h h' he ih
    unfold pre
    by_cases h0 : (toks (p + (sk l).1 + (one (c :: r)).2.1) ((c :: r).drop (one (c :: r)).2.1)).1 = 0
    · rw [if_pos h0]; exact ⟨fun _ => ⟨(ih.1 h0).1, by simp⟩, fun h => absurd rfl h⟩
    · rw [if_neg h0]; exact ih

open Go.Proofs.YtdpbjcdbdikenaaDoor (app)

theorem pre_app (t : Tk) (o : List Tk) (r : Nat × Nat × List Tk) : pre t (app o r) = app (t :: o) r := by
  unfold pre app
  by_cases h : r.1 = 0 <;> simp [h]

/-- Two texts with a line's end between them. -/
theorem toks_join (b : List UInt8) (p : Nat) (l : List UInt8) (h : (toks p l).1 = 0) :
    toks p (l ++ 10 :: b) = app (toks p l).2.2.dropLast (toks (p + l.length + 1) b) := by
  refine toks_ind (P := fun p l R => R.1 = 0 → toks p (l ++ 10 :: b) = app R.2.2.dropLast (toks (p + l.length + 1) b)) ?_ ?_ ?_ ?_ _ p l (Nat.le_refl _) h
  · intro p l h h0; cases h0
  · intro p l h h' _
    have hs := sk_nl _ l b (Nat.le_refl _) h
    rw [if_pos h'] at hs
    have hle := sk_le _ l (Nat.le_refl _)
    have hge : l.length ≤ (sk l).1 := by
      have := congrArg List.length h'
      rw [List.length_drop, List.length_nil] at this
      omega
    have e : (sk l).1 = l.length := by omega
    rw [e] at hs
    have := toks_skip p (l.length + 1) (l ++ 10 :: b) b (by rw [hs, Nat.add_comm]) (by rw [List.drop_append, List.drop_of_length_le (by omega)]; simp)
    rw [this]
    unfold app
    split
    · rename_i h0
      rw [List.dropLast_singleton, List.nil_append, ← h0]
      rfl
    · rfl
  · intro p l c r h h' he h0; exact absurd h0 he
  · intro p l c r h h' he ih h0
    have hs := sk_nl _ l b (Nat.le_refl _) h
    rw [if_neg (by rw [h']; simp)] at hs
    have hle := sk_le _ l (Nat.le_refl _)
    have hd : (l ++ 10 :: b).drop (sk (l ++ 10 :: b)).1 = c :: (r ++ 10 :: b) := by
      rw [hs, List.drop_append_of_le_length hle, h']
      rfl
    have hone := one_nl c r b he
    have h1 := one_le c r
    have hp : (toks (p + (sk l).1 + (one (c :: r)).2.1) ((c :: r).drop (one (c :: r)).2.1)).1 = 0 := by
      unfold pre at h0
      split at h0
      · assumption
      · assumption
    have hne := (toks_ok _ _).1 hp
    have hlen : l.length = (sk l).1 + (c :: r).length := by rw [← h', List.length_drop]; omega
    rw [toks_one p (by rw [hs]; exact h) hd (by rw [← List.cons_append, hone]; exact he), hs, ← List.cons_append, hone, List.drop_append_of_le_length h1.1, ih hp, pre_app]
    unfold pre
    rw [if_pos hp]
    simp only
    rw [List.dropLast_cons_of_ne_nil hne.2]
    congr 2
    rw [List.length_drop]
    omega
end LexM
