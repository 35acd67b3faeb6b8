/- The lexer, plain: what each of its functions comes to, on lists of bytes. -/
namespace LexM

def isSp (b : UInt8) : Bool := b == 32 || b == 9 || b == 10 || b == 13
def isLo (b : UInt8) : Bool := decide (97 ≤ b.toNat) && decide (b.toNat ≤ 122)
def isUp (b : UInt8) : Bool := decide (65 ≤ b.toNat) && decide (b.toNat ≤ 90)
def isDg (b : UInt8) : Bool := decide (48 ≤ b.toNat) && decide (b.toNat ≤ 57)
def inNm (b : UInt8) : Bool := isLo b || isUp b || isDg b || b == 95 || b == 39

/-- A comment from a place on, so many being open: how many bytes till the last one is closed. -/
def cmt : Nat → List UInt8 → Option Nat
  | _, [] => none
  | _, [_] => none
  | o, a :: b :: t =>
    if a = 40 ∧ b = 42 then (cmt (o + 1) t).map (· + 2)
    else if a = 42 ∧ b = 41 then (if o = 1 then some 2 else (cmt (o - 1) t).map (· + 2))
    else (cmt o (b :: t)).map (· + 1)

def opens (l : List UInt8) : Bool := [40, 42].isPrefixOf l
def closes (l : List UInt8) : Bool := [42, 41].isPrefixOf l

theorem opens_cons (a b : UInt8) (t : List UInt8) : opens (a :: b :: t) = decide (a = 40 ∧ b = 42) := by
  unfold opens; rw [Bool.eq_iff_iff]; simp [List.isPrefixOf]; constructor <;> (rintro ⟨h1, h2⟩; exact ⟨h1.symm, h2.symm⟩)
theorem closes_cons (a b : UInt8) (t : List UInt8) : closes (a :: b :: t) = decide (a = 42 ∧ b = 41) := by
  unfold closes; rw [Bool.eq_iff_iff]; simp [List.isPrefixOf]; constructor <;> (rintro ⟨h1, h2⟩; exact ⟨h1.symm, h2.symm⟩)
theorem opens_one (a : UInt8) : opens [a] = false := by unfold opens; simp [List.isPrefixOf]
theorem closes_one (a : UInt8) : closes [a] = false := by unfold closes; simp [List.isPrefixOf]
theorem opens_nil : opens [] = false := rfl
theorem closes_nil : closes [] = false := rfl
theorem opens_len {l : List UInt8} (h : opens l = true) : 2 ≤ l.length := by
  rcases l with _ | ⟨a, _ | ⟨b, t⟩⟩
  · cases h
  · rw [opens_one] at h; cases h
  · simp
theorem closes_len {l : List UInt8} (h : closes l = true) : 2 ≤ l.length := by
  rcases l with _ | ⟨a, _ | ⟨b, t⟩⟩
  · cases h
  · rw [closes_one] at h; cases h
  · simp
theorem closes_not {l : List UInt8} (h : opens l = true) : closes l = false := by
  rcases l with _ | ⟨a, _ | ⟨b, t⟩⟩
  · cases h
  · exact closes_one a
  · rw [opens_cons] at h; rw [closes_cons]
    simp only [decide_eq_true_eq] at h
    simp [h.1]

theorem cmt_opens (o : Nat) {l : List UInt8} (h : opens l = true) : cmt o l = (cmt (o + 1) (l.drop 2)).map (· + 2) := by
  rcases l with _ | ⟨a, _ | ⟨b, t⟩⟩
  · cases h
  · rw [opens_one] at h; cases h
  · rw [opens_cons] at h
    rw [cmt, if_pos (by simpa using h)]; rfl
theorem cmt_closes (o : Nat) {l : List UInt8} (h : closes l = true) : cmt o l = if o = 1 then some 2 else (cmt (o - 1) (l.drop 2)).map (· + 2) := by
  rcases l with _ | ⟨a, _ | ⟨b, t⟩⟩
  · cases h
  · rw [closes_one] at h; cases h
  · rw [closes_cons] at h
    simp only [decide_eq_true_eq] at h
    rw [cmt, if_neg (by simp [h.1]), if_pos h]; rfl
theorem cmt_else (o : Nat) {l : List UInt8} (h : opens l = false) (h' : closes l = false) : cmt o l = (cmt o (l.drop 1)).map (· + 1) := by
  rcases l with _ | ⟨a, _ | ⟨b, t⟩⟩
  · simp [cmt]
  · simp [cmt]
  · rw [opens_cons] at h; rw [closes_cons] at h'
    rw [cmt, if_neg (by simpa using h), if_neg (by simpa using h')]; rfl
theorem cmt_nil (o : Nat) : cmt o [] = none := by simp [cmt]

theorem cmt_le : ∀ (n o : Nat) (l : List UInt8) (k : Nat), l.length ≤ n → cmt o l = some k → 2 ≤ k ∧ k ≤ l.length := by
  intro n
  induction n with
  | zero => intro o l k hl h; obtain rfl := List.eq_nil_of_length_eq_zero (Nat.le_zero.1 hl); rw [cmt_nil] at h; cases h
  | succ n ih =>
    intro o l k hl h
    rcases ho : opens l with _ | _
    · rcases hc : closes l with _ | _
      · rw [cmt_else o ho hc, Option.map_eq_some_iff] at h
        obtain ⟨m, hm, rfl⟩ := h
        have hl0 : 0 < l.length := by
          rcases l with _ | ⟨a, t⟩
          · rw [List.drop_nil, cmt_nil] at hm; cases hm
          · simp
        have := ih o _ m (by rw [List.length_drop]; omega) hm
        rw [List.length_drop] at this
        omega
      · rw [cmt_closes o hc] at h
        have := closes_len hc
        split at h
        · cases h; omega
        · rw [Option.map_eq_some_iff] at h
          obtain ⟨m, hm, rfl⟩ := h
          have := ih _ _ m (by rw [List.length_drop]; omega) hm
          rw [List.length_drop] at this
          omega
    · rw [cmt_opens o ho, Option.map_eq_some_iff] at h
      have := opens_len ho
      obtain ⟨m, hm, rfl⟩ := h
      have := ih _ _ m (by rw [List.length_drop]; omega) hm
      rw [List.length_drop] at this
      omega

/-- Blanks and comments from a place on: how many bytes; false: there is a comment that doesn't end (so many bytes on). -/
def skp : Nat → List UInt8 → Nat × Bool
  | 0, _ => (0, true)
  | _ + 1, [] => (0, true)
  | n + 1, c :: r =>
    if isSp c then ((skp n r).1 + 1, (skp n r).2)
    else if opens (c :: r) then
      match cmt 0 (c :: r) with
      | none => (0, false)
      | some k => ((skp n ((c :: r).drop k)).1 + k, (skp n ((c :: r).drop k)).2)
    else (0, true)

theorem skp_fuel : ∀ (n m : Nat) (l : List UInt8), l.length ≤ n → l.length ≤ m → skp n l = skp m l := by
  intro n
  induction n with
  | zero =>
    intro m l hn hm
    obtain rfl := List.eq_nil_of_length_eq_zero (Nat.le_zero.1 hn)
    cases m <;> rfl
  | succ n ih =>
    intro m l hn hm
    rcases l with _ | ⟨c, r⟩
    · cases m <;> rfl
    · obtain _ | m := m
      · simp at hm
      · simp only [List.length_cons] at hn hm
        unfold skp
        rw [ih m r (by omega) (by omega)]
        split
        · rfl
        · split
          · cases hc : cmt 0 (c :: r) with
            | none => rfl
            | some k =>
              have := cmt_le _ 0 _ k (Nat.le_refl _) hc
              simp only [List.length_cons] at this
              simp only
              rw [ih m _ (by rw [List.length_drop, List.length_cons]; omega) (by rw [List.length_drop, List.length_cons]; omega)]
          · rfl

def sk (l : List UInt8) : Nat × Bool := skp l.length l

theorem sk_nil : sk [] = (0, true) := rfl
theorem sk_sp {c : UInt8} {r : List UInt8} (h : isSp c = true) : sk (c :: r) = ((sk r).1 + 1, (sk r).2) := by
  unfold sk
  rw [List.length_cons, skp, if_pos h]
theorem sk_bad {c : UInt8} {r : List UInt8} (h : isSp c = false) (ho : opens (c :: r) = true) (hc : cmt 0 (c :: r) = none) : sk (c :: r) = (0, false) := by
  unfold sk
  rw [List.length_cons, skp, if_neg (by simp [h]), if_pos ho, hc]
theorem sk_cmt {c : UInt8} {r : List UInt8} {k : Nat} (h : isSp c = false) (ho : opens (c :: r) = true) (hc : cmt 0 (c :: r) = some k) :
    sk (c :: r) = ((sk ((c :: r).drop k)).1 + k, (sk ((c :: r).drop k)).2) := by
  have hk := cmt_le _ 0 _ k (Nat.le_refl _) hc
  unfold sk
  rw [List.length_cons, skp, if_neg (by simp [h]), if_pos ho, hc]
  simp only
  rw [skp_fuel r.length _ ((c :: r).drop k) (by rw [List.length_drop, List.length_cons]; omega) (Nat.le_refl _)]
theorem sk_no {c : UInt8} {r : List UInt8} (h : isSp c = false) (ho : opens (c :: r) = false) : sk (c :: r) = (0, true) := by
  unfold sk
  rw [List.length_cons, skp, if_neg (by simp [h]), if_neg (by simp [ho])]

theorem sk_le : ∀ (n : Nat) (l : List UInt8), l.length ≤ n → (sk l).1 ≤ l.length := by
  intro n
  induction n with
  | zero => intro l hn; obtain rfl := List.eq_nil_of_length_eq_zero (Nat.le_zero.1 hn); exact Nat.le_refl _
  | succ n ih =>
    intro l hn
    rcases l with _ | ⟨c, r⟩
    · exact Nat.le_refl _
    · simp only [List.length_cons] at hn ⊢
      rcases hs : isSp c with _ | _
      · rcases ho : opens (c :: r) with _ | _
        · rw [sk_no hs ho]; omega
        · cases hc : cmt 0 (c :: r) with
          | none => rw [sk_bad hs ho hc]; omega
          | some k =>
            rw [sk_cmt hs ho hc]
            have hk := cmt_le _ 0 _ k (Nat.le_refl _) hc
            have := ih ((c :: r).drop k) (by rw [List.length_drop, List.length_cons]; omega)
            rw [List.length_drop] at this
            simp only [List.length_cons] at this hk ⊢
            omega
      · rw [sk_sp hs]
        have := ih r (by omega)
        simp only
        omega

/-- Where blanks end in order there is the end, or something else. -/
theorem sk_end : ∀ (n : Nat) (l : List UInt8), l.length ≤ n → (sk l).2 = true → ∀ c r, l.drop (sk l).1 = c :: r → isSp c = false ∧ opens (c :: r) = false := by
  intro n
  induction n with
  | zero => intro l hn _ c r h; obtain rfl := List.eq_nil_of_length_eq_zero (Nat.le_zero.1 hn); simp at h
  | succ n ih =>
    intro l hn hk c r h
    rcases l with _ | ⟨a, t⟩
    · simp at h
    · simp only [List.length_cons] at hn
      rcases hs : isSp a with _ | _
      · rcases ho : opens (a :: t) with _ | _
        · rw [sk_no hs ho] at h
          simp only [List.drop_zero] at h
          injection h with h1 h2
          subst h1; subst h2
          exact ⟨hs, ho⟩
        · cases hc : cmt 0 (a :: t) with
          | none => rw [sk_bad hs ho hc] at hk; cases hk
          | some k =>
            rw [sk_cmt hs ho hc] at hk h
            have hkk := cmt_le _ 0 _ k (Nat.le_refl _) hc
            rw [Nat.add_comm, ← List.drop_drop] at h
            exact ih _ (by rw [List.length_drop, List.length_cons]; omega) hk c r h
      · rw [sk_sp hs] at hk h
        rw [List.drop_succ_cons] at h
        exact ih t (by omega) hk c r h

/-- What a text in quotes is, from behind the first: does it end in order; its bytes; how many it takes, or where it is at fault. -/
def esc (b : UInt8) : UInt8 := if b = 110 then 10 else if b = 116 then 9 else if b = 34 then 34 else if b = 92 then 92 else 0

def uq : List UInt8 → Bool × List UInt8 × Nat
  | [] => (false, [], 0)
  | [b] => if b = 34 then (true, [], 1) else (false, [], 1)
  | b :: c :: t =>
    if b = 34 then (true, [], 1)
    else if b = 92 then
      if esc c = 0 then (false, [], 1) else ((uq t).1, esc c :: (uq t).2.1, (uq t).2.2 + 2)
    else ((uq (c :: t)).1, b :: (uq (c :: t)).2.1, (uq (c :: t)).2.2 + 1)

theorem uq_quote (r : List UInt8) : uq (34 :: r) = (true, [], 1) := by
  rcases r with _ | ⟨c, t⟩ <;> simp [uq]
theorem uq_end : uq [92] = (false, [], 1) := by simp [uq]
theorem uq_bad {c : UInt8} (t : List UInt8) (h : esc c = 0) : uq (92 :: c :: t) = (false, [], 1) := by simp [uq, h]
theorem uq_esc {c : UInt8} (t : List UInt8) (h : esc c ≠ 0) : uq (92 :: c :: t) = ((uq t).1, esc c :: (uq t).2.1, (uq t).2.2 + 2) := by simp [uq, h]
theorem uq_one {b : UInt8} (r : List UInt8) (h : b ≠ 34) (h' : b ≠ 92) : (uq (b :: r)).1 = (uq r).1 ∧ ((uq r).1 = true → (uq (b :: r)).2.1 = b :: (uq r).2.1) ∧ (uq (b :: r)).2.2 = (uq r).2.2 + 1 := by
  rcases r with _ | ⟨c, t⟩
  · simp [uq, h]
  · simp [uq, h, h']

theorem uq_le : ∀ (n : Nat) (l : List UInt8), l.length ≤ n → (uq l).2.2 ≤ l.length ∧ ((uq l).1 = true → 1 ≤ (uq l).2.2) ∧ (uq l).2.1.length ≤ l.length := by
  intro n
  induction n with
  | zero => intro l hn; obtain rfl := List.eq_nil_of_length_eq_zero (Nat.le_zero.1 hn); simp [uq]
  | succ n ih =>
    intro l hn
    rcases l with _ | ⟨b, _ | ⟨c, t⟩⟩
    · simp [uq]
    · by_cases h : b = 34 <;> simp [uq, h]
    · simp only [List.length_cons] at hn
      have h1 := ih t (by omega)
      have h2 := ih (c :: t) (by simp only [List.length_cons]; omega)
      simp only [List.length_cons] at h2 ⊢
      unfold uq
      split
      · simp
      · split
        · split
          · simp
          · simp only [List.length_cons]; omega
        · simp only [List.length_cons]; omega

/-- A token from a place on: its error's number (0: none); how many bytes it takes, or where it is at fault; its kind; its text. -/
abbrev T1 := Nat × Nat × Nat × List UInt8

def kws : List (List UInt8) := [[108, 101, 116], [114, 101, 99], [105, 110], [102, 117, 110], [105, 102], [116, 104, 101, 110], [101, 108, 115, 101], [109, 97, 116, 99, 104], [119, 105, 116, 104], [116, 114, 121], [116, 121, 112, 101], [111, 102], [109, 111, 100], [116, 114, 117, 101], [102, 97, 108, 115, 101]]
def sgs : List (List UInt8) := [[45, 62], [58, 61], [59, 59], [60, 62], [60, 61], [58, 58], [124, 124], [38, 38], [40], [41], [91], [93], [44], [59], [124], [61], [60], [43], [45], [42], [47], [94], [33], [95]]

/-- How many at the head of a list are of a kind. -/
def run (p : UInt8 → Bool) : List UInt8 → Nat
  | [] => 0
  | a :: t => if p a then run p t + 1 else 0
theorem run_le (p : UInt8 → Bool) (l : List UInt8) : run p l ≤ l.length := by
  induction l with
  | nil => exact Nat.le_refl _
  | cons a t ih => unfold run; split <;> simp only [List.length_cons] <;> omega

def wk (w : List UInt8) : Nat := if kws.contains w then 6 else if w.headD 0 == 39 then 3 else if isUp (w.headD 0) then 2 else 1

def word1 (r : List UInt8) : T1 :=
  if 24 < run inNm r.tail + 1 then (2, 0, 0, [])
  else if r.headD 0 == 39 && (run inNm r.tail == 0 || !isLo (r.tail.headD 0)) then (4, 1, 0, [])
  else (0, run inNm r.tail + 1, wk (r.take (run inNm r.tail + 1)), r.take (run inNm r.tail + 1))

/-- Digits as a number. -/
def val (l : List UInt8) : Nat := l.foldl (fun n b => n * 10 + (b.toNat - 48)) 0

def num1 (r : List UInt8) : T1 :=
  if inNm ((r.drop (run isDg r)).headD 0) then (4, run isDg r, 0, [])
  else if 4611686018427387904 ≤ val (r.take (run isDg r)) then (1, 0, 0, [])
  else (0, run isDg r, 4, r.take (run isDg r))

def txt1 (r : List UInt8) : T1 :=
  if (uq r.tail).1 then (0, (uq r.tail).2.2 + 1, 5, (uq r.tail).2.1) else (4, (uq r.tail).2.2 + 1, 0, [])

def sgn1 (r : List UInt8) : T1 :=
  match sgs.find? (·.isPrefixOf r) with
  | some k => (0, k.length, 7, k)
  | none => (4, 0, 0, [])

def one (r : List UInt8) : T1 :=
  if isLo (r.headD 0) || isUp (r.headD 0) || r.headD 0 == 39 then word1 r
  else if isDg (r.headD 0) then num1 r
  else if r.headD 0 == 34 then txt1 r
  else sgn1 r

/-- A token: kind, text, place. -/
structure Tk where
  kind : Nat
  text : List UInt8
  at_ : Nat
deriving DecidableEq

/-- The tokens of what is left from a place on: the error's number; the place at fault; the tokens. -/
def pre (t : Tk) (r : Nat × Nat × List Tk) : Nat × Nat × List Tk := if r.1 = 0 then (0, r.2.1, t :: r.2.2) else r

def tk : Nat → Nat → List UInt8 → Nat × Nat × List Tk
  | 0, _, _ => (0, 0, [])
  | n + 1, p, l =>
    if (sk l).2 then
      match l.drop (sk l).1 with
      | [] => (0, 0, [⟨0, [], p + (sk l).1⟩])
      | c :: r =>
        if (one (c :: r)).1 = 0 then
          pre ⟨(one (c :: r)).2.2.1, (one (c :: r)).2.2.2, p + (sk l).1⟩ (tk n (p + (sk l).1 + (one (c :: r)).2.1) ((c :: r).drop (one (c :: r)).2.1))
        else ((one (c :: r)).1, p + (sk l).1 + (one (c :: r)).2.1, [])
    else (4, p + (sk l).1, [])

theorem find_some {l : List (List UInt8)} {r k : List UInt8} (h : l.find? (·.isPrefixOf r) = some k) : k ∈ l ∧ k.isPrefixOf r = true :=
  ⟨List.mem_of_find?_eq_some h, by have := List.find?_some h; exact this⟩

theorem sgs_pos : ∀ k ∈ sgs, 1 ≤ k.length ∧ k.length ≤ 2 := by decide

theorem word1_le (c : UInt8) (r : List UInt8) : (word1 (c :: r)).2.1 ≤ (c :: r).length ∧ ((word1 (c :: r)).1 = 0 → 1 ≤ (word1 (c :: r)).2.1) := by
  have hw := run_le inNm r
  unfold word1
  rw [List.tail_cons, List.length_cons]
  by_cases h1 : 24 < run inNm r + 1
  · rw [if_pos h1]; simp
  · rw [if_neg h1]
    by_cases h2 : ((c :: r).headD 0 == 39 && (run inNm r == 0 || !isLo (r.headD 0))) = true
    · rw [if_pos h2]; simp
    · rw [if_neg h2]; exact ⟨by simp only; omega, fun _ => by simp only; omega⟩
theorem num1_le (c : UInt8) (r : List UInt8) (h : isDg c = true) : (num1 (c :: r)).2.1 ≤ (c :: r).length ∧ ((num1 (c :: r)).1 = 0 → 1 ≤ (num1 (c :: r)).2.1) := by
  have hd := run_le isDg (c :: r)
  have hpos : 1 ≤ run isDg (c :: r) := by
    rw [run, if_pos h]; omega
  unfold num1
  split
  · exact ⟨hd, fun _ => hpos⟩
  · split
    · exact ⟨Nat.zero_le _, fun h => by cases h⟩
    · exact ⟨hd, fun _ => hpos⟩
theorem txt1_le (c : UInt8) (r : List UInt8) : (txt1 (c :: r)).2.1 ≤ (c :: r).length ∧ ((txt1 (c :: r)).1 = 0 → 1 ≤ (txt1 (c :: r)).2.1) := by
  have := uq_le _ r (Nat.le_refl _)
  unfold txt1
  rw [List.tail_cons, List.length_cons]
  split
  · exact ⟨by simp only; omega, fun _ => by simp only; omega⟩
  · exact ⟨by simp only; omega, fun _ => by simp only; omega⟩
theorem sgn1_le (c : UInt8) (r : List UInt8) : (sgn1 (c :: r)).2.1 ≤ (c :: r).length ∧ ((sgn1 (c :: r)).1 = 0 → 1 ≤ (sgn1 (c :: r)).2.1) := by
  unfold sgn1
  cases h : sgs.find? (·.isPrefixOf (c :: r)) with
  | none => exact ⟨Nat.zero_le _, fun h => by cases h⟩
  | some k =>
    have h1 := find_some h
    have h2 := sgs_pos k h1.1
    exact ⟨(List.isPrefixOf_iff_prefix.1 h1.2).length_le, fun _ => h2.1⟩
/-- A token takes a byte or more, and no more than there are. -/
theorem one_le (c : UInt8) (r : List UInt8) : (one (c :: r)).2.1 ≤ (c :: r).length ∧ ((one (c :: r)).1 = 0 → 1 ≤ (one (c :: r)).2.1) := by
  unfold one
  rw [List.headD_cons]
  split
  · exact word1_le c r
  · split
    · rename_i h
      exact num1_le c r h
    · split
      · exact txt1_le c r
      · exact sgn1_le c r

theorem tk_fuel : ∀ (n m p : Nat) (l : List UInt8), l.length < n → l.length < m → tk n p l = tk m p l := by
  intro n
  induction n with
  | zero => intro m p l hn; omega
  | succ n ih =>
    intro m p l hn hm
    obtain _ | m := m
    · omega
    · unfold tk
      split
      · cases h : l.drop (sk l).1 with
        | nil => rfl
        | cons c r =>
          simp only
          split
          · rename_i h0
            have h1 := one_le c r
            have h2 := h1.2 h0
            have h3 := h1.1
            have h4 : (c :: r).length ≤ l.length := by rw [← h, List.length_drop]; omega
            simp only [List.length_cons] at h3 h4
            rw [ih m _ _ (by rw [List.length_drop, List.length_cons]; omega) (by rw [List.length_drop, List.length_cons]; omega)]
          · rfl
      · rfl

def toks (p : Nat) (l : List UInt8) : Nat × Nat × List Tk := tk (l.length + 1) p l

theorem toks_bad (p : Nat) {l : List UInt8} (h : (sk l).2 = false) : toks p l = (4, p + (sk l).1, []) := by
  unfold toks tk; rw [if_neg (by simp [h])]
theorem toks_end (p : Nat) {l : List UInt8} (h : (sk l).2 = true) (h' : l.drop (sk l).1 = []) : toks p l = (0, 0, [⟨0, [], p + (sk l).1⟩]) := by
  unfold toks tk; rw [if_pos h, h']
theorem toks_err (p : Nat) {l : List UInt8} {c : UInt8} {r : List UInt8} (h : (sk l).2 = true) (h' : l.drop (sk l).1 = c :: r) (he : (one (c :: r)).1 ≠ 0) :
    toks p l = ((one (c :: r)).1, p + (sk l).1 + (one (c :: r)).2.1, []) := by
  unfold toks tk; rw [if_pos h, h']; simp only; rw [if_neg he]
theorem toks_one (p : Nat) {l : List UInt8} {c : UInt8} {r : List UInt8} (h : (sk l).2 = true) (h' : l.drop (sk l).1 = c :: r) (he : (one (c :: r)).1 = 0) :
    toks p l = pre ⟨(one (c :: r)).2.2.1, (one (c :: r)).2.2.2, p + (sk l).1⟩ (toks (p + (sk l).1 + (one (c :: r)).2.1) ((c :: r).drop (one (c :: r)).2.1)) := by
  have h1 := one_le c r
  have h2 := h1.2 he
  have h3 := h1.1
  have h4 : (c :: r).length ≤ l.length := by rw [← h', List.length_drop]; omega
  simp only [List.length_cons] at h3 h4
  unfold toks
  rw [tk, if_pos h, h']
  simp only
  rw [if_pos he, tk_fuel l.length ((((c :: r).drop (one (c :: r)).2.1)).length + 1) _ _ (by rw [List.length_drop, List.length_cons]; omega) (by omega)]

/-- The tokens of a text. -/
def lexed (l : List UInt8) : Nat × Nat × List Tk := if 2000 < l.length then (2, 0, []) else toks 0 l
end LexM
