/- Functions as bytes, in the plain: what is read, and that what was written is read. -/
import Derived.Test.YthmnhacgcdcbiaaCodM
import Derived.Test.YthmnhacgcdcbiaaOctY
import Derived.Test.YthmnhacgcdcbiaaOctE
namespace Go.Proofs.Ythmnhacgcdcbiaa
open Go.RowKit OctM CodM

/-- The next instruction of bytes, and what is left. -/
def insS (s : Option (List UInt8)) : Ins × Option (List UInt8) :=
  (⟨(uptoS s 255).1, unzig (uintS (uptoS s 255).2).1, ((uptoS (uintS (uptoS s 255).2).2 1048576).1 : Nat), ⟨(bytesS (uptoS (uintS (uptoS s 255).2).2 1048576).2 2000).1.toArray⟩⟩,
    (bytesS (uptoS (uintS (uptoS s 255).2).2 1048576).2 2000).2)

/-- So many instructions; it ends at a fault. -/
def codeS : Nat → Option (List UInt8) → List Ins × Option (List UInt8)
  | 0, s => ([], s)
  | n + 1, s => if (insS s).2 = none then ([(insS s).1], none) else ((insS s).1 :: (codeS n (insS s).2).1, (codeS n (insS s).2).2)

theorem codeS_bad {n : Nat} {s : Option (List UInt8)} (h : (insS s).2 = none) : codeS (n + 1) s = ([(insS s).1], none) := by
  show (if _ then _ else _) = _
  rw [if_pos h]
theorem codeS_ok {n : Nat} {s : Option (List UInt8)} (h : (insS s).2 ≠ none) : codeS (n + 1) s = ((insS s).1 :: (codeS n (insS s).2).1, (codeS n (insS s).2).2) := by
  show (if _ then _ else _) = _
  rw [if_neg h]

def funS (s : Option (List UInt8)) : Fun × Option (List UInt8) :=
  (⟨((uptoS s 1048576).1 : Nat), (codeS (uptoS (uptoS s 1048576).2 1048576).1 (uptoS (uptoS s 1048576).2 1048576).2).1⟩, (codeS (uptoS (uptoS s 1048576).2 1048576).1 (uptoS (uptoS s 1048576).2 1048576).2).2)

def funsS : Nat → Option (List UInt8) → List Fun × Option (List UInt8)
  | 0, s => ([], s)
  | n + 1, s => if (funS s).2 = none then ([(funS s).1], none) else ((funS s).1 :: (funsS n (funS s).2).1, (funsS n (funS s).2).2)

theorem funsS_bad {n : Nat} {s : Option (List UInt8)} (h : (funS s).2 = none) : funsS (n + 1) s = ([(funS s).1], none) := by
  show (if _ then _ else _) = _
  rw [if_pos h]
theorem funsS_ok {n : Nat} {s : Option (List UInt8)} (h : (funS s).2 ≠ none) : funsS (n + 1) s = ((funS s).1 :: (funsS n (funS s).2).1, (funsS n (funS s).2).2) := by
  show (if _ then _ else _) = _
  rw [if_neg h]

/-- The next functions; none at a fault. -/
def decS (s : Option (List UInt8)) : List Fun × Option (List UInt8) :=
  if (funsS (uptoS s 4000).1 (uptoS s 4000).2).2 = none then ([], none) else funsS (uptoS s 4000).1 (uptoS s 4000).2

theorem uptoS_most (s : Option (List UInt8)) (most : Nat) : (uptoS s most).1 ≤ most := by
  unfold uptoS
  split
  · simp
  · rename_i h
    rcases hh : uintS s with ⟨a, b⟩
    rw [hh] at h
    simp only at h ⊢
    omega

theorem uptoS_none (most : Int) : uptoS none most = (0, none) := by
  unfold uptoS
  split
  · rfl
  · rw [uintS_none]

/-- At a fault there is no number. -/
theorem uptoS_bad {s : Option (List UInt8)} {most : Int} (h : (uptoS s most).2 = none) : (uptoS s most).1 = 0 := by
  unfold uptoS at h ⊢
  split
  · rfl
  · rename_i hc
    rw [if_neg hc] at h
    exact uintS_bad h

theorem insS_none : (insS none).2 = none := by
  unfold insS bytesS
  simp only [uptoS_none, uintS_none]
  rfl

theorem codeS_len (n : Nat) : ∀ s, (codeS n s).1.length ≤ n := by
  induction n with
  | zero => intro s; simp [codeS]
  | succ n ih =>
    intro s
    by_cases h : (insS s).2 = none
    · rw [codeS_bad h]; simp
    · rw [codeS_ok h]
      have := ih (insS s).2
      simp only [List.length_cons]
      omega
theorem funS_len (s : Option (List UInt8)) : (funS s).1.code.length ≤ 1048576 := by
  have h1 := codeS_len (uptoS (uptoS s 1048576).2 1048576).1 (uptoS (uptoS s 1048576).2 1048576).2
  have h2 := uptoS_most (uptoS s 1048576).2 1048576
  unfold funS
  simp only at h1 ⊢
  exact Nat.le_trans h1 h2
theorem funsS_len (n : Nat) : ∀ s, (funsS n s).1.length ≤ n ∧ ∀ f ∈ (funsS n s).1, f.code.length ≤ 1048576 := by
  induction n with
  | zero => intro s; simp [funsS]
  | succ n ih =>
    intro s
    by_cases h : (funS s).2 = none
    · rw [funsS_bad h]
      refine ⟨by simp, fun f hf => ?_⟩
      simp only [List.mem_singleton] at hf
      subst hf
      exact funS_len s
    · rw [funsS_ok h]
      obtain ⟨h1, h2⟩ := ih (funS s).2
      refine ⟨by simp only [List.length_cons]; omega, fun f hf => ?_⟩
      rcases List.mem_cons.1 hf with rfl | hf
      · exact funS_len s
      · exact h2 f hf
theorem decS_len (s : Option (List UInt8)) : (decS s).1.length ≤ 4000 ∧ ∀ f ∈ (decS s).1, f.code.length ≤ 1048576 := by
  unfold decS
  split
  · simp
  · have h1 := funsS_len (uptoS s 4000).1 (uptoS s 4000).2
    have h2 := uptoS_most s 4000
    exact ⟨Nat.le_trans h1.1 h2, h1.2⟩

/-- As bytes. -/
def encI (x : Ins) : List UInt8 := enc x.op ++ (enc (zig x.n) ++ (enc x.a.toNat ++ encB x.s.data.toList))
def encC (l : List Ins) : List UInt8 := l.flatMap encI
def encF (f : Fun) : List UInt8 := enc f.caps.toNat ++ (enc f.code.length ++ encC f.code)
def encL (l : List Fun) : List UInt8 := enc l.length ++ l.flatMap encF

/-- What may be written and read back. -/
structure InsOK (x : Ins) : Prop where
  op : x.op ≤ 255
  n0 : -9223372036854775808 ≤ x.n
  n1 : x.n ≤ 9223372036854775807
  a0 : 0 ≤ x.a
  a1 : x.a ≤ 1048576
  s : x.s.size ≤ 2000
structure FunOK (f : Fun) : Prop where
  c0 : 0 ≤ f.caps
  c1 : f.caps ≤ 1048576
  len : f.code.length ≤ 1048576
  all : ∀ x ∈ f.code, InsOK x

theorem uptoS_enc (n most : Nat) (r : List UInt8) (h : n ≤ most) (hm : most < 18446744073709551616) : uptoS (some (enc n ++ r)) (most : Int) = (n, some r) := by
  unfold uptoS
  rw [uintS_enc n r (by omega)]
  rw [if_neg (by simp only; omega)]
theorem bytesS_enc (k r : List UInt8) (h : k.length ≤ 2000) : bytesS (some (encB k ++ r)) 2000 = (k, some r) := by
  unfold bytesS encB
  have h1 := uptoS_enc k.length 2000 (k ++ r) h (by omega)
  rw [List.append_assoc]
  rw [show ((2000 : Nat) : Int) = 2000 from rfl] at h1
  rw [h1]
  simp only
  rw [takeS_le (by simp)]
  simp
theorem mk_toList (s : ByteArray) : (⟨s.data.toList.toArray⟩ : ByteArray) = s := by
  cases s
  simp

theorem insS_enc (x : Ins) (h : InsOK x) (r : List UInt8) : insS (some (encI x ++ r)) = (x, some r) := by
  have e1 := uptoS_enc x.op 255 (enc (zig x.n) ++ (enc x.a.toNat ++ (encB x.s.data.toList ++ r))) h.op (by omega)
  have e2 := uintS_enc (zig x.n) (enc x.a.toNat ++ (encB x.s.data.toList ++ r)) (by have := zig_le x.n h.n0 h.n1; omega)
  have e3 := uptoS_enc x.a.toNat 1048576 (encB x.s.data.toList ++ r) (by have := h.a0; have := h.a1; omega) (by omega)
  have e4 := bytesS_enc x.s.data.toList r (by rw [Array.length_toList]; exact h.s)
  rw [show ((255 : Nat) : Int) = 255 from rfl] at e1
  rw [show ((1048576 : Nat) : Int) = 1048576 from rfl] at e3
  have ea : ((x.a.toNat : Nat) : Int) = x.a := by have := h.a0; omega
  unfold insS encI
  simp only [List.append_assoc]
  rw [e1]
  simp only
  rw [e2]
  simp only
  rw [e3]
  simp only
  rw [e4, unzig_zig, ea, mk_toList]

theorem codeS_enc (l : List Ins) (h : ∀ x ∈ l, InsOK x) : ∀ r, codeS l.length (some (encC l ++ r)) = (l, some r) := by
  induction l with
  | nil => intro r; rfl
  | cons x xs ih =>
    intro r
    have e := insS_enc x (h x (by simp)) (encC xs ++ r)
    have e2 : encC (x :: xs) ++ r = encI x ++ (encC xs ++ r) := by simp [encC]
    rw [e2, List.length_cons, codeS_ok (by rw [e]; simp), e]
    simp only
    rw [ih (fun y hy => h y (by simp [hy])) r]

theorem funS_enc (f : Fun) (h : FunOK f) (r : List UInt8) : funS (some (encF f ++ r)) = (f, some r) := by
  have e1 := uptoS_enc f.caps.toNat 1048576 (enc f.code.length ++ (encC f.code ++ r)) (by have := h.c0; have := h.c1; omega) (by omega)
  have e2 := uptoS_enc f.code.length 1048576 (encC f.code ++ r) h.len (by omega)
  rw [show ((1048576 : Nat) : Int) = 1048576 from rfl] at e1 e2
  have ea : ((f.caps.toNat : Nat) : Int) = f.caps := by have := h.c0; omega
  unfold funS encF
  simp only [List.append_assoc]
  rw [e1]
  simp only
  rw [e2]
  simp only
  rw [codeS_enc f.code h.all r, ea]

theorem funsS_enc (l : List Fun) (h : ∀ f ∈ l, FunOK f) : ∀ r, funsS l.length (some (l.flatMap encF ++ r)) = (l, some r) := by
  induction l with
  | nil => intro r; rfl
  | cons f fs ih =>
    intro r
    have e := funS_enc f (h f (by simp)) (fs.flatMap encF ++ r)
    have e2 : (f :: fs).flatMap encF ++ r = encF f ++ (fs.flatMap encF ++ r) := by simp
    rw [e2, List.length_cons, funsS_ok (by rw [e]; simp), e]
    simp only
    rw [ih (fun y hy => h y (by simp [hy])) r]

/-- What was written is read. -/
theorem decS_enc (l : List Fun) (hl : l.length ≤ 4000) (h : ∀ f ∈ l, FunOK f) (r : List UInt8) : decS (some (encL l ++ r)) = (l, some r) := by
  have e1 := uptoS_enc l.length 4000 (l.flatMap encF ++ r) hl (by omega)
  rw [show ((4000 : Nat) : Int) = 4000 from rfl] at e1
  have e2 := funsS_enc l h r
  unfold decS encL
  simp only [List.append_assoc]
  rw [e1]
  simp only
  rw [e2]
  simp
end Go.Proofs.Ythmnhacgcdcbiaa
