/- OctM, OctB, CodM, CodA, in one text. -/
import Derived.Test.YteenlckpjncgoaaDoorRows
import Derived.WalkKit
import Derived.WalkLawsBesides
import Derived.WalkSpells
import Derived.Outline
import Derived.Lib.Hide
import Derived.Lib.Tables
import Derived.Lib.BitFns
import Derived.StillTactics
import Derived.OwnWalk
import Derived.OneCell
import Derived.Laws.Pointers
import Derived.Deep.RegionHeld3
import Derived.Deep.AppendLies
import Derived.Deep.LoopGhost
import Derived.Deep.DeepFit
import Derived.Deep.DeepMust
import Derived.Deep.QuietTactic
import Derived.BigQuiet
import Derived.Deep.Draws
import Derived.Laws.BitsAllLaws
import Derived.Laws.BitsLemmas

/- Plain mathematics of layer 1 (octet): digits of numbers, no program in sight. -/
namespace Go.Proofs.YteenlckpjncgoaaDoor.OctM

/-- How many bytes a number takes. -/
def nd (n : Nat) : Nat :=
  if n < 1 then 0 else if n < 256 then 1 else if n < 65536 then 2 else if n < 16777216 then 3 else if n < 4294967296 then 4 else
  if n < 1099511627776 then 5 else if n < 281474976710656 then 6 else if n < 72057594037927936 then 7 else 8

theorem nd_le (n : Nat) : nd n ≤ 8 := by unfold nd; repeat' split
                                         all_goals omega

/-- The digit of 256^i. -/
def dig (n i : Nat) : UInt8 := UInt8.ofNat (n / 256 ^ i)

/-- The digits, the lowest first. -/
def digs (n : Nat) : List UInt8 := (List.range (nd n)).map (dig n)

/-- A number as bytes: how many, and they, the highest first. -/
def enc (n : Nat) : List UInt8 := UInt8.ofNat (nd n) :: (digs n).reverse

theorem digs_length (n : Nat) : (digs n).length = nd n := by simp [digs]
theorem enc_length (n : Nat) : (enc n).length = nd n + 1 := by simp [enc, digs_length]

theorem enc_take_one (n : Nat) : (enc n).take 1 = [UInt8.ofNat (nd n)] := by simp [enc]

theorem enc_take_succ (n i : Nat) (h : i < nd n) : (enc n).take (1 + i + 1) = (enc n).take (1 + i) ++ [dig n (nd n - 1 - i)] := by
  have hl : 1 + i < (enc n).length := by rw [enc_length]; omega
  rw [List.take_succ_eq_append_getElem hl]
  congr 2
  have e : (enc n)[1 + i] = (enc n)[i + 1]'(by rw [enc_length]; omega) := by simp [Nat.add_comm]
  rw [e]
  simp only [enc, List.getElem_cons_succ, List.getElem_reverse, digs_length]
  simp [digs]

theorem enc_take_all (n : Nat) : (enc n).take (1 + nd n) = enc n := List.take_of_length_le (by rw [enc_length]; omega)

/-- Against ones: what is missing to them. -/
theorem xor_ones (k a : Nat) (h : a < 2 ^ k) : a ^^^ (2 ^ k - 1) = 2 ^ k - (a + 1) := by
  apply Nat.eq_of_testBit_eq
  intro i
  rw [Nat.testBit_xor, Nat.testBit_two_pow_sub_one, Nat.testBit_two_pow_sub_succ h]
  by_cases hi : i < k
  · simp [hi]
  · simp only [hi, decide_false, Bool.xor_false, Bool.false_and]
    exact Nat.testBit_lt_two_pow (Nat.lt_of_lt_of_le h (Nat.pow_le_pow_right (by omega) (by omega)))

/-- A number with a sign as one without: 0, -1, 1, -2, 2 .. -/
def zig (n : Int) : Nat := if n < 0 then (-2 * n - 1).toNat else (2 * n).toNat

end Go.Proofs.YteenlckpjncgoaaDoor.OctM

namespace Go.Proofs.YteenlckpjncgoaaDoor.Oc
open Go.RowKit OctM

/-- A byte as a value; bytes as values. -/
def B (b : UInt8) : Value := .int .u8 (b.toNat : Int)
def Bs (l : List UInt8) : List Value := l.map B

theorem Bs_length (l : List UInt8) : (Bs l).length = l.length := by simp [Bs]
theorem Bs_append (l k : List UInt8) : Bs (l ++ k) = Bs l ++ Bs k := by simp [Bs]
theorem Bs_one (l : List UInt8) : ∀ u ∈ Bs l, u.oneCell' = true := by
  intro u hu
  obtain ⟨b, _, rfl⟩ := List.mem_map.1 hu
  rfl

theorem B_ofNat (n : Nat) (h : n < 256) : Value.int .u8 (n : Int) = B (UInt8.ofNat n) := by
  unfold B
  rw [UInt8.toNat_ofNat_of_lt' (by simpa using h)]

theorem u8info : (Tryd.prog.info? 5).map (fun i => (i.zero, i.size, i.bytes)) = some (some (.int .u8 0), 1, 1) := by kernel_rfl

/-- A slice of bytes of the call's own that has the bytes l. -/
abbrev Own (w : World) (base : Nat) (v : Value) (l : List UInt8) : Prop := w.ownsRow base 5 1 v l.length (Bs l)

/-- What may have been written: block b, and the row of v. -/
structure Kept (S : Nat → Prop) (w w' : World) : Prop where
  os : w'.os = w.os
  tape : w'.tape = w.tape
  output : w'.output = w.output
  size : w.heap.size ≤ w'.heap.size
  block : ∀ k, k < w.heap.size → ¬ S k → w'.heap[k]? = w.heap[k]?

theorem Kept.refl (S : Nat → Prop) (w : World) : Kept S w w := ⟨rfl, rfl, rfl, Nat.le_refl _, fun _ _ _ => rfl⟩
theorem Kept.trans {S : Nat → Prop} {a b c : World} (h : Kept S a b) (k : Kept S b c) : Kept S a c :=
  ⟨k.os.trans h.os, k.tape.trans h.tape, k.output.trans h.output, Nat.le_trans h.size k.size, fun i hi hs => (k.block i (Nat.lt_of_lt_of_le hi h.size) hs).trans (h.block i hi hs)⟩
theorem Kept.weak {S T : Nat → Prop} {a b : World} (h : Kept S a b) (hS : ∀ k, k < a.heap.size → S k → T k) : Kept T a b :=
  ⟨h.os, h.tape, h.output, h.size, fun i hi ht => h.block i hi (fun hs => ht (hS i hi hs))⟩
theorem Kept.drew {S : Nat → Prop} {a b : World} (h : Kept S a b) : Kept S a b.drew := ⟨h.os, h.tape, h.output, h.size, h.block⟩
theorem Kept.alloc {S : Nat → Prop} {a b : World} (h : Kept S a b) (o : Obj) : Kept S a (b.alloc o) :=
  h.trans ⟨rfl, rfl, rfl, by simp, fun k hk _ => Below.heap_alloc _ _ _ hk⟩
theorem Kept.setCell {S : Nat → Prop} {a b : World} (h : Kept S a b) {p : Addr} (hp : S p.block ∨ a.heap.size ≤ p.block) (u : Value) : Kept S a (b.setCell p u) :=
  ⟨h.os, h.tape, h.output, by simpa [World.setCell] using h.size, fun k hk hs => (Below.heap_setCell _ _ _ _ (by
    rintro rfl
    rcases hp with hp | hp
    · exact hs hp
    · omega)).trans (h.block k hk hs)⟩
theorem Kept.grown {S : Nat → Prop} {a b c : World} {row : Option Nat} (h : Kept S a b) (hg : b.grownBy c row) (hr : ∀ k, row = some k → S k ∨ a.heap.size ≤ k) : Kept S a c :=
  ⟨hg.os.trans h.os, hg.tape.trans h.tape, hg.output.trans h.output, Nat.le_trans h.size hg.size, fun k hk hs => (hg.block k (Nat.lt_of_lt_of_le hk h.size) (fun e => by
    rcases hr k e.symm with hr | hr
    · exact hs hr
    · omega)).trans (h.block k hk hs)⟩
theorem Kept.below {S : Nat → Prop} {a b : World} {n : Nat} (h : Kept S a b) (hn : n ≤ a.heap.size) (hS : ∀ k, S k → n ≤ k) : Below n a b :=
  ⟨h.os, h.tape, h.output, h.size, fun k hk => h.block k (by omega) (fun hs => by have := hS k hs; omega)⟩
theorem Below.kept {S : Nat → Prop} {a b : World} {n : Nat} (h : Below n a b) (hS : ∀ k, n ≤ k → k < a.heap.size → S k) : Kept S a b :=
  ⟨h.os, h.tape, h.output, h.size, fun k hk hs => h.block k (by rcases Nat.lt_or_ge k n with h' | h'; exact h'; exact absurd (hS k h' hk) hs)⟩

/-- A row is the call's own still, if its block is kept. -/
theorem own_kept {S : Nat → Prop} {w w' : World} {base : Nat} {e : TypeId} {size : Nat} {v : Value} {n : Nat} {xs : List Value} (h : w.ownsRow base e size v n xs) (hk : Kept S w w') (hv : ∀ k, v.ownBlock = some k → ¬ S k) : w'.ownsRow base e size v n xs := by
  refine ⟨h.1, ?_⟩
  rcases h.2 with hn | ⟨g, cap, cur, rfl, hb, hgg, rest⟩
  · exact .inl hn
  · refine .inr ⟨g, cap, cur, rfl, hb, ?_, rest⟩
    rw [hk.block g (Array.getElem?_eq_some_iff.1 hgg).1 (hv g rfl)]
    exact hgg

end Go.Proofs.YteenlckpjncgoaaDoor.Oc

namespace CodM

structure Ins where
  op : Nat
  n : Int
  a : Int
  s : ByteArray

structure Fun where
  caps : Int
  code : List Ins

/-- How many values an instruction takes, and leaves. -/
def tk (x : Ins) : Int :=
  if x.op = 6 then x.a else if x.op = 9 then x.n else if x.op = 18 then Go.RowKit.wrap64 (x.n + 1)
  else if x.op = 7 ∨ x.op = 20 then 2
  else if x.op = 8 ∨ x.op = 10 ∨ x.op = 11 ∨ x.op = 14 ∨ x.op = 15 ∨ x.op = 16 ∨ x.op = 17 ∨ x.op = 21 ∨ x.op = 22 ∨ x.op = 23 ∨ x.op = 13 ∨ x.op = 19 then 1 else 0
def lv (x : Ins) : Int :=
  if x.op ≤ 11 ∨ x.op = 14 ∨ x.op = 15 ∨ x.op = 16 ∨ x.op = 17 ∨ x.op = 18 ∨ x.op = 20 ∨ x.op = 21 ∨ x.op = 22 ∨ x.op = 23 then 1 else 0

/-- Is what an instruction names there? -/
def nm (fs : List Fun) (caps globs : Int) (x : Ins) (d : Int) : Bool :=
  if x.op = 2 then decide (0 ≤ x.n ∧ x.n < d)
  else if x.op = 3 then decide (0 ≤ x.n ∧ x.n < caps)
  else if x.op = 5 then decide (0 ≤ x.n ∧ x.n < globs)
  else if x.op = 6 then decide (0 ≤ x.n ∧ x.n < fs.length ∧ 0 ≤ x.a ∧ (fs[x.n.toNat]?.map Fun.caps) = some x.a)
  else if x.op = 9 then decide (2 ≤ x.n ∧ x.n ≤ 1000)
  else if x.op = 18 then decide (1 ≤ x.n ∧ x.n < d)
  else if x.op = 20 then decide (0 ≤ x.n ∧ x.n ≤ 10)
  else if x.op = 10 ∨ x.op = 11 ∨ x.op = 17 then decide (0 ≤ x.n ∧ x.n ≤ 100000)
  else true

/-- May an instruction stand where d values are on the stack and t tries are open? -/
def alw (fs : List Fun) (caps globs : Int) (x : Ins) (d t : Int) : Bool :=
  decide (x.op ≤ 26) && nm fs caps globs x d && (if x.op = 8 then decide (d = 2 ∧ t = 0) else if x.op = 25 then decide (0 < t) else decide (tk x < d))

/-- Where one gets from place i. -/
def succ (x : Ins) (i : Nat) (d t : Int) : List (Int × Int × Int) :=
  if x.op = 8 ∨ x.op = 26 then []
  else if x.op = 12 then [(x.n, d, t)]
  else if x.op = 13 then [(x.n, d - 1, t), ((i : Int) + 1, d - 1, t)]
  else if x.op = 24 then [(x.n, d + 1, t), ((i : Int) + 1, d, t + 1)]
  else if x.op = 25 then [((i : Int) + 1, d, t - 1)]
  else [((i : Int) + 1, d + (lv x - tk x), t)]

/-- A state for each place that one gets to: all of them allowed. -/
structure Closed (fs : List Fun) (globs : Int) (f : Fun) (F : Nat → Option (Int × Int)) : Prop where
  zero : F 0 = some (1, 0)
  at_ : ∀ i d t, F i = some (d, t) → ∃ x, f.code[i]? = some x ∧ alw fs f.caps globs x d t = true ∧ ∀ s ∈ succ x i d t, (i : Int) < s.1 ∧ F s.1.toNat = some s.2

def Valid (fs : List Fun) (globs : Int) (f : Fun) : Prop := 0 ≤ f.caps ∧ ∃ F, Closed fs globs f F
open Classical in
/-- May all run? -/
noncomputable def chk (fs : List Fun) (globs : Int) : Bool := decide (∀ f ∈ fs, Valid fs globs f)
open Classical in
noncomputable def ok1 (fs : List Fun) (globs : Int) (f : Fun) : Bool := decide (∃ F, Closed fs globs f F)

/-- All numbers fit. -/
def InsFit (x : Ins) : Prop := x.op ≤ 255 ∧ -9223372036854775808 ≤ x.n ∧ x.n ≤ 9223372036854775807 ∧ -9223372036854775808 ≤ x.a ∧ x.a ≤ 9223372036854775807
end CodM

namespace Go.Proofs.YteenlckpjncgoaaDoor.Oc
open Go.RowKit OctM CodM

/-- An instruction as a value. -/
def insV (x : Ins) : Value := .agg #[.int .u8 (x.op : Int), .int .i64 x.n, .int .i64 x.a, .string x.s]

def EffPost (x : Ins) (w : World) (e : Ending) (w' : World) : Prop := e = .returned (.tuple #[.int .i64 (tk x), .int .i64 (lv x)]) ∧ Below w.heap.size w w'
theorem effPost {x : Ins} {w w' : World} {a b : Int} (ha : tk x = a) (hb : lv x = b) (h : Below w.heap.size w w') : EffPost x w (.returned (.tuple #[.int .i64 a, .int .i64 b])) w' := by
  subst ha hb; exact ⟨rfl, h⟩

set_option maxHeartbeats 4000000 in
set_option maxRecDepth 100000 in
theorem effect (op : Nat) (n a : Int) (s : ByteArray) (w : World) :
    Calls Tryd.prog 77 #[.agg #[.int .u8 (op : Int), .int .i64 n, .int .i64 a, .string s]] w (EffPost ⟨op, n, a, s⟩ w) := by
  go_enter Tryd.func77, Tryd.ntmps77
  go_wp2_with fail
  all_goals
    go_ret2
    refine effPost ?_ ?_ ((Below.refl _ _).alloc (Nat.le_refl _) _)
    all_goals
      simp only [beq_iff_eq, beq_eq_false_iff_ne, ne_eq] at *
      first | unfold tk | unfold lv
      dsimp only
      (repeat' split) <;> first | rfl | omega

/-- The cells of instructions; a slice of them. -/
def InsC (w : World) (b off : Nat) (l : List Ins) : Prop := ∀ j x, l[j]? = some x → w.cell? ⟨b, off + j * 4, none⟩ = some (.int .u8 (x.op : Int)) ∧ w.cell? ⟨b, off + j * 4 + 1, none⟩ = some (.int .i64 x.n) ∧ w.cell? ⟨b, off + j * 4 + 2, none⟩ = some (.int .i64 x.a) ∧ w.cell? ⟨b, off + j * 4 + 3, none⟩ = some (.string x.s)
def RdI (w : World) (v : Value) (l : List Ins) : Prop :=
  (∃ o c, v = .slice o 0 c ∧ l = []) ∨
  ∃ b off c, v = .slice (some ⟨b, off, none⟩) l.length c ∧ 0 < l.length ∧ l.length ≤ c ∧ c ≤ maxLen ∧ InsC w b off l
/-- The cells of functions; a slice of them. -/
def FunC (w : World) (b off : Nat) (l : List Fun) : Prop := ∀ j f, l[j]? = some f → w.cell? ⟨b, off + j * 2, none⟩ = some (.int .i64 f.caps) ∧ ∃ v, w.cell? ⟨b, off + j * 2 + 1, none⟩ = some v ∧ RdI w v f.code
def RdF (w : World) (v : Value) (l : List Fun) : Prop :=
  (∃ o c, v = .slice o 0 c ∧ l = []) ∨
  ∃ b off c, v = .slice (some ⟨b, off, none⟩) l.length c ∧ 0 < l.length ∧ l.length ≤ c ∧ c ≤ maxLen ∧ FunC w b off l

section
variable {w w' : World} {n : Nat}
theorem InsC.below {b off : Nat} {l : List Ins} (h : InsC w b off l) (hb : Below n w w') (hn : w.heap.size ≤ n) : InsC w' b off l := by
  intro j x hx
  obtain ⟨h1, h2, h3, h4⟩ := h j x hx
  have l1 := World.block_lt_of_cell? w _ h1
  simp only at l1
  exact ⟨(hb.cell (by simp; omega)).trans h1, (hb.cell (by simp; omega)).trans h2, (hb.cell (by simp; omega)).trans h3, (hb.cell (by simp; omega)).trans h4⟩
theorem RdI.below {v : Value} {l : List Ins} (h : RdI w v l) (hb : Below n w w') (hn : w.heap.size ≤ n) : RdI w' v l := by
  rcases h with h | ⟨b, off, c, h1, h2, h3, h4, h5⟩
  · exact .inl h
  · exact .inr ⟨b, off, c, h1, h2, h3, h4, h5.below hb hn⟩
theorem FunC.below {b off : Nat} {l : List Fun} (h : FunC w b off l) (hb : Below n w w') (hn : w.heap.size ≤ n) : FunC w' b off l := by
  intro j x hx
  obtain ⟨h1, v, h2, h3⟩ := h j x hx
  have l1 := World.block_lt_of_cell? w _ h1
  simp only at l1
  exact ⟨(hb.cell (by simp; omega)).trans h1, v, (hb.cell (by simp; omega)).trans h2, h3.below hb hn⟩
theorem RdF.below {v : Value} {l : List Fun} (h : RdF w v l) (hb : Below n w w') (hn : w.heap.size ≤ n) : RdF w' v l := by
  rcases h with h | ⟨b, off, c, h1, h2, h3, h4, h5⟩
  · exact .inl h
  · exact .inr ⟨b, off, c, h1, h2, h3, h4, h5.below hb hn⟩
theorem RdI.form {v : Value} {l : List Ins} (h : RdI w v l) : ∃ o c, v = .slice o l.length c := by
  rcases h with ⟨o, c, rfl, rfl⟩ | ⟨b, off, c, rfl, _⟩ <;> exact ⟨_, _, rfl⟩
theorem RdF.form {v : Value} {l : List Fun} (h : RdF w v l) : ∃ o c, v = .slice o l.length c := by
  rcases h with ⟨o, c, rfl, rfl⟩ | ⟨b, off, c, rfl, _⟩ <;> exact ⟨_, _, rfl⟩
end

def NmPost (fs : List Fun) (caps globs : Int) (x : Ins) (d : Int) (w : World) (e : Ending) (w' : World) : Prop := e = .returned (.bool (nm fs caps globs x d)) ∧ Below w.heap.size w w'
theorem nmPost {fs : List Fun} {caps globs : Int} {x : Ins} {d : Int} {w w' : World} {b : Bool} (hb : nm fs caps globs x d = b) (h : Below w.heap.size w w') : NmPost fs caps globs x d w (.returned (.bool b)) w' := by
  subst hb; exact ⟨rfl, h⟩

set_option maxHeartbeats 4000000 in
set_option maxRecDepth 100000 in
theorem names_rest (fs : List Fun) (p : Nat) (caps globs d t : Int) (op : Nat) (n a : Int) (s : ByteArray) (w : World) (h3 : op ≠ 3) (h5 : op ≠ 5) (h6 : op ≠ 6) :
    Calls Tryd.prog 76 #[.pointer (some ⟨p, 0, none⟩), .agg #[.int .u8 (op : Int), .int .i64 n, .int .i64 a, .string s], .agg #[.int .i64 d, .int .i64 t]] w (NmPost fs caps globs ⟨op, n, a, s⟩ d w) := by
  have t3 : ((op : Int) == 3) = false := by rw [beq_eq_false_iff_ne]; omega
  have t5 : ((op : Int) == 5) = false := by rw [beq_eq_false_iff_ne]; omega
  have t6 : ((op : Int) == 6) = false := by rw [beq_eq_false_iff_ne]; omega
  have HB := Lib.hid (show Below w.heap.size w ((w.alloc (.cells #[.int .u8 (op : Int), .int .i64 n, .int .i64 a, .string s] 33)).alloc (.cells #[.int .i64 d, .int .i64 t] 113)) from ((Below.refl _ _).alloc (Nat.le_refl _) _).alloc (by simp) _)
  go_enter Tryd.func76, Tryd.ntmps76
  go_wp2_with fail
  all_goals
    go_ret
    refine nmPost ?_ HB.out
    simp only [beq_iff_eq, beq_eq_false_iff_ne, ne_eq] at *
    unfold nm
    dsimp only
    (repeat' split) <;> first | rfl | (exfalso; omega) | (rw [Bool.eq_iff_iff]; simp only [decide_eq_true_eq, Bool.false_eq_true, iff_false]; omega)

end Go.Proofs.YteenlckpjncgoaaDoor.Oc
