/- Plain: instructions and functions; which instruction may stand where; functions that may run. -/
import Derived.Test.YtpmbdncackneoaaDoorOctB
namespace CodM

structure Ins where
  op : Nat
  n : Int
  a : Int
  s : ByteArray

structure Fun where
  caps : Int
  code : List Ins

/-- How many values an instruction takes, and leaves. -/
def tk (x : Ins) : Int :=
  if x.op = 6 then x.a else if x.op = 9 then x.n else if x.op = 18 then Go.RowKit.wrap64 (x.n + 1)
  else if x.op = 7 ∨ x.op = 20 then 2
  else if x.op = 8 ∨ x.op = 10 ∨ x.op = 11 ∨ x.op = 14 ∨ x.op = 15 ∨ x.op = 16 ∨ x.op = 17 ∨ x.op = 21 ∨ x.op = 22 ∨ x.op = 23 ∨ x.op = 13 ∨ x.op = 19 then 1 else 0
def lv (x : Ins) : Int :=
  if x.op ≤ 11 ∨ x.op = 14 ∨ x.op = 15 ∨ x.op = 16 ∨ x.op = 17 ∨ x.op = 18 ∨ x.op = 20 ∨ x.op = 21 ∨ x.op = 22 ∨ x.op = 23 then 1 else 0

/-- Is what an instruction names there? -/
def nm (fs : List Fun) (caps globs : Int) (x : Ins) (d : Int) : Bool :=
  if x.op = 2 then decide (0 ≤ x.n ∧ x.n < d)
  else if x.op = 3 then decide (0 ≤ x.n ∧ x.n < caps)
  else if x.op = 5 then decide (0 ≤ x.n ∧ x.n < globs)
  else if x.op = 6 then decide (0 ≤ x.n ∧ x.n < fs.length ∧ 0 ≤ x.a ∧ (fs[x.n.toNat]?.map Fun.caps) = some x.a)
  else if x.op = 9 then decide (2 ≤ x.n ∧ x.n ≤ 1000)
  else if x.op = 18 then decide (1 ≤ x.n ∧ x.n < d)
  else if x.op = 20 then decide (0 ≤ x.n ∧ x.n ≤ 10)
  else if x.op = 10 ∨ x.op = 11 ∨ x.op = 17 then decide (0 ≤ x.n ∧ x.n ≤ 100000)
  else true

/-- May an instruction stand where d values are on the stack and t tries are open? -/
def alw (fs : List Fun) (caps globs : Int) (x : Ins) (d t : Int) : Bool :=
  decide (x.op ≤ 26) && nm fs caps globs x d && (if x.op = 8 then decide (d = 2 ∧ t = 0) else if x.op = 25 then decide (0 < t) else decide (tk x < d))

/-- Where one gets from place i. -/
def succ (x : Ins) (i : Nat) (d t : Int) : List (Int × Int × Int) :=
  if x.op = 8 ∨ x.op = 26 then []
  else if x.op = 12 then [(x.n, d, t)]
  else if x.op = 13 then [(x.n, d - 1, t), ((i : Int) + 1, d - 1, t)]
  else if x.op = 24 then [(x.n, d + 1, t), ((i : Int) + 1, d, t + 1)]
  else if x.op = 25 then [((i : Int) + 1, d, t - 1)]
  else [((i : Int) + 1, d + (lv x - tk x), t)]

/-- A state for each place that one gets to: all of them allowed. -/
structure Closed (fs : List Fun) (globs : Int) (f : Fun) (F : Nat → Option (Int × Int)) : Prop where
  zero : F 0 = some (1, 0)
  at_ : ∀ i d t, F i = some (d, t) → ∃ x, f.code[i]? = some x ∧ alw fs f.caps globs x d t = true ∧ ∀ s ∈ succ x i d t, (i : Int) < s.1 ∧ F s.1.toNat = some s.2

def Valid (fs : List Fun) (globs : Int) (f : Fun) : Prop := 0 ≤ f.caps ∧ ∃ F, Closed fs globs f F
open Classical in
/-- May all run? -/
noncomputable def chk (fs : List Fun) (globs : Int) : Bool := decide (∀ f ∈ fs, Valid fs globs f)
open Classical in
noncomputable def ok1 (fs : List Fun) (globs : Int) (f : Fun) : Bool := decide (∃ F, Closed fs globs f F)

/-- All numbers fit. -/
def InsFit (x : Ins) : Prop := x.op ≤ 255 ∧ -9223372036854775808 ≤ x.n ∧ x.n ≤ 9223372036854775807 ∧ -9223372036854775808 ≤ x.a ∧ x.a ≤ 9223372036854775807
end CodM
