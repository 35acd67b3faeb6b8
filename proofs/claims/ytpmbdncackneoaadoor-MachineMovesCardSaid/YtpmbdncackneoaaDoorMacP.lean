/- The machine in the plain: values, instructions, steps; as far as nothing is collected, and no object has parts but functions and predefined ones. -/
import Derived.Test.YtpmbdncackneoaaDoorCodM
import Derived.Test.YtpmbdncackneoaaDoorHeaT
namespace Go.Proofs.YtpmbdncackneoaaDoor.Ma
open CodM HeaM

/-- A value: a number; a text, a function, a predefined function, and where it stands. -/
inductive V where
  | num (n : Int)
  | txt (i : Nat) (l : List UInt8)
  | fn (i f : Nat)
  | prim (i p : Nat)
def V.word : V → Nat
  | .num n => ((2 * n + 1) % 18446744073709551616).toNat
  | .txt i _ => 2 * i
  | .fn i _ => 2 * i
  | .prim i _ => 2 * i
def V.isNum : V → Bool
  | .num _ => true
  | _ => false
def numW (n : Int) : Nat := ((2 * n + 1) % 18446744073709551616).toNat
/-- A number of 63 bits. -/
def cut (n : Int) : Int := (n + 4611686018427387904) % 9223372036854775808 - 4611686018427387904

structure Fr where
  fn : Nat
  self : V
  base : Nat
  at_ : Int
structure Tr where
  frames : Nat
  at_ : Int
  depth : Nat
/-- What an execution has. The tops of the stack, the frames and the tries stand first. -/
structure Ms where
  W : List Nat
  F : List Bool
  stk : List V
  frs : List Fr
  trs : List Tr
  fuel : Nat
  room : Nat
  out : List UInt8
  done : List (Bool × Int)
  raised : List UInt8
  result : Nat
/-- What stays. -/
structure Mc where
  funs : List Fun
  globs : List V
  q : Nat
  moves : Nat

abbrev Ans := Option (Nat × Ms)
def push (s : Ms) (v : V) : Ms := { s with stk := v :: s.stk }
def ok (s : Ms) : Ans := some (0, s)
def answer (s : Ms) (n : Int) : Ans := ok (push s (.num (cut n)))
def truth (s : Ms) (b : Bool) : Ans := ok (push s (.num (if b then 1 else 0)))
def putText (c : Mc) (s : Ms) (l : List UInt8) : Ans :=
  if s.W.length + need 3 l.length ≤ c.q then ok (push { s with W := s.W ++ (l.length * 256 + 3) :: pk l, F := s.F ++ true :: List.replicate (nw l.length) false } (.txt s.W.length l)) else none
def putFn (c : Mc) (s : Ms) (f : Nat) : Ans :=
  if s.W.length + 2 ≤ c.q then ok (push { s with W := s.W ++ [261, numW f], F := s.F ++ [true, false] } (.fn s.W.length f)) else none
def tLong : List UInt8 := [108, 111, 110, 103]
/-- On where the last open try leads. -/
def land (s : Ms) (t : Tr) (ts : List Tr) : Option Ms :=
  if t.frames ≤ s.frs.length ∧ t.depth ≤ s.stk.length then
    match s.frs.drop (s.frs.length - t.frames) with
    | [] => none
    | f :: fs => some { s with trs := ts, frs := { f with at_ := t.at_ } :: fs, stk := s.stk.drop (s.stk.length - t.depth) }
  else none
def raise (c : Mc) (s : Ms) (l : List UInt8) : Ans :=
  match s.trs with
  | [] => some (9, { s with raised := l })
  | t :: ts => match land s t ts with
    | none => none
    | some s' => putText c s' (if 4096 < l.length then tLong else l)
def text (c : Mc) (s : Ms) (l : List UInt8) : Ans := if 4096 < l.length then raise c s tLong else putText c s l
def enter (s : Ms) (fn : Nat) (self v : V) : Ans :=
  if 67108864 < s.stk.length + 3 * s.trs.length then none else ok { s with frs := ⟨fn, self, s.stk.length, 0⟩ :: s.frs, stk := v :: s.stk }
def leave (s : Ms) : Ans :=
  match s.stk, s.frs with
  | v :: t, f :: fs =>
    if f.base ≤ t.length then match fs with
      | [] => ok { s with stk := t.drop (t.length - f.base), frs := [], result := v.word }
      | g :: gs => ok { s with stk := v :: t.drop (t.length - f.base), frs := g :: gs }
    else none
  | _, _ => none
def reckon (c : Mc) (s : Ms) (sign a b : Int) : Ans :=
  if sign = 0 then answer s (a + b)
  else if sign = 1 then answer s (a - b)
  else if sign = 2 then answer s (a * b)
  else if sign = 7 then truth s (decide (a < b))
  else if sign = 8 then truth s (decide (a ≤ b))
  else if sign ≠ 3 ∧ sign ≠ 4 then none
  else if b = 0 then raise c s [100, 105, 118]
  else if sign = 3 then answer s (a.tdiv b)
  else if sign = 4 then answer s (a.tmod b)
  else none
def operate (c : Mc) (s : Ms) (sign : Int) (a b : V) : Ans :=
  if sign = 5 ∨ sign = 6 then
    if s.fuel = 0 then some (10, s)
    else match a, b with
      | .num x, .num y => truth { s with fuel := s.fuel - 1 } (decide (x = y) == decide (sign = 5))
      | .txt _ l, .txt _ m => truth { s with fuel := s.fuel - 1 } (decide (l = m) == decide (sign = 5))
      | _, _ => none
  else if sign = 9 then match a, b with
    | .txt _ l, .txt _ m => text c s (l ++ m)
    | _, _ => none
  else match a, b with
    | .num x, .num y => reckon c s sign x y
    | _, _ => none
/-- A predefined function (a number's digits are not said here). -/
def predefined (c : Mc) (s : Ms) (p : Nat) (v : V) : Ans :=
  match v with
  | .txt _ l =>
    if p = 4 then answer { s with out := s.out ++ l.take s.room, room := s.room - (l.take s.room).length } 0
    else if p = 6 then answer s l.length
    else none
  | .num n =>
    if p = 2 ∨ p = 7 then
      (if c.moves ≤ s.done.length then raise c s [109, 111, 118, 101, 115] else answer { s with done := s.done ++ [(decide (p = 7), n)] } 0)
    else none
  | _ => none
def call (c : Mc) (s : Ms) : Ans :=
  match s.stk with
  | v :: f :: t =>
    if s.fuel = 0 then some (10, { s with stk := t })
    else match f with
      | .fn i n => match c.funs[n]? with
        | some g => if g.caps = 0 then enter { s with stk := t, fuel := s.fuel - 1 } n (.fn i n) v else none
        | none => none
      | .prim _ p => predefined c { s with stk := t, fuel := s.fuel - 1 } p v
      | _ => none
  | _ => none
/-- An instruction; f is the frame that runs, and how it goes on. -/
def doI (c : Mc) (s : Ms) (f : Fr) (fs : List Fr) (x : Ins) : Ans :=
  if x.op = 0 then answer s x.n
  else if x.op = 1 then text c s x.s.data.toList
  else if x.op = 2 then (if 0 ≤ x.n ∧ x.n ≤ 100000000 then match s.stk.reverse[f.base + x.n.toNat]? with
    | some v => ok (push s v)
    | none => none else none)
  else if x.op = 4 then (match f.self with
    | .num _ => none
    | v => ok (push s v))
  else if x.op = 5 then (if 0 ≤ x.n then match c.globs[x.n.toNat]? with
    | some v => ok (push s v)
    | none => none else none)
  else if x.op = 6 then (if x.a = 0 ∧ 0 ≤ x.n ∧ x.n ≤ 1000000 then putFn c s x.n.toNat else none)
  else if x.op = 7 then call c s
  else if x.op = 8 then leave s
  else if x.op = 13 then (match s.stk with
    | v :: t => if v.word = 1 then ok { s with stk := t, frs := { f with at_ := x.n } :: fs } else ok { s with stk := t }
    | [] => none)
  else if x.op = 15 then (match s.stk with
    | .txt _ l :: t => truth { s with stk := t } (decide (l = x.s.data.toList))
    | _ => none)
  else if x.op = 18 then (match s.stk with
    | v :: t => if 0 ≤ x.n ∧ x.n ≤ t.length then ok { s with stk := v :: t.drop x.n.toNat } else none
    | [] => none)
  else if x.op = 19 then (match s.stk with
    | _ :: t => ok { s with stk := t }
    | [] => none)
  else if x.op = 20 then (match s.stk with
    | b :: a :: t => operate c { s with stk := t } x.n a b
    | _ => none)
  else if x.op = 24 then ok { s with trs := ⟨s.frs.length, x.n, s.stk.length⟩ :: s.trs }
  else if x.op = 26 then raise c s x.s.data.toList
  else none
/-- Few enough of all. -/
def few (s : Ms) : Prop := s.stk.length ≤ 100000000 ∧ s.frs.length ≤ 100000000 ∧ s.trs.length ≤ 100000000 ∧ s.out.length ≤ 100000000 ∧ s.done.length ≤ 100000000
instance (s : Ms) : Decidable (few s) := by unfold few; infer_instance
def step (c : Mc) (s : Ms) : Ans :=
  if few s then match s.frs with
    | [] => none
    | f :: fs => match c.funs[f.fn]? with
      | none => none
      | some g => if 0 ≤ f.at_ ∧ f.at_ ≤ 100000000 then match g.code[f.at_.toNat]? with
        | none => none
        | some x => doI c { s with frs := { f with at_ := f.at_ + 1 } :: fs } { f with at_ := f.at_ + 1 } fs x
        else none
  else none
/-- So many steps at most. -/
def runN (c : Mc) : Nat → Ms → Ans
  | 0, _ => none
  | n + 1, s => if s.frs.length = 0 then some (0, s) else match step c s with
    | none => none
    | some (e, s') => if e = 0 then runN c n s' else some (e, s')

-- where things stand
/-- A value in a heap. -/
def Rep (W : List Nat) (F : List Bool) : V → Prop
  | .num n => -4611686018427387904 ≤ n ∧ n < 4611686018427387904
  | .txt i l => ObjAt W F i (l.length * 256 + 3) 3 l.length (need 3 l.length) ∧ txt W i l.length = l ∧ l.length ≤ 1000000
  | .fn i f => ObjAt W F i 261 5 1 2 ∧ W[i + 1]? = some (numW f) ∧ f ≤ 1000000
  | .prim i p => ObjAt W F i 262 6 1 2 ∧ W[i + 1]? = some (numW p) ∧ p ≤ 1000000
end Go.Proofs.YtpmbdncackneoaaDoor.Ma
