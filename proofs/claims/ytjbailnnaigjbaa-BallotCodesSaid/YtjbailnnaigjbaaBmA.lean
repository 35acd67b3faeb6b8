/- Messages: what is read, plain. -/
import Derived.Test.YtjbailnnaigjbaaBalF
import Derived.Test.YtjbailnnaigjbaaOctJ
import Derived.Test.YtjbailnnaigjbaaOctP
import Derived.Test.YtjbailnnaigjbaaOctH
namespace Go.Proofs.Ytjbailnnaigjbaa
open Go.RowKit OctM

/-- A message. -/
structure Mg where
  k : Nat
  fr : Int
  tg : Int
  tm : Nat
  ix : Nat
  lt : Nat
  cm : Nat
  ok : Bool
  es : List En
  dt : List UInt8

/-- The next entry, and what is left. -/
def entS (s : Option (List UInt8)) : En × Option (List UInt8) :=
  (⟨(uintS s).1, (uintS (uintS s).2).1, (uintS (uintS (uintS s).2).2).1, (bytesS (uintS (uintS (uintS s).2).2).2 4000).1⟩, (bytesS (uintS (uintS (uintS s).2).2).2 4000).2)
/-- So many entries; at a fault nothing is left. -/
def entsS : Nat → Option (List UInt8) → List En × Option (List UInt8)
  | 0, s => ([], s)
  | n + 1, s => if (entS s).2 = none then ([], none) else ((entS s).1 :: (entsS n (entS s).2).1, (entsS n (entS s).2).2)
/-- What stands ahead of the entries. -/
structure Hd where
  k : Nat
  fr : Int
  tg : Int
  tm : Nat
  ix : Nat
  lt : Nat
  cm : Nat
  ok : Bool
  s : Option (List UInt8)
def h1 (p : List UInt8) : Option (List UInt8) := (uptoS (some p) 255).2
def headS (p : List UInt8) : Hd :=
  let s1 := (uptoS (some p) 255).2
  let s2 := (uintS s1).2
  let s3 := (uintS s2).2
  let s4 := (uintS s3).2
  let s5 := (uintS s4).2
  let s6 := (uintS s5).2
  let s7 := (uintS s6).2
  ⟨(uptoS (some p) 255).1, unzig (uintS s1).1, unzig (uintS s2).1, (uintS s3).1, (uintS s4).1, (uintS s5).1, (uintS s6).1, (uptoS s7 1).1 == 1, (uptoS s7 1).2⟩
/-- The bytes inside as a message. -/
def decI (p : List UInt8) : Option Mg :=
  if (bytesS (entsS (uptoS (headS p).s 65536).1 (uptoS (headS p).s 65536).2).2 1048576).2 = some [] then
    some ⟨(headS p).k, (headS p).fr, (headS p).tg, (headS p).tm, (headS p).ix, (headS p).lt, (headS p).cm, (headS p).ok, (entsS (uptoS (headS p).s 65536).1 (uptoS (headS p).s 65536).2).1, (bytesS (entsS (uptoS (headS p).s 65536).1 (uptoS (headS p).s 65536).2).2 1048576).1⟩
  else none
def finM : Option Mg → Int × Option Mg
  | none => (3, none)
  | some m => (0, some m)
/-- A message of bytes: the error's number, or it. -/
def decM (l : List UInt8) : Int × Option Mg :=
  if (openS l).2 ≠ 0 then ((openS l).2, none) else finM (decI (openS l).1)

theorem bytesS_none (m : Int) : bytesS none m = ([], none) := by
  unfold bytesS uptoS
  split <;> rfl
theorem entS_none : (entS none).2 = none := by
  unfold entS
  simp only [uintS_none, bytesS_none]
theorem entsS_none (n : Nat) : (entsS n none).2 = none ∧ (n ≠ 0 → (entsS n none).1 = []) := by
  cases n with
  | zero => exact ⟨rfl, fun h => absurd rfl h⟩
  | succ n => simp [entsS, entS_none]

/-- Entries that read so. -/
def EnR (w : World) (b off : Nat) (x : En) : Prop := ∃ u, w.cell? ⟨b, off, none⟩ = some (.int .u64 (x.tm : Int)) ∧ w.cell? ⟨b, off + 1, none⟩ = some (.int .u64 (x.ss : Int)) ∧ w.cell? ⟨b, off + 2, none⟩ = some (.int .u64 (x.nm : Int)) ∧ w.cell? ⟨b, off + 3, none⟩ = some u ∧ Rd w u x.cl
def RE (w : World) (v : Value) (es : List En) : Prop := ∃ o c, v = .slice o es.length c ∧ ∀ (i : Nat) x, es[i]? = some x → ∃ b off, o = some ⟨b, off, none⟩ ∧ EnR w b (off + i * 4) x
theorem EnR.below {w w' : World} {b off : Nat} {x : En} (h : EnR w b off x) (hb : Below w.heap.size w w') : EnR w' b off x := by
  obtain ⟨u, h0, h1, h2, h3, h4⟩ := h
  exact ⟨u, (hb.cell (World.block_lt_of_cell? w _ h0)).trans h0, (hb.cell (World.block_lt_of_cell? w _ h1)).trans h1, (hb.cell (World.block_lt_of_cell? w _ h2)).trans h2, (hb.cell (World.block_lt_of_cell? w _ h3)).trans h3, h4.below hb⟩
theorem RE.below {w w' : World} {v : Value} {es : List En} (h : RE w v es) (hb : Below w.heap.size w w') : RE w' v es := by
  obtain ⟨o, c, hv, hx⟩ := h
  refine ⟨o, c, hv, fun i x hi => ?_⟩
  obtain ⟨b, off, ho, he⟩ := hx i x hi
  exact ⟨b, off, ho, he.below hb⟩

/-- A message as a value. -/
def mgV (m : Mg) (ve vd : Value) : Value := .agg #[.int .u8 (m.k : Int), .int .i64 m.fr, .int .i64 m.tg, .int .u64 (m.tm : Int), .int .u64 (m.ix : Int), .int .u64 (m.lt : Int), .int .u64 (m.cm : Int), .bool m.ok, ve, vd]
def mg0 : Mg := ⟨0, 0, 0, 0, 0, 0, 0, false, [], []⟩
/-- A message that reads so. -/
def MgR (w : World) (v : Value) (m : Mg) : Prop := ∃ ve vd, v = mgV m ve vd ∧ RE w ve m.es ∧ Rd w vd m.dt
theorem MgR.below {w w' : World} {v : Value} {m : Mg} (h : MgR w v m) (hb : Below w.heap.size w w') : MgR w' v m := by
  obtain ⟨ve, vd, h1, h2, h3⟩ := h
  exact ⟨ve, vd, h1, h2.below hb, h3.below hb⟩
theorem mg0_r (w : World) : MgR w (mgV mg0 (.slice none 0 0) (.slice none 0 0)) mg0 := ⟨_, _, rfl, ⟨none, 0, rfl, fun i x h => by simp [mg0] at h⟩, .inl ⟨rfl, rfl⟩⟩
/-- What is told of bytes: a message, or none. -/
def DecP (w : World) (l : List UInt8) (e : Ending) (w' : World) : Prop := Below w.heap.size w w' ∧ ∃ v, e = .returned (.tuple #[v, .int .i64 (decM l).1]) ∧ MgR w' v ((decM l).2.getD mg0)
end Go.Proofs.Ytjbailnnaigjbaa
