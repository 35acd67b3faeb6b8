/- lose. -/
import Derived.Test.YtdckcjcddibglaaDruC
import Derived.Laws.Slices
import Derived.Laws.Small
import Derived.IntWalk
namespace Go.Proofs.Ytdckcjcddibglaa
open Go.RowKit

theorem sizeByteD (W : World) : (sizeOf (Try.prog.elem 22)).run Try.prog W = .ok 1 W := by kernel_rfl

theorem cut0 (o : Option Addr) (n c k : Nat) (hk : k ≤ c) (ho : o = none ∨ ∃ g, o = some ⟨g, 0, none⟩) (W : World) :
    (Instr.slice 22 (.slice o n c) none (some (.int .i64 (k : Int))) none).run Try.prog W = .ok (.slice o k c) W := by
  have ht : Try.prog.underlying 22 = some (.slice (Try.prog.elem 22)) := by kernel_rfl
  rw [run_slice_h W _ o _ c ht .i64 k (by omega) (by omega), sizeByteD]
  show Result.ok (sliced o 0 (k : Int).toNat c 1) W = _
  rw [Int.toNat_natCast]
  unfold sliced
  rcases ho with rfl | ⟨g, rfl⟩
  · simp
  · simp [add_none]

theorem cut1 (o : Option Addr) (n c k : Nat) (x : Int) (hx : x = (k : Int)) (hk : k ≤ c) (ho : o = none ∨ ∃ g, o = some ⟨g, 0, none⟩) (W : World) :
    (Instr.slice 22 (.slice o n c) none (some (.int .i64 x)) none).run Try.prog W = .ok (.slice o k c) W := by
  subst hx
  exact cut0 o n c k hk ho W

theorem set_same {w : World} {a : Addr} {u v : Value} (h : w.cell? a = some u) : (w.setCell a v).cell? a = some v := World.cell?_setCell_same _ _ _ h
theorem set_other {w : World} {a b : Addr} {u v : Value} (hne : a ≠ b) (h : w.cell? b = some u) : (w.setCell a v).cell? b = some u := (World.cell?_setCell_other _ _ _ _ hne).trans h

theorem ownBlock_len (o : Option Addr) (n c n' c' : Nat) : (Value.slice o n c).ownBlock = (Value.slice o n' c').ownBlock := by cases o <;> rfl

/-- What lose leaves. -/
def Lost (w : World) (T i : Nat) (v : Value) (e : Ending) (w' : World) : Prop :=
  e = .returned (.tuple #[]) ∧ ∃ x : World, x.heap = (w.setCell ⟨T, i, none⟩ v).heap ∧ x.os = w.os ∧ x.tape = w.tape ∧ x.output = w.output ∧ w' = (x.setCell ⟨T, i + 1, none⟩ v).setCell ⟨T, i + 2, none⟩ (.bool false)

theorem max_at (P : Program) (x y z : Int) (h : z = if y > x then y else x) (W : World) (ts : Array TypeId) (t : TypeId) : (Builtin.max_ ts t #[.int .i64 x, .int .i64 y]).run P W = .ok (.int .i64 z) W := by
  rw [run_max_int2, h]
theorem min_at (P : Program) (x y z : Int) (h : z = if y < x then y else x) (W : World) (ts : Array TypeId) (t : TypeId) : (Builtin.min_ ts t #[.int .i64 x, .int .i64 y]).run P W = .ok (.int .i64 z) W := by
  rw [run_min_int2, h]

/-- What a track is behind a fall. -/
def left (t : Tk) (cut : Int) : List UInt8 :=
  if t.wr = false then t.now.take (t.dur.length + min cut.toNat (t.now.length - t.dur.length)) else if cut < 0 then t.dur else t.now.take (min cut.toNat t.now.length)

def loseT (t : Tk) (cut : Int) : Tk := ⟨left t cut, left t cut, false⟩

end Go.Proofs.Ytdckcjcddibglaa
