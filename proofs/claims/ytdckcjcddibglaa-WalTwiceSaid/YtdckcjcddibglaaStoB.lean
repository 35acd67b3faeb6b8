/- Tracks, Most; a snapshot in memory of its own; the snapshot of bytes. -/
import Derived.Test.YtdckcjcddibglaaStoA
import Derived.Test.YtdckcjcddibglaaDruK
import Derived.Deep.Cut
namespace Go.Proofs.Ytdckcjcddibglaa
open Go.RowKit OctM

theorem cellk {w : World} {b i : Nat} {cs : Array Value} {t : TypeId} {fr : Nat × Nat} {v : Value} (h : w.heap[b]? = some (.cells cs t fr)) (hv : cs[i]? = some v) : w.cell? ⟨b, i, none⟩ = some v := by simp [World.cell?, h, hv]
theorem kept_of_below {S : Nat → Prop} {w w' : World} (h : Below w.heap.size w w') : Kept S w w' := (Below.kept (S := fun k => w.heap.size ≤ k) h (fun _ h _ => h)).weak (fun k h1 h2 => by omega)
theorem free_of {w : World} {b : Nat} {cs : Array Value} {t : TypeId} (h : w.heap[b]? = some (.cells cs t (0, 0))) (i : Nat) : w.frozen? ⟨b, i, none⟩ = false := by simp [World.frozen?, h]

theorem tracks_any (w : World) {S : Nat → Prop} {D T : Nat} {vn vd : Nat → Value} {d : Dr} (h : DAt w S D T vn vd d) :
    Calls Try.prog 28 #[.pointer (some ⟨D, 0, none⟩)] w fun e w' => e = .returned (.int .i64 (d.n : Int)) ∧ w = w' := by
  obtain ⟨-, c1, -⟩ := h.cells
  clear h
  go_enter Try.func28, Try.ntmps28
  go_wp2
  go_ret
  exact ⟨rfl, rfl⟩

/-- A snapshot as a value. -/
def snV (s : Sn) (v : Value) : Value := .agg #[.int .u64 (s.ix : Int), .int .u64 (s.tm : Int), v]

/-- A snapshot told, its bytes in memory of its own. -/
def SnP (w : World) (s : Sn) (e : Ending) (w' : World) : Prop := ∃ v, e = .returned (snV s v) ∧ Own w' w.heap.size v s.dat ∧ Below w.heap.size w w'

end Go.Proofs.Ytdckcjcddibglaa
