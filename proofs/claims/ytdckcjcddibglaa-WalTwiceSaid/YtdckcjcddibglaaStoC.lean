/- A snapshot in memory of its own; the snapshot's bytes. -/
import Derived.Test.YtdckcjcddibglaaStoB
import Derived.Laws.CopyOwn
namespace Go.Proofs.Ytdckcjcddibglaa
open Go.RowKit OctM

theorem own_block_bytes {w : World} {base g : Nat} {l : List UInt8} (h : w.heap[g]? = some (.cells (Bs l).toArray 5 (0, 0))) (hb : base ≤ g) (hl : l.length ≤ maxLen) : Own w base (.slice (some ⟨g, 0, none⟩) l.length l.length) l :=
  ⟨by rw [Bs_length, Nat.mul_one], .inr ⟨g, l.length, (Bs l).toArray, rfl, hb, h, Nat.le_refl _, hl, by simp [Bs], by rw [Nat.mul_one]; exact List.take_of_length_le (by simp [Bs])⟩⟩

/-- A row of zeroes made. -/
theorem made0 (n : Nat) (hn : n ≤ 140737488355328) (W : World) : (Instr.makeSlice 22 (.int .i64 (n : Int)) (.int .i64 (n : Int))).run Try.prog W = .ok (.slice (some ⟨W.heap.size, 0, none⟩) n n) (W.alloc (.cells (Bs (List.replicate n 0)).toArray 5)) := by
  obtain ⟨i0, hi0, hz0, hz1, hz2⟩ := info_parts u8info
  have h := run_make (P := Try.prog) W 22 5 i0 (.int .u8 0) Try.underlying22 hi0 hz0 .i64 .i64 (n : Int) (n : Int) (by omega) (by omega) (by rw [hz2]; omega) (by omega)
  simp only [Int.toNat_natCast, hz1, Nat.mul_one] at h
  rw [h]
  have e : madeCells (Value.int .u8 0).cells n = (Bs (List.replicate n 0)).toArray := by
    apply Array.ext
    · simp [madeCells, Bs]
    · intro i h1 h2
      simp [madeCells, Bs, B, Value.cells, Nat.mod_one]
  rw [e]

theorem kept3 {W : World} {b : Nat} {x y z : Value} {t : TypeId} (h : W.heap[b]? = some (.cells #[x, y, z] t (0, 0))) :
    W.cell? ⟨b, 0, none⟩ = some x ∧ W.cell? ⟨b, 1, none⟩ = some y ∧ W.cell? ⟨b, 2, none⟩ = some z ∧ W.frozen? ⟨b, 0, none⟩ = false ∧ W.frozen? ⟨b, 1, none⟩ = false ∧ W.frozen? ⟨b, 2, none⟩ = false ∧ b < W.heap.size :=
  ⟨cellk h rfl, cellk h rfl, cellk h rfl, free_of h 0, free_of h 1, free_of h 2, lt_of_block h⟩

/-- Bytes copied over a row of as many. -/
theorem copy_over {W : World} {g : Nat} {z l : List UInt8} {src : Value} (hz : z.length = l.length) (hg : W.heap[g]? = some (.cells (Bs z).toArray 5 (0, 0))) (h : Rd W src l) (hl : 0 < l.length) :
    (Builtin.copy_ #[22, 22] 3 #[.slice (some ⟨g, 0, none⟩) l.length l.length, src]).run Try.prog W = .ok (.int .i64 (l.length : Int)) (W.setRow g (Bs l).toArray) := by
  rcases h with ⟨-, h⟩ | ⟨a, c', rfl, hle, hm2, hcs⟩
  · subst h; simp at hl
  have hsp : ∀ j u, (Bs l)[j]? = some u → W.cell? (a.add j) = some u := fun j u hj => by
    obtain ⟨b, hb, rfl⟩ : ∃ b, l[j]? = some b ∧ B b = u := by simpa [Bs] using hj
    exact hcs j b hb
  have hrun := run_copy_row (P := Try.prog) W 22 22 3 5 g 0 l.length l.length a l.length c' (Bs z).toArray 5 (Bs l) (by kernel_rfl) (by kernel_rfl) hg (by rw [Bs_length]; exact (Nat.min_self _).symm) hsp (by simp [Bs, hz]) (Bs_one l)
  rw [hrun, Bs_length]
  have e : ((Bs z).toArray.toList.take 0 ++ Bs l ++ (Bs z).toArray.toList.drop (0 + l.length)) = Bs l := by
    simp [Bs, hz]
  rw [e]
  rfl

end Go.Proofs.Ytdckcjcddibglaa
