/- A snapshot in memory of its own; the snapshot's bytes. -/
import Derived.Test.YtonahfpnlaolpaaStoB
import Derived.Laws.CopyOwn
namespace Go.Proofs.Ytonahfpnlaolpaa
open Go.RowKit OctM

theorem own_block_bytes {w : World} {base g : Nat} {l : List UInt8} (h : w.heap[g]? = some (.cells (Bs l).toArray 5 (0, 0))) (hb : base ≤ g) (hl : l.length ≤ maxLen) : Own w base (.slice (some ⟨g, 0, none⟩) l.length l.length) l :=
  ⟨by rw [Bs_length, Nat.mul_one], .inr ⟨g, l.length, (Bs l).toArray, rfl, hb, h, Nat.le_refl _, hl, by simp [Bs], by rw [Nat.mul_one]; exact List.take_of_length_le (by simp [Bs])⟩⟩

/-- A row of zeroes made. -/
theorem made0 (n : Nat) (hn : n ≤ 140737488355328) (W : World) : (Instr.makeSlice 22 (.int .i64 (n : Int)) (.int .i64 (n : Int))).run Try.prog W = .ok (.slice (some ⟨W.heap.size, 0, none⟩) n n) (W.alloc (.cells (Bs (List.replicate n 0)).toArray 5)) := by
  obtain ⟨i0, hi0, hz0, hz1, hz2⟩ := info_parts u8info
  have h := run_make (P := Try.prog) W 22 5 i0 (.int .u8 0) Try.underlying22 hi0 hz0 .i64 .i64 (n : Int) (n : Int) (by omega) (by omega) (by rw [hz2]; omega) (by omega)
  simp only [Int.toNat_natCast, hz1, Nat.mul_one] at h
  rw [h]
  have e : madeCells (Value.int .u8 0).cells n = (Bs (List.replicate n 0)).toArray := by
    apply Array.ext
    · simp [madeCells, Bs]
    · intro i h1 h2
      simp [madeCells, Bs, B, Value.cells, Nat.mod_one]
  rw [e]

theorem kept3 {W : World} {b : Nat} {x y z : Value} {t : TypeId} (h : W.heap[b]? = some (.cells #[x, y, z] t (0, 0))) :
    W.cell? ⟨b, 0, none⟩ = some x ∧ W.cell? ⟨b, 1, none⟩ = some y ∧ W.cell? ⟨b, 2, none⟩ = some z ∧ W.frozen? ⟨b, 0, none⟩ = false ∧ W.frozen? ⟨b, 1, none⟩ = false ∧ W.frozen? ⟨b, 2, none⟩ = false ∧ b < W.heap.size :=
  ⟨cellk h rfl, cellk h rfl, cellk h rfl, free_of h 0, free_of h 1, free_of h 2, lt_of_block h⟩

/-- Bytes copied over a row of as many. -/
theorem copy_over {W : World} {g : Nat} {z l : List UInt8} {src : Value} (hz : z.length = l.length) (hg : W.heap[g]? = some (.cells (Bs z).toArray 5 (0, 0))) (h : Rd W src l) (hl : 0 < l.length) :
    (Builtin.copy_ #[22, 22] 3 #[.slice (some ⟨g, 0, none⟩) l.length l.length, src]).run Try.prog W = .ok (.int .i64 (l.length : Int)) (W.setRow g (Bs l).toArray) := by
  rcases h with ⟨-, h⟩ | ⟨a, c', rfl, hle, hm2, hcs⟩
  · subst h; simp at hl
  have hsp : ∀ j u, (Bs l)[j]? = some u → W.cell? (a.add j) = some u := fun j u hj => by
    obtain ⟨b, hb, rfl⟩ : ∃ b, l[j]? = some b ∧ B b = u := by simpa [Bs] using hj
    exact hcs j b hb
  have hrun := run_copy_row (P := Try.prog) W 22 22 3 5 g 0 l.length l.length a l.length c' (Bs z).toArray 5 (Bs l) (by kernel_rfl) (by kernel_rfl) hg (by rw [Bs_length]; exact (Nat.min_self _).symm) hsp (by simp [Bs, hz]) (Bs_one l)
  rw [hrun, Bs_length]
  have e : ((Bs z).toArray.toList.take 0 ++ Bs l ++ (Bs z).toArray.toList.drop (0 + l.length)) = Bs l := by
    simp [Bs, hz]
  rw [e]
  rfl

set_option maxHeartbeats 4000000 in
set_option maxRecDepth 100000 in
theorem sfresh_any (s : Sn) (v : Value) (w : World) (h : Rd w v s.dat) (hl : s.dat.length ≤ 100000000) :
    Calls Try.prog 47 #[snV s v] w (SnP w s) := by
  obtain ⟨ix, tm, l⟩ := s
  dsimp only at h hl
  obtain ⟨o, c, rfl⟩ : ∃ o c, v = .slice o l.length c := by
    rcases h with ⟨rfl, rfl⟩ | ⟨_, c, rfl, _⟩ <;> exact ⟨_, _, rfl⟩
  have H := Lib.hid h
  clear h
  unfold snV
  dsimp only
  go_enter Try.func47, Try.ntmps47
  by_cases hz : l.length = 0
  · obtain rfl : l = [] := List.eq_nil_of_length_eq_zero hz
    clear hz
    have hp : decide ((0 : Int) < 0) = false := by decide
    go_wp2_with fail
    refine bodyPost_ret (v := snV ⟨ix, tm, []⟩ (.slice none 0 0)) (by simp [results, Try.results47, go_sem, snV]) rfl ?_
    exact ⟨_, rfl, World.ownsRow_nil _ _ 5 1, ((Below.refl _ _).alloc (Nat.le_refl _) _).alloc (by simp) _⟩
  · have hp : (0 : Int) < (l.length : Int) := by omega
    have hm := made0 l.length (by omega)
    go_upto_region 5 with fail
    obtain ⟨W, hW⟩ : ∃ W, (((w.alloc (.cells #[.int .u64 (ix : Int), .int .u64 (tm : Int), .slice (some ⟨w.heap.size + 1 + 1, 0, none⟩) l.length l.length] 55)).alloc (.cells #[.int .u64 0, .int .u64 0, .slice none 0 0] 55)).alloc (.cells (Bs (List.replicate l.length 0)).toArray 5)) = W := ⟨_, rfl⟩
    have hb : Below w.heap.size w W := by rw [← hW]; exact (((Below.refl _ _).alloc (Nat.le_refl _) _).alloc (by simp) _).alloc (by simp; omega) _
    have hs : W.heap.size = w.heap.size + 3 := by rw [← hW]; simp
    have h0 : W.heap[w.heap.size]? = some (.cells #[.int .u64 (ix : Int), .int .u64 (tm : Int), .slice (some ⟨w.heap.size + 1 + 1, 0, none⟩) l.length l.length] 55 (0, 0)) := by
      rw [← hW, Below.heap_alloc _ _ _ (by simp; omega), Below.heap_alloc _ _ _ (by simp)]; exact heap_alloc_new _ _
    have h1 : W.heap[w.heap.size + 1]? = some (.cells #[.int .u64 0, .int .u64 0, .slice none 0 0] 55 (0, 0)) := by
      rw [← hW, Below.heap_alloc _ _ _ (by simp)]
      have := heap_alloc_new (w.alloc (.cells #[.int .u64 (ix : Int), .int .u64 (tm : Int), .slice (some ⟨w.heap.size + 1 + 1, 0, none⟩) l.length l.length] 55)) (.cells #[.int .u64 0, .int .u64 0, .slice none 0 0] 55)
      simpa using this
    have h2 : W.heap[w.heap.size + 2]? = some (.cells (Bs (List.replicate l.length 0)).toArray 5 (0, 0)) := by
      rw [← hW]
      have := heap_alloc_new ((w.alloc (.cells #[.int .u64 (ix : Int), .int .u64 (tm : Int), .slice (some ⟨w.heap.size + 1 + 1, 0, none⟩) l.length l.length] 55)).alloc (.cells #[.int .u64 0, .int .u64 0, .slice none 0 0] 55)) (.cells (Bs (List.replicate l.length 0)).toArray 5)
      simpa using this
    have hr : Rd W (.slice o l.length c) l := H.out.below hb
    rw [hW]
    have HH1 := Lib.hid h1
    have HH2 := Lib.hid h2
    have HH0 := Lib.hid h0
    obtain ⟨-, -, c2, -⟩ := kept3 h0
    clear hW H h0 h1 h2
    have hrun := copy_over (z := List.replicate l.length 0) (by simp) (HH2.out : W.heap[w.heap.size + 1 + 1]? = _) hr (by omega)
    have hg3 : (W.setRow (w.heap.size + 1 + 1) (Bs l).toArray).heap[w.heap.size + 2]? = some (.cells (Bs l).toArray 5 (0, 0)) := setRow_heap W _ _ _ _ _ HH2.out
    have hb2 := below_setRow (Below.refl (w.heap.size + 2) W) (Nat.le_refl _) (Bs l).toArray
    have g0 := (hb2.block w.heap.size (by omega)).trans HH0.out
    have g1 := (hb2.block (w.heap.size + 1) (by omega)).trans HH1.out
    have hb3 := hb.trans (hb2.mono (by omega))
    have hs2 : (W.setRow (w.heap.size + 1 + 1) (Bs l).toArray).heap.size = w.heap.size + 3 := by simp [World.setRow, hs]
    generalize W.setRow (w.heap.size + 1 + 1) (Bs l).toArray = W2 at *
    obtain ⟨x0, x1, x2, -, -, -, l0⟩ := kept3 g0
    obtain ⟨y0, y1, y2, e0, e1, e2, l1⟩ := kept3 g1
    have HG3 := Lib.hid hg3
    have HB3 := Lib.hid hb3
    clear hb2 g0 g1 hg3 hb3 HH0 HH1 HH2 hr
    go_wp2_with fail
    refine bodyPost_ret (v := snV ⟨ix, tm, l⟩ (.slice (some ⟨w.heap.size + 1 + 1, 0, none⟩) l.length l.length)) (by simp [results, Try.results47, go_sem, snV, y0, y1, y2]) rfl ?_
    refine ⟨_, rfl, ?_, ((HB3.out.setCell (p := ⟨w.heap.size + 1, 0, none⟩) (by simp) _).setCell (p := ⟨w.heap.size + 1, 1, none⟩) (by simp) _).setCell (p := ⟨w.heap.size + 1, 2, none⟩) (by simp) _⟩
    have hne : (Value.slice (some (⟨w.heap.size + 1 + 1, 0, none⟩ : Addr)) l.length l.length).ownBlock ≠ some (w.heap.size + 1) := by simp [Value.ownBlock]
    exact ownsRow_setCell_other (ownsRow_setCell_other (ownsRow_setCell_other (own_block_bytes HG3.out (by omega) (by unfold maxLen; omega)) hne _) hne _) hne _
end Go.Proofs.Ytonahfpnlaolpaa
