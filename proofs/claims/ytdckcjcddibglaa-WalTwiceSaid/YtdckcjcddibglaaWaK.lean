/- State, and the law's state. -/
import Derived.Test.YtdckcjcddibglaaWaJ
namespace Go.Proofs.Ytdckcjcddibglaa
open Go.RowKit OctM

set_option maxHeartbeats 4000000 in
set_option maxRecDepth 100000 in
theorem state_any (w : World) {R : Nat → Prop} {B D T : Nat} {s : Wl} (h : WlAt w R B D T s) : Calls Try.prog 8 #[.pointer (some ⟨B, 0, none⟩)] w (StP w s.st) := by
  obtain ⟨X, L, v, h⟩ := h
  obtain ⟨o, c, rfl⟩ := h.log.rd.form
  have c5 := cellk (i := 5) h.cell rfl
  have c6 := cellk (i := 6) h.cell rfl
  have c7 := cellk (i := 7) h.cell rfl
  have c8 := cellk (i := 8) h.cell rfl
  have hB := lt_of_block h.cell
  obtain ⟨d, now, sp, turn, shut, tm, vt, bs, lg⟩ := s
  have HOK := Lib.hid h.ok
  have HLG := Lib.hid h.log.rd
  dsimp only at *
  clear h
  have hb0 : Below w.heap.size w (w.alloc (.cells #[.int .u64 0, .int .i64 0, .int .u64 0, .slice none 0 0] 36)) := (Below.refl _ _).alloc (Nat.le_refl _) _
  have hn0 := heap_alloc_new w (.cells #[.int .u64 0, .int .i64 0, .int .u64 0, .slice none 0 0] 36)
  have hs0 : (w.alloc (.cells #[.int .u64 0, .int .i64 0, .int .u64 0, .slice none 0 0] 36)).heap.size = w.heap.size + 1 := by simp
  go_enter Try.func8, Try.ntmps8
  go_upto_region 1 with fail
  generalize (w.alloc (.cells #[.int .u64 0, .int .i64 0, .int .u64 0, .slice none 0 0] 36)) = w1 at *
  have c5 := (hb0.cell (p := ⟨B, 5, none⟩) hB).trans c5
  have c6 := (hb0.cell (p := ⟨B, 6, none⟩) hB).trans c6
  have c7 := (hb0.cell (p := ⟨B, 7, none⟩) hB).trans c7
  have c8 := (hb0.cell (p := ⟨B, 8, none⟩) hB).trans c8
  have hb1 : Below w1.heap.size w1 (w1.alloc (.cells #[.int .u64 (tm : Int), .int .i64 vt, .int .u64 (bs : Int), .slice o lg.length c] 36)) := (Below.refl _ _).alloc (Nat.le_refl _) _
  have hn1 := heap_alloc_new w1 (.cells #[.int .u64 (tm : Int), .int .i64 vt, .int .u64 (bs : Int), .slice o lg.length c] 36)
  have hs1 : (w1.alloc (.cells #[.int .u64 (tm : Int), .int .i64 vt, .int .u64 (bs : Int), .slice o lg.length c] 36)).heap.size = w1.heap.size + 1 := by simp
  go_upto_region 4 with fail
  generalize (w1.alloc (.cells #[.int .u64 (tm : Int), .int .i64 vt, .int .u64 (bs : Int), .slice o lg.length c] 36)) = w2 at *
  have hb2 := hb0.trans (hb1.mono (by omega))
  have HC := Lib.hid (copies_any lg (.slice o lg.length c) w2 (HLG.out.below hb2) HOK.out.lg HOK.out.len)
  have HB2 := Lib.hid hb2
  have HN0 := Lib.hid ((hb1.block w.heap.size (by omega)).trans hn0)
  have HN1 := Lib.hid hn1
  rw [hs0] at HN1
  have hs2 : w2.heap.size = w.heap.size + 2 := by omega
  have x3 := cellk (i := 3) HN1.out rfl
  clear hb0 hb1 hb2 hn0 hn1 c5 c6 c7 c8
  go_wp2_with fail
  refine HC.out.mono ?_
  rintro e w3 hp
  obtain ⟨v3, ps, rfl, hps, ho3, hb3⟩ := hp
  obtain ⟨o3, c3, rfl⟩ := ho3.form
  have n0 := (hb3.block w.heap.size (by omega)).trans HN0.out
  have n1 := (hb3.block (w.heap.size + 1) (by omega)).trans HN1.out
  have x0 := cellk (i := 0) n1 rfl
  have x1 := cellk (i := 1) n1 rfl
  have x2 := cellk (i := 2) n1 rfl
  have x3 := cellk (i := 3) n1 rfl
  have f3 := free_of n1 3
  have y0 := cellk (i := 0) n0 rfl
  have y1 := cellk (i := 1) n0 rfl
  have y2 := cellk (i := 2) n0 rfl
  have y3 := cellk (i := 3) n0 rfl
  have g0 := free_of n0 0
  have g1 := free_of n0 1
  have g2 := free_of n0 2
  have g3 := free_of n0 3
  have HO3 := Lib.hid ho3
  have HB3 := Lib.hid (HB2.out.trans (hb3.mono (by omega)))
  have HPS := Lib.hid hps
  clear hps ho3 hb3 n0 n1 HC
  go_wp2_with fail
  refine bodyPost_ret (v := wstV ⟨tm, vt, bs, lg⟩ (.slice o3 ps.length c3)) (by simp [results, Try.results8, go_sem, y0, y1, y2, y3, wstV]) rfl ?_
  refine ⟨_, ps, rfl, HPS.out, (((((HO3.out.beside (by omega) 3 _).beside (by omega) 0 _).beside (by omega) 1 _).beside (by omega) 2 _).beside (by omega) 3 _).base (by omega), ?_⟩
  exact ((((HB3.out.setCell (p := ⟨w.heap.size + 1, 3, none⟩) (by show w.heap.size ≤ w.heap.size + 1; omega) _).setCell (p := ⟨w.heap.size, 0, none⟩) (Nat.le_refl _) _).setCell (p := ⟨w.heap.size, 1, none⟩) (Nat.le_refl _) _).setCell (p := ⟨w.heap.size, 2, none⟩) (Nat.le_refl _) _).setCell (p := ⟨w.heap.size, 3, none⟩) (Nat.le_refl _) _

set_option maxHeartbeats 4000000 in
set_option maxRecDepth 100000 in
theorem lstate_any (w : World) {R : Nat → Prop} {B D T : Nat} {s : Wl} (h : WlAt w R B D T s) : Calls Try.prog 10 #[.pointer (some ⟨B, 0, none⟩)] w (StP w s.st) := by
  have hb0 : Below w.heap.size w (w.alloc (.cells #[.int .u64 0, .int .i64 0, .int .u64 0, .slice none 0 0] 31)) := (Below.refl _ _).alloc (Nat.le_refl _) _
  have hn0 := heap_alloc_new w (.cells #[.int .u64 0, .int .i64 0, .int .u64 0, .slice none 0 0] 31)
  have hs0 : (w.alloc (.cells #[.int .u64 0, .int .i64 0, .int .u64 0, .slice none 0 0] 31)).heap.size = w.heap.size + 1 := by simp
  have HC := Lib.hid (state_any _ (h.below hb0))
  clear h
  go_enter Try.func10, Try.ntmps10
  go_upto_region 1 with fail
  generalize (w.alloc (.cells #[.int .u64 0, .int .i64 0, .int .u64 0, .slice none 0 0] 31)) = w1 at *
  obtain ⟨d, now, sp, turn, shut, tm, vt, bs, lg⟩ := s
  dsimp only at HC
  go_wp2_with fail
  refine HC.out.mono ?_
  rintro e w3 hp
  obtain ⟨v3, ps, rfl, hps, ho3, hb3⟩ := hp
  obtain ⟨o3, c3, rfl⟩ := ho3.form
  have hz3 := hb3.size
  have hb4 : Below w3.heap.size w3 (w3.alloc (.cells #[.int .u64 (tm : Int), .int .i64 vt, .int .u64 (bs : Int), .slice o3 ps.length c3] 36)) := (Below.refl _ _).alloc (Nat.le_refl _) _
  have hn4 := heap_alloc_new w3 (.cells #[.int .u64 (tm : Int), .int .i64 vt, .int .u64 (bs : Int), .slice o3 ps.length c3] 36)
  have n0 := ((hb4.block w.heap.size (by omega)).trans (hb3.block w.heap.size (by omega))).trans hn0
  have HO3 := Lib.hid (ho3.below hb4 (Nat.le_refl _))
  have HB3 := Lib.hid ((hb0.trans (hb3.mono (by omega))).trans (hb4.mono (by omega)))
  have HPS := Lib.hid hps
  clear hps ho3 hb3 hb4 hb0 hn0 HC
  unfold wstV
  dsimp only
  go_upto_region 2 with fail
  generalize (w3.alloc (.cells #[.int .u64 (tm : Int), .int .i64 vt, .int .u64 (bs : Int), .slice o3 ps.length c3] 36)) = w4 at *
  have x0 := cellk (i := 0) hn4 rfl
  have x1 := cellk (i := 1) hn4 rfl
  have x2 := cellk (i := 2) hn4 rfl
  have x3 := cellk (i := 3) hn4 rfl
  have y0 := cellk (i := 0) n0 rfl
  have y1 := cellk (i := 1) n0 rfl
  have y2 := cellk (i := 2) n0 rfl
  have y3 := cellk (i := 3) n0 rfl
  have g0 := free_of n0 0
  have g1 := free_of n0 1
  have g2 := free_of n0 2
  have g3 := free_of n0 3
  clear n0 hn4
  go_wp2_with fail
  refine bodyPost_ret (v := wstV ⟨tm, vt, bs, lg⟩ (.slice o3 ps.length c3)) (by simp [results, Try.results10, go_sem, y0, y1, y2, y3, wstV]) rfl ?_
  refine ⟨_, ps, rfl, HPS.out, ((((HO3.out.beside (by omega) 0 _).beside (by omega) 1 _).beside (by omega) 2 _).beside (by omega) 3 _).base (by omega), ?_⟩
  exact (((HB3.out.setCell (p := ⟨w.heap.size, 0, none⟩) (Nat.le_refl _) _).setCell (p := ⟨w.heap.size, 1, none⟩) (Nat.le_refl _) _).setCell (p := ⟨w.heap.size, 2, none⟩) (Nat.le_refl _) _).setCell (p := ⟨w.heap.size, 3, none⟩) (Nat.le_refl _) _
end Go.Proofs.Ytdckcjcddibglaa
