/- Open, of two empty tracks. -/
import Derived.Test.YtdckcjcddibglaaWaO
namespace Go.Proofs.Ytdckcjcddibglaa
open Go.RowKit OctM

theorem Dt.low {w : World} {X : Nat → Prop} {D T : Nat} {d : Dr} (h : Dt w X D T d) {w' : World} (hb : Below w.heap.size w w') : Dt w' X D T d := h.block (fun g _ hl => hb.block g hl) (fun _ h => h)

set_option maxHeartbeats 8000000 in
set_option maxRecDepth 100000 in
theorem wopen_empty (w : World) {X : Nat → Prop} {D T : Nat} {d : Dr} (h : Dt w X D T d) (hX : ∀ k, X k → k < w.heap.size) (hn : d.n = 3) (hoff : d.off = false) (h1 : (d.tr 1).now = []) (h2 : (d.tr 2).now = []) :
    Calls Try.prog 14 #[.pointer (some ⟨D, 0, none⟩), .int .i64 1] w fun e w' => ∃ B, e = .returned (.tuple #[.pointer (some ⟨B, 0, none⟩), .int .i64 0]) ∧ WlAt w' (Fr X w w') B D T ⟨d, 1, 2, 0, true, ⟨0, -1, 0, []⟩⟩ ∧ Below w.heap.size w w' := by
  have HT := Lib.hid (dt_tracks w h)
  have HR := Lib.hid (dt_read 1 w h)
  have hc1 : chk d 1 = 0 := by unfold chk; rw [if_neg (by omega), if_neg (by rw [hoff]; simp)]
  have hc2 : chk d 2 = 0 := by unfold chk; rw [if_neg (by omega), if_neg (by rw [hoff]; simp)]
  rw [hn] at HT
  have HH := Lib.hid h
  have HX := Lib.hid hX
  have HC2 := Lib.hid hc2
  have HE1 := Lib.hid h1
  have HE2 := Lib.hid h2
  clear h hX hc2 h1 h2
  go_enter Try.func14, Try.ntmps14
  go_wp2_with fail
  refine HT.out.mono ?_
  rintro e w' ⟨rfl, rfl⟩
  go_wp2_with fail
  refine HR.out.mono ?_
  rintro e w1 (⟨h0, -⟩ | ⟨-, v1, rfl, ho1, hb1⟩)
  · exact absurd hc1 h0
  have e1 : (1 : Int).toNat = 1 := rfl
  rw [e1, HE1.out] at ho1
  have HR2 := Lib.hid (dt_read 2 w1 (HH.out.low hb1))
  have HO1 := Lib.hid ho1
  have HB1 := Lib.hid hb1
  have hs1 := hb1.size
  clear ho1 hb1 hc1 e1 HR HT
  go_wp2_with fail
  refine HR2.out.mono ?_
  rintro e w2 (⟨h0, -⟩ | ⟨-, v2, rfl, ho2, hb2⟩)
  · exact absurd HC2.out h0
  have e2 : (2 : Int).toNat = 2 := rfl
  rw [e2, HE2.out] at ho2
  have HB2 := Lib.hid (HB1.out.trans (hb2.mono hs1))
  have H3 := Lib.hid (read_empty v1 w2 ((Rd.of_own HO1.out).below hb2))
  have HO2 := Lib.hid ho2
  have hs2 := hb2.size
  clear ho2 hb2 HR2 e2 HC2
  go_wp2_with fail
  refine H3.out.mono ?_
  rintro e w3 ⟨rfl, hb3⟩
  have H4 := Lib.hid (read_empty v2 w3 ((Rd.of_own HO2.out).below hb3))
  have HB3 := Lib.hid (HB2.out.trans (hb3.mono (by omega)))
  have hs3 := hb3.size
  clear hb3 H3
  go_wp2_with fail
  refine H4.out.mono ?_
  rintro e w4 ⟨rfl, hb4⟩
  have HB4 := Lib.hid (HB3.out.trans (hb4.mono (by omega)))
  have hs4 := hb4.size
  clear hb4 H4
  go_upto_region 12 with fail
  have hb6 : Below w4.heap.size w4 ((w4.alloc (.cells #[.int .u64 0, .int .u64 0, .int .i64 (-1), .int .u64 0, .slice none 0 0, .bool true] 74)).alloc (.cells #[.int .u64 0, .int .u64 0, .int .i64 (-1), .int .u64 0, .slice none 0 0, .bool true] 74)) := ((Below.refl _ _).alloc (Nat.le_refl _) _).alloc (by simp) _
  have hs6 : ((w4.alloc (.cells #[.int .u64 0, .int .u64 0, .int .i64 (-1), .int .u64 0, .slice none 0 0, .bool true] 74)).alloc (.cells #[.int .u64 0, .int .u64 0, .int .i64 (-1), .int .u64 0, .slice none 0 0, .bool true] 74)).heap.size = w4.heap.size + 2 := by simp
  have hm1 : ((w4.alloc (.cells #[.int .u64 0, .int .u64 0, .int .i64 (-1), .int .u64 0, .slice none 0 0, .bool true] 74)).alloc (.cells #[.int .u64 0, .int .u64 0, .int .i64 (-1), .int .u64 0, .slice none 0 0, .bool true] 74)).heap[w4.heap.size]? = some (.cells #[.int .u64 0, .int .u64 0, .int .i64 (-1), .int .u64 0, .slice none 0 0, .bool true] 74 (0, 0)) := by
    rw [Below.heap_alloc _ _ _ (by simp)]; exact heap_alloc_new _ _
  have hm2 : ((w4.alloc (.cells #[.int .u64 0, .int .u64 0, .int .i64 (-1), .int .u64 0, .slice none 0 0, .bool true] 74)).alloc (.cells #[.int .u64 0, .int .u64 0, .int .i64 (-1), .int .u64 0, .slice none 0 0, .bool true] 74)).heap[w4.heap.size + 1]? = some (.cells #[.int .u64 0, .int .u64 0, .int .i64 (-1), .int .u64 0, .slice none 0 0, .bool true] 74 (0, 0)) := by
    have := heap_alloc_new (w4.alloc (.cells #[.int .u64 0, .int .u64 0, .int .i64 (-1), .int .u64 0, .slice none 0 0, .bool true] 74)) (.cells #[.int .u64 0, .int .u64 0, .int .i64 (-1), .int .u64 0, .slice none 0 0, .bool true] 74)
    simpa using this
  generalize ((w4.alloc (.cells #[.int .u64 0, .int .u64 0, .int .i64 (-1), .int .u64 0, .slice none 0 0, .bool true] 74)).alloc (.cells #[.int .u64 0, .int .u64 0, .int .i64 (-1), .int .u64 0, .slice none 0 0, .bool true] 74)) = w6 at *
  have hb7 : Below w6.heap.size w6 (w6.alloc (.cells #[.pointer (some ⟨D, 0, none⟩), .int .i64 1, .int .i64 2, .int .u64 0, .bool false, .int .u64 0, .int .i64 0, .int .u64 0, .slice none 0 0] 53)) := (Below.refl _ _).alloc (Nat.le_refl _) _
  have hn7 := heap_alloc_new w6 (.cells #[.pointer (some ⟨D, 0, none⟩), .int .i64 1, .int .i64 2, .int .u64 0, .bool false, .int .u64 0, .int .i64 0, .int .u64 0, .slice none 0 0] 53)
  have hs7 : (w6.alloc (.cells #[.pointer (some ⟨D, 0, none⟩), .int .i64 1, .int .i64 2, .int .u64 0, .bool false, .int .u64 0, .int .i64 0, .int .u64 0, .slice none 0 0] 53)).heap.size = w6.heap.size + 1 := by simp
  go_upto_region 13 with fail
  generalize (w6.alloc (.cells #[.pointer (some ⟨D, 0, none⟩), .int .i64 1, .int .i64 2, .int .u64 0, .bool false, .int .u64 0, .int .i64 0, .int .u64 0, .slice none 0 0] 53)) = w7 at *
  have hm1 := (hb7.block w4.heap.size (by omega)).trans hm1
  have hm2 := (hb7.block (w4.heap.size + 1) (by omega)).trans hm2
  have HB7 := Lib.hid ((HB4.out.trans (hb6.mono (by omega))).trans (hb7.mono (by omega)))
  have x0 := cellk (i := 0) hm1 rfl
  have x1 := cellk (i := 1) hm1 rfl
  have x2 := cellk (i := 2) hm1 rfl
  have x3 := cellk (i := 3) hm1 rfl
  have x4 := cellk (i := 4) hm1 rfl
  have x5 := cellk (i := 5) hm1 rfl
  have y0 := cellk (i := 0) hm2 rfl
  rw [hs6] at hn7
  have HN7 := Lib.hid hn7
  clear hb6 hb7 hm1 hm2 hn7
  generalize hB : w4.heap.size + 2 = B at *
  go_wp2_with fail
  have z3 := cellk (i := 3) HN7.out rfl
  have z4 := cellk (i := 4) HN7.out rfl
  have z5 := cellk (i := 5) HN7.out rfl
  have z6 := cellk (i := 6) HN7.out rfl
  have z7 := cellk (i := 7) HN7.out rfl
  have z8 := cellk (i := 8) HN7.out rfl
  have f3 := free_of HN7.out 3
  have f4 := free_of HN7.out 4
  have f5 := free_of HN7.out 5
  have f6 := free_of HN7.out 6
  have f7 := free_of HN7.out 7
  have f8 := free_of HN7.out 8
  go_region
  have hc8 : (((((((w7.setCell ⟨B, 3, none⟩ (.int .u64 0)).setCell ⟨B, 4, none⟩ (.bool true)).setCell ⟨B, 5, none⟩ (.int .u64 0)).setCell ⟨B, 6, none⟩ (.int .i64 (-1))).setCell ⟨B, 7, none⟩ (.int .u64 0)).setCell ⟨B, 8, none⟩ (.slice none 0 0)).drew).heap[B]? = some (.cells #[.pointer (some ⟨D, 0, none⟩), .int .i64 1, .int .i64 2, .int .u64 0, .bool true, .int .u64 0, .int .i64 (-1), .int .u64 0, .slice none 0 0] 53 (0, 0)) := by
    have := HN7.out
    simp [World.setCell, World.drew, Array.getElem?_modify, this]
  have hge : w.heap.size ≤ B := by omega
  have hb8 : Below w.heap.size w (((((((w7.setCell ⟨B, 3, none⟩ (.int .u64 0)).setCell ⟨B, 4, none⟩ (.bool true)).setCell ⟨B, 5, none⟩ (.int .u64 0)).setCell ⟨B, 6, none⟩ (.int .i64 (-1))).setCell ⟨B, 7, none⟩ (.int .u64 0)).setCell ⟨B, 8, none⟩ (.slice none 0 0)).drew) :=
    ((((((HB7.out.setCell (p := ⟨B, 3, none⟩) hge _).setCell (p := ⟨B, 4, none⟩) hge _).setCell (p := ⟨B, 5, none⟩) hge _).setCell (p := ⟨B, 6, none⟩) hge _).setCell (p := ⟨B, 7, none⟩) hge _).setCell (p := ⟨B, 8, none⟩) hge _).drew
  have hs8 : (((((((w7.setCell ⟨B, 3, none⟩ (.int .u64 0)).setCell ⟨B, 4, none⟩ (.bool true)).setCell ⟨B, 5, none⟩ (.int .u64 0)).setCell ⟨B, 6, none⟩ (.int .i64 (-1))).setCell ⟨B, 7, none⟩ (.int .u64 0)).setCell ⟨B, 8, none⟩ (.slice none 0 0)).drew).heap.size = w7.heap.size := by simp [World.setCell, World.drew]
  generalize (((((((w7.setCell ⟨B, 3, none⟩ (.int .u64 0)).setCell ⟨B, 4, none⟩ (.bool true)).setCell ⟨B, 5, none⟩ (.int .u64 0)).setCell ⟨B, 6, none⟩ (.int .i64 (-1))).setCell ⟨B, 7, none⟩ (.int .u64 0)).setCell ⟨B, 8, none⟩ (.slice none 0 0)).drew) = w8 at *
  have HC8 := Lib.hid hc8
  have HB8 := Lib.hid hb8
  clear hc8 hb8 z3 z4 z5 z6 z7 z8 f3 f4 f5 f6 f7 f8 x0 x1 x2 x3 x4 x5 y0
  go_wp2_with fail
  go_ret2
  refine ⟨B, rfl, ⟨X, fun _ => False, .slice none 0 0, ⟨HH.out.low HB8.out, HC8.out, .inl ⟨rfl, rfl⟩, fun k hk => .inl hk, fun k hk => hk.elim, .inr ⟨hge, by have := lt_of_block HC8.out; omega⟩, fun hk => by have := HX.out _ hk; omega, fun k hk => ?_, ⟨by show 0 < _; omega, by show -1 ≤ (-1 : Int); omega, by show (-1 : Int) < 7; omega, by show 0 < _; omega, fun _ h => (List.not_mem_nil h).elim, by simp⟩, ⟨by show 1 ≤ 1000; omega, by show 2 ≤ 1000; omega, by show 0 ≤ _; omega⟩⟩⟩, HB8.out⟩
  rcases hk with hk | hk
  · have := HX.out k hk; omega
  · exact hk.2
end Go.Proofs.Ytdckcjcddibglaa
