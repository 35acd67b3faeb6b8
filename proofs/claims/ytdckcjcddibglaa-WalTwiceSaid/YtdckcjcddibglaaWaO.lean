/- An empty track, read. -/
import Derived.Test.YtdckcjcddibglaaWaN
namespace Go.Proofs.Ytdckcjcddibglaa
open Go.RowKit OctM

set_option maxHeartbeats 4000000 in
set_option maxRecDepth 100000 in
theorem read_empty (v : Value) (w : World) (h : Rd w v []) :
    Calls Try.prog 30 #[v] w fun e w' => e = .returned (.agg #[.int .u64 0, .int .u64 0, .int .i64 (-1), .int .u64 0, .slice none 0 0, .bool true]) ∧ Below w.heap.size w w' := by
  have hb0 : Below w.heap.size w (w.alloc (.cells #[.int .u64 0, .int .u64 0, .int .i64 0, .int .u64 0, .slice none 0 0, .bool false] 74)) := (Below.refl _ _).alloc (Nat.le_refl _) _
  have hn0 := heap_alloc_new w (.cells #[.int .u64 0, .int .u64 0, .int .i64 0, .int .u64 0, .slice none 0 0, .bool false] 74)
  have hs0 : (w.alloc (.cells #[.int .u64 0, .int .u64 0, .int .i64 0, .int .u64 0, .slice none 0 0, .bool false] 74)).heap.size = w.heap.size + 1 := by simp
  go_enter Try.func30, Try.ntmps30
  go_upto_region 1 with fail
  generalize (w.alloc (.cells #[.int .u64 0, .int .u64 0, .int .i64 0, .int .u64 0, .slice none 0 0, .bool false] 74)) = w1 at *
  have H1 := Lib.hid (newReader v [] w1 (h.below hb0) (by simp))
  have HB1 := Lib.hid hb0
  have HN1 := Lib.hid hn0
  clear h hb0 hn0
  go_wp2_with fail
  refine H1.out.mono ?_
  rintro e w2 ⟨b, rfl, hr, hb2, hbge⟩
  have H2 := Lib.hid (readFrame_any b (some []) w2 hr (by rw [bytesS_empty]; simp))
  have hz2 := hb2.size
  have HB2 := Lib.hid (HB1.out.trans (hb2.mono (by omega)))
  have HN2 := Lib.hid ((hb2.block w.heap.size (by omega)).trans HN1.out)
  clear hr hb2 H1 HB1 HN1
  go_wp2_with fail
  refine H2.out.mono ?_
  rintro e w3 ⟨b', rfl, hr3, -, hk3, hge3⟩
  rw [bytesS_empty] at hr3
  have hr3' : RS w3 (some ⟨b', 0, none⟩) (some []) := hr3
  have hz3 := hk3.size
  have hnot : ∀ c k, k < c → ¬ own1 (some ⟨c, 0, none⟩) k := by
    rintro c k hk ⟨a, ha, hb⟩
    injection ha with ha
    subst ha
    simp at hb
    omega
  have HB3 := Lib.hid (HB2.out.trans (hk3.below (n := w.heap.size) (by omega) (fun k hk => by
    obtain ⟨a, ha, hb⟩ := hk
    injection ha with ha
    subst ha
    simp at hb
    omega)))
  have HN3 := Lib.hid ((hk3.block w.heap.size (by omega) (hnot b _ (by omega))).trans HN2.out)
  have H3 := Lib.hid (readWhole_bad b' w3 (some []) uintS_empty hr3')
  have HNOT := Lib.hid hnot
  clear hr3 hr3' hk3 hnot H2 HB2 HN2
  go_wp2_with fail
  refine H3.out.mono ?_
  rintro e w4 ⟨rfl, hk4⟩
  have hz4 := hk4.size
  have hb4 := HB3.out.trans (hk4.below (n := w.heap.size) (by omega) (fun k hk => by
    obtain ⟨a, ha, hb⟩ := hk
    injection ha with ha
    subst ha
    simp at hb
    omega))
  have hn4 := (hk4.block w.heap.size (by omega) (HNOT.out b' _ (by omega))).trans HN3.out
  have hb5 : Below w4.heap.size w4 (w4.alloc (.cells #[.int .u64 0, .int .u64 0, .int .i64 0, .int .u64 0, .slice none 0 0, .bool false] 74)) := (Below.refl _ _).alloc (Nat.le_refl _) _
  have HB5 := Lib.hid (hb4.trans (hb5.mono (by omega)))
  have hn5 := (hb5.block w.heap.size (by omega)).trans hn4
  have HN5 := Lib.hid hn5
  clear hk4 hb4 hn4 hb5 hn5 H3 HB3 HN3
  go_upto_region 3 with fail
  generalize (w4.alloc (.cells #[.int .u64 0, .int .u64 0, .int .i64 0, .int .u64 0, .slice none 0 0, .bool false] 74)) = w5 at *
  have y0 := cellk (i := 0) HN5.out rfl
  have y1 := cellk (i := 1) HN5.out rfl
  have y2 := cellk (i := 2) HN5.out rfl
  have y3 := cellk (i := 3) HN5.out rfl
  have y4 := cellk (i := 4) HN5.out rfl
  have y5 := cellk (i := 5) HN5.out rfl
  have g0 := free_of HN5.out 0
  have g1 := free_of HN5.out 1
  have g2 := free_of HN5.out 2
  have g3 := free_of HN5.out 3
  have g4 := free_of HN5.out 4
  have g5 := free_of HN5.out 5
  go_wp2_with fail
  refine bodyPost_ret (v := .agg #[.int .u64 0, .int .u64 0, .int .i64 (-1), .int .u64 0, .slice none 0 0, .bool true]) (by simp [results, Try.results30, go_sem, y0, y1, y2, y3, y4, y5]) rfl ?_
  exact ⟨rfl, (((((HB5.out.setCell (p := ⟨w.heap.size, 0, none⟩) (Nat.le_refl _) _).setCell (p := ⟨w.heap.size, 1, none⟩) (Nat.le_refl _) _).setCell (p := ⟨w.heap.size, 2, none⟩) (Nat.le_refl _) _).setCell (p := ⟨w.heap.size, 3, none⟩) (Nat.le_refl _) _).setCell (p := ⟨w.heap.size, 4, none⟩) (Nat.le_refl _) _).setCell (p := ⟨w.heap.size, 5, none⟩) (Nat.le_refl _) _⟩
end Go.Proofs.Ytdckcjcddibglaa
