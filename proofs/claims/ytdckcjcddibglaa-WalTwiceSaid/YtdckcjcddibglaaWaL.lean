/- rewrite, where the drum does what it is asked. -/
import Derived.Test.YtdckcjcddibglaaWaK
import Derived.Test.YtdckcjcddibglaaStoF
namespace Go.Proofs.Ytdckcjcddibglaa
open Go.RowKit OctM

theorem nine_set {W : World} {b : Nat} {x0 x1 x2 x3 x4 x5 x6 x7 x8 : Value} {t : TypeId} (h : W.heap[b]? = some (.cells #[x0, x1, x2, x3, x4, x5, x6, x7, x8] t (0, 0))) (u v : Value) :
    ((W.setCell ⟨b, 1, none⟩ u).setCell ⟨b, 2, none⟩ v).heap[b]? = some (.cells #[x0, u, v, x3, x4, x5, x6, x7, x8] t (0, 0)) := by
  simp [World.setCell, Array.getElem?_modify, h]

set_option maxHeartbeats 8000000 in
set_option maxRecDepth 100000 in
theorem rewrite_ok (n : Wst) (v' : Value) (w : World) {R X L L2 : Nat → Prop} {v : Value} {B D T : Nat} {s : Wl} {d1 d2 : Dr} (h : WlX w R X L v B D T s) (hl : LogIn L2 w v' n.lg) (hL2 : ∀ k, L2 k → R k ∧ ¬ X k ∧ k ≠ B) (hok : n.Ok) (ht : s.turn < 1000000)
    (e1 : writeS s.d s.sp (wholeB (s.turn + 1) n) = (0, d1)) (e2 : syncS d1 s.sp = (0, d2)) (hops : s.d.ops ≤ 900000) (hops1 : d1.ops ≤ 900000) :
    Calls Try.prog 22 #[.pointer (some ⟨B, 0, none⟩), wstV n v'] w fun e w' => e = .returned (.int .i64 0) ∧ WlAt w' (Fr R w w') B D T ⟨d2, s.sp, s.now, s.turn + 1, false, n⟩ ∧ Kept R w w' := by
  obtain ⟨o, c, rfl⟩ := hl.rd.form
  obtain ⟨tm, vt, bs, lg⟩ := n
  dsimp only at hl
  have HB := lt_of_block h.cell
  have hlim := h.lim
  have HH := Lib.hid h
  have HLL := Lib.hid hl
  have HL2 := Lib.hid hL2
  have HOK := Lib.hid hok
  have HE1 := Lib.hid e1
  have HE2 := Lib.hid e2
  have wt : IntKind.u64.wrap ((s.turn : Int) + 1) = ((s.turn + 1 : Nat) : Int) := by rw [IntKind.wrap_u64]; omega
  have hb0 : Below w.heap.size w (w.alloc (.cells #[.int .u64 (tm : Int), .int .i64 vt, .int .u64 (bs : Int), .slice o lg.length c] 36)) := (Below.refl _ _).alloc (Nat.le_refl _) _
  have hn0 := heap_alloc_new w (.cells #[.int .u64 (tm : Int), .int .i64 vt, .int .u64 (bs : Int), .slice o lg.length c] 36)
  have hs0 : (w.alloc (.cells #[.int .u64 (tm : Int), .int .i64 vt, .int .u64 (bs : Int), .slice o lg.length c] 36)).heap.size = w.heap.size + 1 := by simp
  have hc0 := (hb0.block B HB).trans h.cell
  clear h hl hL2 hok e1 e2
  unfold wstV
  dsimp only
  go_enter Try.func22, Try.ntmps22
  go_upto_region 1 with fail
  generalize (w.alloc (.cells #[.int .u64 (tm : Int), .int .i64 vt, .int .u64 (bs : Int), .slice o lg.length c] 36)) = W at *
  have x0 := cellk (i := 0) hc0 rfl
  have x2 := cellk (i := 2) hc0 rfl
  have x3 := cellk (i := 3) hc0 rfl
  have z0 := cellk (i := 0) hn0 rfl
  have z1 := cellk (i := 1) hn0 rfl
  have z2 := cellk (i := 2) hn0 rfl
  have z3 := cellk (i := 3) hn0 rfl
  have HW1 := Lib.hid (whole_any (s.turn + 1) ⟨tm, vt, bs, lg⟩ (.slice o lg.length c) W.drew (HLL.out.rd.below hb0.drew) HOK.out (by omega))
  unfold wstV at HW1
  dsimp only at HW1
  have HB0 := Lib.hid hb0
  have HC0 := Lib.hid (show W.drew.heap[B]? = _ from hc0)
  have HN0 := Lib.hid (show W.drew.heap[w.heap.size]? = _ from hn0)
  clear hb0 hc0 hn0
  refine wp_region_held_drew (S := fun w' => w'.cell? ⟨B, 0, none⟩ = some (.pointer (some ⟨D, 0, none⟩)) ∧ w'.cell? ⟨B, 2, none⟩ = some (.int .i64 (s.sp : Int)) ∧ w'.cell? ⟨B, 3, none⟩ = some (.int .u64 (s.turn : Int)) ∧
    w'.cell? ⟨w.heap.size, 0, none⟩ = some (.int .u64 (tm : Int)) ∧ w'.cell? ⟨w.heap.size, 1, none⟩ = some (.int .i64 vt) ∧ w'.cell? ⟨w.heap.size, 2, none⟩ = some (.int .u64 (bs : Int)) ∧ w'.cell? ⟨w.heap.size, 3, none⟩ = some (.slice o lg.length c)) (by kernel_rfl) ⟨x0, x2, x3, z0, z1, z2, z3⟩ ?_
  intro hHeld
  refine wpAnyH_take (i := 0) (v := ?_) (by simp only [List.getElem?_toArray, List.getElem?_cons_zero]; rfl) (by kernel_rfl) (by kernel_rfl) (by kernel_rfl) (by intro _ _ _ h; exact h) (Or.inl ⟨by rfl, ?_⟩) (by assumption) ?_
  rotate_left
  · (intro w hSw; (try dsimp only at hSw); go_simp; try with_reducible rfl)
  try simp only [Act.put, List.setIfInBounds_toArray, List.set_cons_zero, List.set_cons_succ]
  refine wpAnyH_take (i := 1) (v := ?_) (by simp only [List.getElem?_toArray, List.getElem?_cons_succ, List.getElem?_cons_zero]; rfl) (by kernel_rfl) (by kernel_rfl) (by kernel_rfl) (by intro _ _ _ h; exact h) (Or.inl ⟨by rfl, ?_⟩) (by assumption) ?_
  rotate_left
  · (intro w hSw; (try dsimp only at hSw); go_simp; try with_reducible rfl)
  try simp only [Act.put, List.setIfInBounds_toArray, List.set_cons_zero, List.set_cons_succ]
  refine wpAnyH_take (i := 2) (v := ?_) (by simp only [List.getElem?_toArray, List.getElem?_cons_succ, List.getElem?_cons_zero]; rfl) (by kernel_rfl) (by kernel_rfl) (by kernel_rfl) (by intro _ _ _ h; exact h) (Or.inl ⟨by rfl, ?_⟩) (by assumption) ?_
  rotate_left
  · (intro w hSw; (try dsimp only at hSw); go_simp; try with_reducible rfl)
  try simp only [Act.put, List.setIfInBounds_toArray, List.set_cons_zero, List.set_cons_succ]
  refine wpAnyH_take (i := 3) (v := ?_) (by simp only [List.getElem?_toArray, List.getElem?_cons_succ, List.getElem?_cons_zero]; rfl) (by kernel_rfl) (by kernel_rfl) (by kernel_rfl) (by intro _ _ _ h; exact h) (Or.inl ⟨by rfl, ?_⟩) (by assumption) ?_
  rotate_left
  · (intro w hSw; (try dsimp only at hSw); go_simp; try with_reducible rfl)
  try simp only [Act.put, List.setIfInBounds_toArray, List.set_cons_zero, List.set_cons_succ]
  refine wpAnyH_take (i := 4) (v := ?_) (by simp only [List.getElem?_toArray, List.getElem?_cons_succ, List.getElem?_cons_zero]; rfl) (by kernel_rfl) (by kernel_rfl) (by kernel_rfl) (by intro _ _ _ h; exact h) (Or.inl ⟨by rfl, ?_⟩) (by assumption) ?_
  rotate_left
  · (intro w hSw; (try dsimp only at hSw); go_simp; try with_reducible rfl)
  try simp only [Act.put, List.setIfInBounds_toArray, List.set_cons_zero, List.set_cons_succ]
  refine wpAnyH_take (i := 5) (v := ?_) (by simp only [List.getElem?_toArray, List.getElem?_cons_succ, List.getElem?_cons_zero]; rfl) (by kernel_rfl) (by kernel_rfl) (by kernel_rfl) (by intro _ _ _ h; exact h) (Or.inl ⟨by rfl, ?_⟩) (by assumption) ?_
  rotate_left
  · (intro w hSw; (try dsimp only at hSw); go_simp; try with_reducible rfl)
  try simp only [Act.put, List.setIfInBounds_toArray, List.set_cons_zero, List.set_cons_succ]
  refine wpAnyH_take (i := 6) (v := ?_) (by simp only [List.getElem?_toArray, List.getElem?_cons_succ, List.getElem?_cons_zero]; rfl) (by kernel_rfl) (by kernel_rfl) (by kernel_rfl) (by intro _ _ _ h; exact h) (Or.inl ⟨by rfl, ?_⟩) (by assumption) ?_
  rotate_left
  · (intro w hSw; (try dsimp only at hSw); go_simp; try with_reducible rfl)
  try simp only [Act.put, List.setIfInBounds_toArray, List.set_cons_zero, List.set_cons_succ]
  refine wpAnyH_take (i := 7) (v := ?_) (by simp only [List.getElem?_toArray, List.getElem?_cons_succ, List.getElem?_cons_zero]; rfl) (by kernel_rfl) (by kernel_rfl) (by kernel_rfl) (by intro _ _ _ h; exact h) (Or.inl ⟨by rfl, ?_⟩) (by assumption) ?_
  rotate_left
  · (intro w hSw; (try dsimp only at hSw); go_simp; try with_reducible rfl)
  try simp only [Act.put, List.setIfInBounds_toArray, List.set_cons_zero, List.set_cons_succ]
  refine wpAnyH_take (i := 8) (v := ?_) (by simp only [List.getElem?_toArray, List.getElem?_cons_succ, List.getElem?_cons_zero]; rfl) (by kernel_rfl) (by kernel_rfl) (by kernel_rfl) (by intro _ _ _ h; exact h) (Or.inl ⟨by rfl, ?_⟩) (by assumption) ?_
  rotate_left
  · (intro w hSw; (try dsimp only at hSw); go_simp; try with_reducible rfl)
  try simp only [Act.put, List.setIfInBounds_toArray, List.set_cons_zero, List.set_cons_succ]
  refine wpAnyH_take (i := 9) (v := ?_) (by simp only [List.getElem?_toArray, List.getElem?_cons_succ, List.getElem?_cons_zero]; rfl) (by kernel_rfl) (by kernel_rfl) (by kernel_rfl) (by intro _ _ _ h; exact h) (Or.inl ⟨by rfl, ?_⟩) (by assumption) ?_
  rotate_left
  · (intro w hSw; (try dsimp only at hSw); go_simp; try with_reducible rfl)
  try simp only [Act.put, List.setIfInBounds_toArray, List.set_cons_zero, List.set_cons_succ]
  refine wpAnyH_take (i := 10) (v := ?_) (by simp only [List.getElem?_toArray, List.getElem?_cons_succ, List.getElem?_cons_zero]; rfl) (by kernel_rfl) (by kernel_rfl) (by kernel_rfl) (by intro _ _ _ h; exact h) (Or.inl ⟨by rfl, ?_⟩) (by assumption) ?_
  rotate_left
  · (intro w hSw; (try dsimp only at hSw); go_simp; try with_reducible rfl)
  try simp only [Act.put, List.setIfInBounds_toArray, List.set_cons_zero, List.set_cons_succ]
  refine wpAnyH_take (i := 11) (v := ?_) (by simp only [List.getElem?_toArray, List.getElem?_cons_succ, List.getElem?_cons_zero]; rfl) (by kernel_rfl) (by kernel_rfl) (by kernel_rfl) (by intro _ _ _ h; exact h) (Or.inl ⟨by rfl, ?_⟩) (by assumption) ?_
  rotate_left
  · (intro w hSw; (try dsimp only at hSw); go_simp; try with_reducible rfl)
  try simp only [Act.put, List.setIfInBounds_toArray, List.set_cons_zero, List.set_cons_succ]
  refine wpAnyH_take (i := 12) (v := ?_) (by simp only [List.getElem?_toArray, List.getElem?_cons_succ, List.getElem?_cons_zero]; rfl) (by kernel_rfl) (by kernel_rfl) (by kernel_rfl) (by intro _ _ _ h; exact h) (Or.inl ⟨by rfl, ?_⟩) (by assumption) ?_
  rotate_left
  · (intro w hSw; (try dsimp only at hSw); go_simp; try with_reducible rfl)
  try simp only [Act.put, List.setIfInBounds_toArray, List.set_cons_zero, List.set_cons_succ]
  refine wpAnyH_take (i := 13) (v := ?_) (by simp only [List.getElem?_toArray, List.getElem?_cons_succ, List.getElem?_cons_zero]; rfl) (by kernel_rfl) (by kernel_rfl) (by kernel_rfl) (by intro _ _ _ h; exact h) (Or.inl ⟨by rfl, ?_⟩) (by assumption) ?_
  rotate_left
  · (intro w hSw; (try dsimp only at hSw); go_simp; try with_reducible rfl)
  try simp only [Act.put, List.setIfInBounds_toArray, List.set_cons_zero, List.set_cons_succ]
  refine wpAnyH_ready (rs := [14]) (by kernel_rfl) (by simp) ?_
  refine AllReadyH.cons (by simp only [List.getElem?_toArray, List.getElem?_cons_succ, List.getElem?_cons_zero]; rfl) (fun K hK => ?_) AllReadyH.nil
  go_simp
  refine HW1.out.mono ?_
  rintro e w2 ⟨p, rfl, ho2, hb2⟩
  have hsd : W.drew.heap.size = w.heap.size + 1 := hs0
  have hc2 := (hb2.block B (by omega)).trans HC0.out
  have hn2 := (hb2.block w.heap.size (by omega)).trans HN0.out
  have q20 := cellk (i := 0) hc2 rfl
  have q22 := cellk (i := 2) hc2 rfl
  have q23 := cellk (i := 3) hc2 rfl
  have r20 := cellk (i := 0) hn2 rfl
  have r21 := cellk (i := 1) hn2 rfl
  have r22 := cellk (i := 2) hn2 rfl
  have r23 := cellk (i := 3) hn2 rfl
  have HB2 := Lib.hid (HB0.out.drew.trans (hb2.mono (by omega)))
  have HC2 := Lib.hid hc2
  have HN2 := Lib.hid hn2
  have hs2 := hb2.size
  have HWR := Lib.hid (dt_write s.sp p (wholeB (s.turn + 1) ⟨tm, vt, bs, lg⟩) w2 (HH.out.dt.block (X' := X) (fun g hg _ => HB2.out.block g (HH.out.lt g (HH.out.sX g hg))) (fun _ h => h)) (Rd.of_own ho2) (Nat.le_trans (wholeB_le _ _ HOK.out) (by omega)) (by omega))
  clear hc2 hn2 ho2 hb2
  dsimp only
  refine hK.out _ _ ⟨q20, q22, q23, r20, r21, r22, r23⟩ (fun hHeld => ?_)
  clear hK K
  try simp only [Act.put, List.setIfInBounds_toArray, List.set_cons_zero, List.set_cons_succ]
  refine wpAnyH_ready (rs := [15]) (by kernel_rfl) (by simp) ?_
  refine AllReadyH.cons (by simp only [List.getElem?_toArray, List.getElem?_cons_succ, List.getElem?_cons_zero]; rfl) (fun K hK => ?_) AllReadyH.nil
  go_simp
  refine HWR.out.mono ?_
  rintro e w3 ⟨rfl, hd3, hk3, -⟩
  rw [HE1.out] at hd3
  have hc3 := (hk3.block B (by omega) HH.out.nB).trans HC2.out
  have hn3 := (hk3.block w.heap.size (by omega) (fun h => by have := HH.out.lt _ (HH.out.sX _ h); omega)).trans HN2.out
  have q30 := cellk (i := 0) hc3 rfl
  have q32 := cellk (i := 2) hc3 rfl
  have q33 := cellk (i := 3) hc3 rfl
  have r30 := cellk (i := 0) hn3 rfl
  have r31 := cellk (i := 1) hn3 rfl
  have r32 := cellk (i := 2) hn3 rfl
  have r33 := cellk (i := 3) hn3 rfl
  have HD3 := Lib.hid hd3
  have HK3 := Lib.hid hk3
  have HC3 := Lib.hid hc3
  have HN3 := Lib.hid hn3
  have hs3 := hk3.size
  clear hd3 hk3 hc3 hn3
  rw [HE1.out]
  dsimp only
  refine hK.out _ _ ⟨q30, q32, q33, r30, r31, r32, r33⟩ (fun hHeld => ?_)
  clear hK K
  try simp only [Act.put, List.setIfInBounds_toArray, List.set_cons_zero, List.set_cons_succ]
  refine wpAnyH_take (i := 16) (v := ?_) (by simp only [List.getElem?_toArray, List.getElem?_cons_succ, List.getElem?_cons_zero]; rfl) (by kernel_rfl) (by kernel_rfl) (by kernel_rfl) (by intro _ _ _ h; exact h) (Or.inl ⟨by rfl, ?_⟩) (by assumption) ?_
  rotate_left
  · (intro w hSw; (try dsimp only at hSw); go_simp; try with_reducible rfl)
  try simp only [Act.put, List.setIfInBounds_toArray, List.set_cons_zero, List.set_cons_succ]
  refine wpAnyH_done (by kernel_rfl) ?_ _
  have hX3 : ∀ k, Fr X w2 w3 k → R k ∨ w.heap.size < k := fun k hk => by
    rcases hk with hk | hk
    · exact .inl (HH.out.sX k hk)
    · exact .inr (by omega)
  have HX3 := Lib.hid hX3
  have hB3 : ¬ Fr X w2 w3 B := fun hk => by
    rcases hk with hk | hk
    · exact HH.out.nB hk
    · omega
  have hn3' : ¬ Fr X w2 w3 w.heap.size := fun hk => by
    rcases hk with hk | hk
    · have := HH.out.lt _ (HH.out.sX _ hk); omega
    · omega
  have HS := Lib.hid (dt_sync s.sp w3.drew (HD3.out.block (X' := Fr X w2 w3) (fun _ _ _ => rfl) (fun _ h => h)) (by show d1.ops ≤ _; omega))
  have hs3d : w3.drew.heap.size = w3.heap.size := rfl
  have HB3 := Lib.hid hB3
  have HN3' := Lib.hid hn3'
  have HQ0 := Lib.hid q30
  have HQ2 := Lib.hid q32
  clear hX3 hB3 hn3'
  go_wp2_with fail
  refine wp_region_held_drew (S := fun w' => w'.cell? ⟨B, 0, none⟩ = some (.pointer (some ⟨D, 0, none⟩)) ∧ w'.cell? ⟨B, 2, none⟩ = some (.int .i64 (s.sp : Int))) (by kernel_rfl) ⟨HQ0.out, HQ2.out⟩ ?_
  intro hHeld
  refine wpAnyH_take (i := 0) (v := ?_) (by simp only [List.getElem?_toArray, List.getElem?_cons_zero]; rfl) (by kernel_rfl) (by kernel_rfl) (by kernel_rfl) (by intro _ _ _ h; exact h) (Or.inl ⟨by rfl, ?_⟩) (by assumption) ?_
  rotate_left
  · (intro w hSw; (try dsimp only at hSw); go_simp; try with_reducible rfl)
  try simp only [Act.put, List.setIfInBounds_toArray, List.set_cons_zero, List.set_cons_succ]
  refine wpAnyH_take (i := 1) (v := ?_) (by simp only [List.getElem?_toArray, List.getElem?_cons_succ, List.getElem?_cons_zero]; rfl) (by kernel_rfl) (by kernel_rfl) (by kernel_rfl) (by intro _ _ _ h; exact h) (Or.inl ⟨by rfl, ?_⟩) (by assumption) ?_
  rotate_left
  · (intro w hSw; (try dsimp only at hSw); go_simp; try with_reducible rfl)
  try simp only [Act.put, List.setIfInBounds_toArray, List.set_cons_zero, List.set_cons_succ]
  refine wpAnyH_take (i := 2) (v := ?_) (by simp only [List.getElem?_toArray, List.getElem?_cons_succ, List.getElem?_cons_zero]; rfl) (by kernel_rfl) (by kernel_rfl) (by kernel_rfl) (by intro _ _ _ h; exact h) (Or.inl ⟨by rfl, ?_⟩) (by assumption) ?_
  rotate_left
  · (intro w hSw; (try dsimp only at hSw); go_simp; try with_reducible rfl)
  try simp only [Act.put, List.setIfInBounds_toArray, List.set_cons_zero, List.set_cons_succ]
  refine wpAnyH_take (i := 3) (v := ?_) (by simp only [List.getElem?_toArray, List.getElem?_cons_succ, List.getElem?_cons_zero]; rfl) (by kernel_rfl) (by kernel_rfl) (by kernel_rfl) (by intro _ _ _ h; exact h) (Or.inl ⟨by rfl, ?_⟩) (by assumption) ?_
  rotate_left
  · (intro w hSw; (try dsimp only at hSw); go_simp; try with_reducible rfl)
  try simp only [Act.put, List.setIfInBounds_toArray, List.set_cons_zero, List.set_cons_succ]
  refine wpAnyH_take (i := 4) (v := ?_) (by simp only [List.getElem?_toArray, List.getElem?_cons_succ, List.getElem?_cons_zero]; rfl) (by kernel_rfl) (by kernel_rfl) (by kernel_rfl) (by intro _ _ _ h; exact h) (Or.inl ⟨by rfl, ?_⟩) (by assumption) ?_
  rotate_left
  · (intro w hSw; (try dsimp only at hSw); go_simp; try with_reducible rfl)
  try simp only [Act.put, List.setIfInBounds_toArray, List.set_cons_zero, List.set_cons_succ]
  refine wpAnyH_take (i := 5) (v := ?_) (by simp only [List.getElem?_toArray, List.getElem?_cons_succ, List.getElem?_cons_zero]; rfl) (by kernel_rfl) (by kernel_rfl) (by kernel_rfl) (by intro _ _ _ h; exact h) (Or.inl ⟨by rfl, ?_⟩) (by assumption) ?_
  rotate_left
  · (intro w hSw; (try dsimp only at hSw); go_simp; try with_reducible rfl)
  try simp only [Act.put, List.setIfInBounds_toArray, List.set_cons_zero, List.set_cons_succ]
  refine wpAnyH_take (i := 6) (v := ?_) (by simp only [List.getElem?_toArray, List.getElem?_cons_succ, List.getElem?_cons_zero]; rfl) (by kernel_rfl) (by kernel_rfl) (by kernel_rfl) (by intro _ _ _ h; exact h) (Or.inl ⟨by rfl, ?_⟩) (by assumption) ?_
  rotate_left
  · (intro w hSw; (try dsimp only at hSw); go_simp; try with_reducible rfl)
  try simp only [Act.put, List.setIfInBounds_toArray, List.set_cons_zero, List.set_cons_succ]
  refine wpAnyH_take (i := 7) (v := ?_) (by simp only [List.getElem?_toArray, List.getElem?_cons_succ, List.getElem?_cons_zero]; rfl) (by kernel_rfl) (by kernel_rfl) (by kernel_rfl) (by intro _ _ _ h; exact h) (Or.inl ⟨by rfl, ?_⟩) (by assumption) ?_
  rotate_left
  · (intro w hSw; (try dsimp only at hSw); go_simp; try with_reducible rfl)
  try simp only [Act.put, List.setIfInBounds_toArray, List.set_cons_zero, List.set_cons_succ]
  refine wpAnyH_ready (rs := [8]) (by kernel_rfl) (by simp) ?_
  refine AllReadyH.cons (by simp only [List.getElem?_toArray, List.getElem?_cons_succ, List.getElem?_cons_zero]; rfl) (fun K hK => ?_) AllReadyH.nil
  go_simp
  refine HS.out.mono ?_
  rintro e w4 ⟨rfl, hd4, hk4, -⟩
  rw [HE2.out] at hd4
  have hc4 := (hk4.block B (by omega) HB3.out).trans (show w3.drew.heap[B]? = _ from HC3.out)
  have hn4 := (hk4.block w.heap.size (by omega) HN3'.out).trans (show w3.drew.heap[w.heap.size]? = _ from HN3.out)
  have p0 := cellk (i := 0) hc4 rfl
  have p2 := cellk (i := 2) hc4 rfl
  have HD4 := Lib.hid hd4
  have HK4 := Lib.hid hk4
  have HC4 := Lib.hid hc4
  have HN4 := Lib.hid hn4
  have hs4 := hk4.size
  clear hd4 hk4 hc4 hn4
  rw [HE2.out]
  dsimp only
  refine hK.out _ _ ⟨p0, p2⟩ (fun hHeld => ?_)
  clear hK K
  try simp only [Act.put, List.setIfInBounds_toArray, List.set_cons_zero, List.set_cons_succ]
  refine wpAnyH_take (i := 9) (v := ?_) (by simp only [List.getElem?_toArray, List.getElem?_cons_succ, List.getElem?_cons_zero]; rfl) (by kernel_rfl) (by kernel_rfl) (by kernel_rfl) (by intro _ _ _ h; exact h) (Or.inl ⟨by rfl, ?_⟩) (by assumption) ?_
  rotate_left
  · (intro w hSw; (try dsimp only at hSw); go_simp; try with_reducible rfl)
  try simp only [Act.put, List.setIfInBounds_toArray, List.set_cons_zero, List.set_cons_succ]
  refine wpAnyH_done (by kernel_rfl) ?_ _
  have x1 := cellk (i := 1) HC4.out rfl
  have x2 := cellk (i := 2) HC4.out rfl
  have f1 := free_of HC4.out 1
  have f2 := free_of HC4.out 2
  go_wp2_with fail
  go_region
  have HC5 := Lib.hid (show (((w4.setCell ⟨B, 1, none⟩ (.int .i64 (s.sp : Int))).setCell ⟨B, 2, none⟩ (.int .i64 (s.now : Int))).drew).heap[B]? = _ from nine_set HC4.out (.int .i64 (s.sp : Int)) (.int .i64 (s.now : Int)))
  have hk5 : Kept (fun k => k = B) w4 (((w4.setCell ⟨B, 1, none⟩ (.int .i64 (s.sp : Int))).setCell ⟨B, 2, none⟩ (.int .i64 (s.now : Int))).drew) := (((Kept.refl (fun k => k = B) w4).setCell (p := ⟨B, 1, none⟩) (.inl rfl) _).setCell (p := ⟨B, 2, none⟩) (.inl rfl) _).drew
  have hs5 : (((w4.setCell ⟨B, 1, none⟩ (.int .i64 (s.sp : Int))).setCell ⟨B, 2, none⟩ (.int .i64 (s.now : Int))).drew).heap.size = w4.heap.size := by simp [World.setCell]
  generalize (((w4.setCell ⟨B, 1, none⟩ (.int .i64 (s.sp : Int))).setCell ⟨B, 2, none⟩ (.int .i64 (s.now : Int))).drew) = w5 at *
  have HN5 := Lib.hid ((hk5.block w.heap.size (by omega) (by omega)).trans HN4.out)
  have HK5 := Lib.hid hk5
  clear x1 x2 f1 f2 hk5
  have x3 := cellk (i := 3) HC5.out rfl
  have x4 := cellk (i := 4) HC5.out rfl
  have x5 := cellk (i := 5) HC5.out rfl
  have x6 := cellk (i := 6) HC5.out rfl
  have x7 := cellk (i := 7) HC5.out rfl
  have x8 := cellk (i := 8) HC5.out rfl
  have f3 := free_of HC5.out 3
  have f4 := free_of HC5.out 4
  have f5 := free_of HC5.out 5
  have f6 := free_of HC5.out 6
  have f7 := free_of HC5.out 7
  have f8 := free_of HC5.out 8
  have z0 := cellk (i := 0) HN5.out rfl
  have z1 := cellk (i := 1) HN5.out rfl
  have z2 := cellk (i := 2) HN5.out rfl
  have z3 := cellk (i := 3) HN5.out rfl
  clear HC0 HN0 HC2 HN2 HC3 HN3 HW1 HWR HS
  go_wp2_with fail
  go_region
  have hc6 : (((((((w5.setCell ⟨B, 3, none⟩ (.int .u64 ((s.turn : Int) + 1))).setCell ⟨B, 4, none⟩ (.bool false)).setCell ⟨B, 5, none⟩ (.int .u64 (tm : Int))).setCell ⟨B, 6, none⟩ (.int .i64 vt)).setCell ⟨B, 7, none⟩ (.int .u64 (bs : Int))).setCell ⟨B, 8, none⟩ (.slice o lg.length c)).drew).heap[B]? = some (.cells #[.pointer (some ⟨D, 0, none⟩), .int .i64 (s.sp : Int), .int .i64 (s.now : Int), .int .u64 ((s.turn : Int) + 1), .bool false, .int .u64 (tm : Int), .int .i64 vt, .int .u64 (bs : Int), .slice o lg.length c] 53 (0, 0)) := by
    have := HC5.out
    simp [World.setCell, World.drew, Array.getElem?_modify, this]
  have hk6 : Kept (fun k => k = B) w5 (((((((w5.setCell ⟨B, 3, none⟩ (.int .u64 ((s.turn : Int) + 1))).setCell ⟨B, 4, none⟩ (.bool false)).setCell ⟨B, 5, none⟩ (.int .u64 (tm : Int))).setCell ⟨B, 6, none⟩ (.int .i64 vt)).setCell ⟨B, 7, none⟩ (.int .u64 (bs : Int))).setCell ⟨B, 8, none⟩ (.slice o lg.length c)).drew) :=
    (((((((Kept.refl (fun k => k = B) w5).setCell (p := ⟨B, 3, none⟩) (.inl rfl) _).setCell (p := ⟨B, 4, none⟩) (.inl rfl) _).setCell (p := ⟨B, 5, none⟩) (.inl rfl) _).setCell (p := ⟨B, 6, none⟩) (.inl rfl) _).setCell (p := ⟨B, 7, none⟩) (.inl rfl) _).setCell (p := ⟨B, 8, none⟩) (.inl rfl) _).drew
  have hs6 : (((((((w5.setCell ⟨B, 3, none⟩ (.int .u64 ((s.turn : Int) + 1))).setCell ⟨B, 4, none⟩ (.bool false)).setCell ⟨B, 5, none⟩ (.int .u64 (tm : Int))).setCell ⟨B, 6, none⟩ (.int .i64 vt)).setCell ⟨B, 7, none⟩ (.int .u64 (bs : Int))).setCell ⟨B, 8, none⟩ (.slice o lg.length c)).drew).heap.size = w5.heap.size := by simp [World.setCell, World.drew]
  generalize (((((((w5.setCell ⟨B, 3, none⟩ (.int .u64 ((s.turn : Int) + 1))).setCell ⟨B, 4, none⟩ (.bool false)).setCell ⟨B, 5, none⟩ (.int .u64 (tm : Int))).setCell ⟨B, 6, none⟩ (.int .i64 vt)).setCell ⟨B, 7, none⟩ (.int .u64 (bs : Int))).setCell ⟨B, 8, none⟩ (.slice o lg.length c)).drew) = w6 at *
  have hk46 := HK5.out.trans hk6
  have HK46 := Lib.hid hk46
  have HC6 := Lib.hid hc6
  clear hc6 hk6 hk46 x3 x4 x5 x6 x7 x8 f3 f4 f5 f6 f7 f8 z0 z1 z2 z3 HC5 HN5
  go_wp2_with fail
  go_ret
  have hlow : ∀ k, X k → k < w.heap.size := fun k hk => HH.out.lt k (HH.out.sX k hk)
  have hsB := HB2.out.size
  have hk23 : Kept (fun k => X k ∨ k = B) w w3 := (kept_of_below HB2.out).trans (HK3.out.weak fun _ _ hk => .inl hk)
  have hk24 : Kept (fun k => X k ∨ k = B) w w4 := Kept.step hk23.drew HK4.out (fun k hk => by
    rcases hk with hk | hk
    · exact .inl (.inl hk)
    · exact .inr (by omega))
  have hk26 : Kept (fun k => X k ∨ k = B) w w6 := hk24.trans (HK46.out.weak fun _ _ hk => .inr hk)
  have hnB : ¬ Fr (Fr X w2 w3) w3.drew w4 B := fun hk => by
    rcases hk with hk | hk
    · exact HB3.out hk
    · omega
  have hL2 := HL2.out
  refine ⟨rfl, ⟨Fr (Fr X w2 w3) w3.drew w4, L2, .slice o lg.length c, ⟨HD4.out.block (fun g hg hl => HK46.out.block g hl (fun e => hnB (e ▸ hg))) (fun _ h => h), HC6.out, HLL.out.block (fun g hg => hk26.block g (HH.out.lt g (hL2 g hg).1) (fun hk => by
      rcases hk with hk | hk
      · exact (hL2 g hg).2.1 hk
      · exact (hL2 g hg).2.2 hk)) (fun _ h => h), fun k hk => ?_, fun k hk => ⟨.inl (hL2 k hk).1, fun hx => ?_, (hL2 k hk).2.2⟩, .inl HH.out.rB, hnB, fun k hk => ?_, HOK.out, ⟨hlim.2.1, hlim.1, by show s.turn + 1 ≤ 1000000; omega⟩⟩⟩, hk26.weak fun k _ hk => ?_⟩
  · rcases hk with (hk | hk) | hk
    · exact .inl (HH.out.sX k hk)
    · exact .inr (by omega)
    · exact .inr (by omega)
  · have h5 := HH.out.lt k (hL2 k hk).1
    rcases hx with (hx | hx) | hx
    · exact (hL2 k hk).2.1 hx
    · omega
    · omega
  · rcases hk with hk | hk
    · have := HH.out.lt k hk; omega
    · exact hk.2
  · rcases hk with hk | hk
    · exact HH.out.sX k hk
    · rw [hk]; exact HH.out.rB
end Go.Proofs.Ytdckcjcddibglaa
