/- The law of moves behind others. -/
import Derived.Test.YtjmfgpklemhomabLTurns
import Derived.StillTailTactics
import Derived.IntWalk
namespace Go.Proofs.Ytjmfgpklemhomab
open Go.RowKit TurF TurP

/-- What the law asks, in plain words. -/
theorem joins_at (X Y : List Mv) : (run (X ++ Y)).path.length = (run X).path.length - 1 + (run Y).path.length ∧ (run X).path[(run X).path.length - 1]? = some (run X).pos ∧
    ∀ i q, (run Y).path[i]? = some q → (run (X ++ Y)).path[(run X).path.length - 1 + i]? = some (T (run X).pos (run X).look q) := by
  obtain ⟨pre, h1, h2⟩ := joins X Y
  have h3 := h2.path
  have hl : (run X).path.length = pre.length + 1 := by rw [h1]; simp
  refine ⟨by rw [h3, hl]; simp, by rw [hl, h1]; simp, fun i q hq => ?_⟩
  rw [h3, hl, Nat.add_sub_cancel, List.getElem?_append_right (by omega), Nat.add_sub_cancel_left, List.getElem?_map, hq]
  rfl

theorem small_within' (l : List Mv) : Within 999 (small l) := fun m hm _ => by
  have := small_within l m hm
  omega

/-- The bounds of a small walk. -/
theorem small_bounds (l : List Mv) : Unit4 (run (small l)).look ∧ ∀ p ∈ (run (small l)).path, (-199800 ≤ p.1 ∧ p.1 ≤ 199800) ∧ (-199800 ≤ p.2 ∧ p.2 ≤ 199800) := by
  have ok := ok_run (B := 999) (by omega) (small l) (small_within' l)
  have hl := small_len l
  refine ⟨ok.unit, fun p hp => ?_⟩
  have := ok.all p hp
  omega

theorem mul_unit {a b : Int} (h : -199800 ≤ a ∧ a ≤ 199800) (k : -1 ≤ b ∧ b ≤ 1) : -199800 ≤ a * b ∧ a * b ≤ 199800 := by
  obtain rfl | rfl | rfl : b = -1 ∨ b = 0 ∨ b = 1 := by omega
  all_goals omega

theorem cell_alloc {w : World} {p : Addr} {v : Value} (h : w.cell? p = some v) (o : Obj) : (w.alloc o).cell? p = some v :=
  (World.cell?_of_block (Below.heap_alloc w o p.block (World.block_lt_of_cell? w p h))).trans h

/-- Behind two new blocks of two cells each. -/
theorem two_blocks {w wr : World} {x y u v : Value} {s t : TypeId} (hb : Below (w.heap.size + 2) ((w.alloc (.cells #[x, y] s)).alloc (.cells #[u, v] t)) wr) :
    wr.heap[w.heap.size]? = some (.cells #[x, y] s (0, 0)) ∧ wr.heap[w.heap.size + 1]? = some (.cells #[u, v] t (0, 0)) ∧ (∀ p : Addr, p.block < w.heap.size → wr.cell? p = w.cell? p) ∧ Below w.heap.size w wr := by
  have h1 : Below w.heap.size w wr := (((Below.refl _ w).alloc (Nat.le_refl _) _).alloc (by simp) _).trans (hb.mono (by omega))
  refine ⟨(hb.block _ (by omega)).trans ((Below.heap_alloc _ _ _ (by simp)).trans (heap_alloc_new w _)), (hb.block _ (by omega)).trans ?_, fun p hp => h1.cell hp, h1⟩
  have := heap_alloc_new (w.alloc (.cells #[x, y] s)) (.cells #[u, v] t)
  simpa using this

/-- Places at their index, where the cells below a block are the same. -/
theorem place_under {w w' : World} {g i : Nat} {ps : List Pt} {p : Pt} (h : Hid (∀ j p, ps[j]? = some p → w.cell? ⟨g, j * 2, none⟩ = some (.int .i64 p.1) ∧ w.cell? ⟨g, j * 2 + 1, none⟩ = some (.int .i64 p.2))) (hg : g < w.heap.size) (hs : ∀ p : Addr, p.block < w.heap.size → w'.cell? p = w.cell? p) (hi : ps[i]? = some p) :
    w'.cell? ⟨g, i * 2, none⟩ = some (.int .i64 p.1) ∧ w'.cell? ⟨g, i * 2 + 1, none⟩ = some (.int .i64 p.2) := by
  rw [hs _ hg, hs _ hg]
  exact h.out i p hi

set_option maxHeartbeats 4000000 in
set_option maxRecDepth 100000 in
theorem joins_walk (va : Value) (a : List Mv) (vb : Value) (b : List Mv) (w : World) (ha : RdM w va a) (hb : RdM w vb b) :
    Calls Try.prog 8 #[va, vb] w fun e w' => e = .returned (.bool true) ∧ Below w.heap.size w w' := by
  have HA0 := Lib.hid ha
  have HB0 := Lib.hid hb
  clear ha hb
  go_enter Try.func8, Try.ntmps8
  go_wp2_with fail
  refine (awake w).mono ?_
  rintro e w1 ⟨rfl, hb1⟩
  have HA1 := Lib.hid (HA0.out.below hb1 (Nat.le_refl _))
  have HB1 := Lib.hid (HB0.out.below hb1 (Nat.le_refl _))
  have BE1 := Lib.hid hb1
  clear hb1 HA0 HB0
  go_wp2_with fail
  refine (small_any va a w1 HA1.out).mono ?_
  rintro e w2 ⟨x, rfl, hx2, hb2⟩
  have HB2 := Lib.hid (HB1.out.below hb2 (Nat.le_refl _))
  have HX2 := Lib.hid hx2
  have BE2 := Lib.hid (BE1.out.trans (hb2.mono BE1.out.size))
  clear hx2 hb2 HA1 HB1
  go_wp2_with fail
  refine (small_any vb b w2 HB2.out).mono ?_
  rintro e w3 ⟨y, rfl, hy3, hb3⟩
  have hx3 := HX2.out.below hb3 (Nat.le_refl _)
  have be3 := BE2.out.trans (hb3.mono BE2.out.size)
  have hsa := small_len a
  have hsb := small_len b
  obtain ⟨v1, w4, hr1, hv4, hg1⟩ := append_rdM (base := w3.heap.size) (v := .slice none 0 0) (l := []) (World.ownsRow_nil w3 _ _ _) hx3.rd (by simp; omega) (Nat.le_refl _) 22
  rw [List.nil_append] at hv4
  have b34 : Below w3.heap.size w3 w4 := (Below.refl _ w3).grown hg1 (Nat.le_refl _) (by simp [Value.ownBlock])
  obtain ⟨v2, w5, hr2, hv5, hg2⟩ := append_rdM hv4 (hy3.below b34 (Nat.le_refl _)).rd (by omega) b34.size 22
  have b35 : Below w3.heap.size w3 w5 := b34.grown hg2 b34.size (fun k hk => (hv4.lt k hk).1)
  have hx5 := hx3.below b35 (Nat.le_refl _)
  have hy5 := hy3.below b35 (Nat.le_refl _)
  have BE5 := Lib.hid (be3.trans (b35.mono be3.size))
  obtain ⟨lx1, lx2⟩ := small_ok a [] (by simp) rfl
  obtain ⟨ly1, ly2⟩ := small_ok b [] (by simp) rfl
  obtain ⟨lz1, lz2⟩ := small_ok a (small b) (by omega) (far_small (small_within b))
  rw [List.append_nil] at lx1 lx2 ly1 ly2
  have PX := Lib.hid (path_good x _ w5 hx5.rd lx1 lx2)
  have HX5 := Lib.hid hx5.rd
  have HY5 := Lib.hid hy5.rd
  have HV5 := Lib.hid hv5.rd
  have LX1 := Lib.hid lx1
  have LX2 := Lib.hid lx2
  have LY1 := Lib.hid ly1
  have LY2 := Lib.hid ly2
  have LZ1 := Lib.hid lz1
  have LZ2 := Lib.hid lz2
  have HR1 := Lib.hid hr1
  have HR2 := Lib.hid hr2
  clear hr1 hr2 hg1 hg2 hv4 hv5 b34 b35 hx3 hx5 hy3 hy5 hb3 be3 lx1 lx2 ly1 ly2 lz1 lz2 HX2 HB2 BE1 BE2
  go_wp2_with (at_builtin; first | refine wpList_append_known rfl (.tmp 25) (.tmp 26) 22 22 (by rfl) _ _ _ (by rfl) (by rfl) HR1.out ?_ | refine wpList_append_known rfl (.tmp 28) (.tmp 29) 22 22 (by rfl) _ _ _ (by rfl) (by rfl) HR2.out ?_)
  clear HR1 HR2
  refine PX.out.mono ?_
  rintro e w6 ⟨p, rfl, hp6, hb6⟩
  have HP6 := Lib.hid hp6
  have BE6 := Lib.hid (BE5.out.trans (hb6.mono BE5.out.size))
  have HX6 := Lib.hid (HX5.out.below hb6 (Nat.le_refl _))
  have HV6 := Lib.hid (HV5.out.below hb6 (Nat.le_refl _))
  have PY := Lib.hid (path_good y _ w6 (HY5.out.below hb6 (Nat.le_refl _)) LY1.out LY2.out)
  clear hp6 hb6 BE5 HX5 HV5 HY5 PX LY1 LY2
  go_wp2_with fail
  refine PY.out.mono ?_
  rintro e w7 ⟨q, rfl, hq7, hb7⟩
  have HQ7 := Lib.hid hq7
  have HP7 := Lib.hid (HP6.out.below hb7 (Nat.le_refl _))
  have BE7 := Lib.hid (BE6.out.trans (hb7.mono BE6.out.size))
  have HX7 := Lib.hid (HX6.out.below hb7 (Nat.le_refl _))
  have PZ := Lib.hid (path_good v2 _ w7 (HV6.out.below hb7 (Nat.le_refl _)) LZ1.out LZ2.out)
  clear hq7 hb7 BE6 HX6 HV6 HP6 PY LZ1 LZ2
  go_wp2_with fail
  refine PZ.out.mono ?_
  rintro e w8 ⟨r, rfl, hr8, hb8⟩
  have HR8 := Lib.hid hr8
  have HQ8 := Lib.hid (HQ7.out.below hb8 (Nat.le_refl _))
  have HP8 := Lib.hid (HP7.out.below hb8 (Nat.le_refl _))
  have BE8 := Lib.hid (BE7.out.trans (hb8.mono BE7.out.size))
  have LK := Lib.hid (look_good x _ w8 (HX7.out.below hb8 (Nat.le_refl _)) LX1.out LX2.out)
  clear hr8 hb8 BE7 HX7 HP7 HQ7 PZ LX1 LX2
  go_wp2_with fail
  refine LK.out.mono ?_
  rintro e w9 ⟨hl, hb9⟩
  unfold LGood at hl
  subst hl
  have hr9 := HR8.out.below hb9 (Nat.le_refl _)
  have hq9 := HQ8.out.below hb9 (Nat.le_refl _)
  have hp9 := HP8.out.below hb9 (Nat.le_refl _)
  have BE9 := Lib.hid (BE8.out.trans (hb9.mono BE8.out.size))
  obtain ⟨j1, j2, j3⟩ := joins_at (small a) (small b)
  have hp0 := path_pos (small a)
  have hq0 := path_pos (small b)
  have hr0 := path_pos (small a ++ small b)
  obtain ⟨bu, bp⟩ := small_bounds a
  obtain ⟨_, bq⟩ := small_bounds b
  have hz := bp (run (small a)).pos (List.mem_of_getElem? j2)
  have hpl := path_le (small a)
  have hql := path_le (small b)
  generalize (run (small a ++ small b)).path = R at *
  generalize (run (small b)).path = Q at *
  generalize (run (small a)).pos = z at *
  generalize (run (small a)).look = d at *
  generalize (run (small a)).path = P at *
  obtain ⟨gp, cp, rfl, hgp, hgp2, hcp, hmp, kp⟩ := hp9.cells hp0
  obtain ⟨gq, cq, rfl, hgq, hgq2, hcq, hmq, kq⟩ := hq9.cells hq0
  obtain ⟨gr, cr, rfl, hgr, hgr2, hcr, hmr, kr⟩ := hr9.cells hr0
  unfold maxLen at hmp hmq hmr
  obtain ⟨z1, z2⟩ := kp _ _ j2
  have KQ := Lib.hid kq
  have KR := Lib.hid kr
  have J3 := Lib.hid j3
  have BQ := Lib.hid bq
  have BU := Lib.hid bu
  clear kp kq kr j2 j3 bp bq bu hp9 hq9 hr9 hb9 HP8 HQ8 HR8 BE8 LK
  generalize hm : P.length = pl at *
  obtain ⟨m, rfl⟩ : ∃ m, pl = m + 1 := ⟨pl - 1, by omega⟩
  have HM := Lib.hid hm
  clear hm
  simp only [Nat.add_sub_cancel] at j1 z1 z2
  generalize hn : Q.length = n at *
  have HN := Lib.hid hn
  clear hn
  generalize ho : R.length = rl at *
  have HO := Lib.hid ho
  clear ho
  subst j1
  have hne : ((m : Int) + (n : Int) != (m : Int) + 1 + (n : Int) - 1) = false := by simp; omega
  go_wp2_with fail
  go_loopw [17] (fun i wr => ∃ j : Nat, j ≤ n ∧ i = .int .i64 j ∧ Hid (Below (w9.heap.size + 2) ((w9.alloc (.cells #[.int .i64 d.1, .int .i64 d.2] 29)).alloc (.cells #[.int .i64 z.1, .int .i64 z.2] 29)) wr)) (fun i _ => n - (intOf i).toNat)
  case atStart => exact ⟨0, by omega, rfl, Lib.hid (Below.refl _ _)⟩
  case round =>
    obtain ⟨j, hj, rfl, hb⟩ := hrel
    obtain ⟨k1, k2, hs, hbw⟩ := two_blocks hb.out
    by_cases hlt : j < n
    · have hqj : Q[j]? = some (Q[j]'(by rw [HN.out]; exact hlt)) := List.getElem?_eq_getElem _
      have hrj := J3.out _ _ hqj
      rw [Nat.add_sub_cancel] at hrj
      have bqj := BQ.out _ (List.getElem_mem (by rw [HN.out]; exact hlt : j < Q.length))
      obtain ⟨c1, c2⟩ := place_under KQ hgq2 hs hqj
      obtain ⟨c3, c4⟩ := place_under KR hgr2 hs hrj
      obtain ⟨d1, d2, -, -⟩ := cells_two k1
      obtain ⟨e1, e2, -, -⟩ := cells_two k2
      generalize Q[j]'_ = t at *
      have us := unit_sm BU.out
      have m1 := mul_unit bqj.1 ⟨us.2.2.1, us.2.2.2⟩
      have m2 := mul_unit bqj.2 ⟨us.1, us.2.1⟩
      have m3 := mul_unit bqj.1 ⟨us.1, us.2.1⟩
      have m4 := mul_unit bqj.2 ⟨us.2.2.1, us.2.2.2⟩
      have hsz := hb.out.size
      simp at hsz
      clear k1 k2 hs hqj hrj
      have nq : ∀ w : World, (binOp .neq 29 (.agg #[.int .i64 (z.1 + t.1 * d.2 + t.2 * d.1), .int .i64 (z.2 - t.1 * d.1 + t.2 * d.2)]) (.agg #[.int .i64 (z.1 + t.1 * d.2 + t.2 * d.1), .int .i64 (z.2 - t.1 * d.1 + t.2 * d.2)])).run Try.prog w = .ok (.bool false) w := fun w => neqPlace_same w (T z d t)
      have c5 : wr.cell? ⟨gr, (m + j) * 2, none⟩ = some (.int .i64 (z.1 + t.1 * d.2 + t.2 * d.1)) := c3
      have c6 : wr.cell? ⟨gr, (m + j) * 2 + 1, none⟩ = some (.int .i64 (z.2 - t.1 * d.1 + t.2 * d.2)) := c4
      clear c3 c4
      have q1 : IntKind.i64.wrap (t.1 * d.2) = t.1 * d.2 := IntWalk.i64_in _ (by omega)
      have q2 : IntKind.i64.wrap (t.2 * d.1) = t.2 * d.1 := IntWalk.i64_in _ (by omega)
      have q3 : IntKind.i64.wrap (t.1 * d.1) = t.1 * d.1 := IntWalk.i64_in _ (by omega)
      have q4 : IntKind.i64.wrap (t.2 * d.2) = t.2 * d.2 := IntWalk.i64_in _ (by omega)
      have q5 : IntKind.i64.wrap (z.1 + t.1 * d.2) = z.1 + t.1 * d.2 := IntWalk.i64_in _ (by omega)
      have q6 : IntKind.i64.wrap (z.2 - t.1 * d.1) = z.2 - t.1 * d.1 := IntWalk.i64_in _ (by omega)
      have q7 : IntKind.i64.wrap (z.1 + t.1 * d.2 + t.2 * d.1) = z.1 + t.1 * d.2 + t.2 * d.1 := IntWalk.i64_in _ (by omega)
      have q8 : IntKind.i64.wrap (z.2 - t.1 * d.1 + t.2 * d.2) = z.2 - t.1 * d.1 + t.2 * d.2 := IntWalk.i64_in _ (by omega)
      have r1 : IntKind.i64.wrap ((m : Int) + 1 - 1) = (m : Int) := (IntWalk.i64_in _ (by omega)).trans (by omega)
      have r2 : IntKind.i64.wrap ((m : Int) + (j : Int)) = (m : Int) + (j : Int) := IntWalk.i64_in _ (by omega)
      have r3 : (0 : Int) ≤ (m : Int) + (j : Int) := by omega
      have r4 : ((m : Int) + (j : Int)).toNat = m + j := by omega
      have R1 := Lib.hid r1
      have R2 := Lib.hid r2
      have R4 := Lib.hid r4
      have R5 : Hid (IntKind.i64.wrap (m : Int) = (m : Int)) := IntWalk.i64_in _ (by omega)
      have R6 : Hid (m + j < m + n) := by show m + j < m + n; omega
      clear r1 r2 r4
      go_wp2
      refine wp_region_held_drew (S := fun w' => w'.cell? ⟨gq, j * 2, none⟩ = some (.int .i64 t.1) ∧ w'.cell? ⟨gq, j * 2 + 1, none⟩ = some (.int .i64 t.2) ∧ w'.cell? ⟨w9.heap.size, 0, none⟩ = some (.int .i64 d.1) ∧ w'.cell? ⟨w9.heap.size, 1, none⟩ = some (.int .i64 d.2) ∧ w'.cell? ⟨w9.heap.size + 1, 0, none⟩ = some (.int .i64 z.1) ∧ w'.cell? ⟨w9.heap.size + 1, 1, none⟩ = some (.int .i64 z.2)) (by kernel_rfl) ⟨c1, c2, d1, d2, e1, e2⟩ ?_
      intro hHeld
      refine wpAnyH_take (i := 0) (v := ?_) (by simp only [List.getElem?_toArray, List.getElem?_cons_zero]; rfl) (by kernel_rfl) (by kernel_rfl) (by kernel_rfl) (by intro _ _ _ h; exact h) (Or.inl ⟨by rfl, ?_⟩) (by assumption) ?_
      rotate_left
      · (intro w hSw; (try dsimp only at hSw); go_simp; try with_reducible rfl)
      try simp only [Act.put, List.setIfInBounds_toArray, List.set_cons_zero, List.set_cons_succ]
      refine wpAnyH_take (i := 1) (v := ?_) (by simp only [List.getElem?_toArray, List.getElem?_cons_succ, List.getElem?_cons_zero]; rfl) (by kernel_rfl) (by kernel_rfl) (by kernel_rfl) (by intro _ _ _ h; exact h) (Or.inl ⟨by rfl, ?_⟩) (by assumption) ?_
      rotate_left
      · (intro w hSw; (try dsimp only at hSw); go_simp; try with_reducible rfl)
      try simp only [Act.put, List.setIfInBounds_toArray, List.set_cons_zero, List.set_cons_succ]
      refine wpAnyH_take (i := 2) (v := ?_) (by simp only [List.getElem?_toArray, List.getElem?_cons_succ, List.getElem?_cons_zero]; rfl) (by kernel_rfl) (by kernel_rfl) (by kernel_rfl) (by intro _ _ _ h; exact h) (Or.inl ⟨by rfl, ?_⟩) (by assumption) ?_
      rotate_left
      · (intro w hSw; (try dsimp only at hSw); go_simp; try with_reducible rfl)
      try simp only [Act.put, List.setIfInBounds_toArray, List.set_cons_zero, List.set_cons_succ]
      refine wpAnyH_take (i := 3) (v := ?_) (by simp only [List.getElem?_toArray, List.getElem?_cons_succ, List.getElem?_cons_zero]; rfl) (by kernel_rfl) (by kernel_rfl) (by kernel_rfl) (by intro _ _ _ h; exact h) (Or.inl ⟨by rfl, ?_⟩) (by assumption) ?_
      rotate_left
      · (intro w hSw; (try dsimp only at hSw); go_simp; try with_reducible rfl)
      try simp only [Act.put, List.setIfInBounds_toArray, List.set_cons_zero, List.set_cons_succ]
      refine wpAnyH_take (i := 4) (v := ?_) (by simp only [List.getElem?_toArray, List.getElem?_cons_succ, List.getElem?_cons_zero]; rfl) (by kernel_rfl) (by kernel_rfl) (by kernel_rfl) (by intro _ _ _ h; exact h) (Or.inl ⟨by rfl, ?_⟩) (by assumption) ?_
      rotate_left
      · (intro w hSw; (try dsimp only at hSw); go_simp; try with_reducible rfl)
      try simp only [Act.put, List.setIfInBounds_toArray, List.set_cons_zero, List.set_cons_succ]
      refine wpAnyH_take (i := 5) (v := ?_) (by simp only [List.getElem?_toArray, List.getElem?_cons_succ, List.getElem?_cons_zero]; rfl) (by kernel_rfl) (by kernel_rfl) (by kernel_rfl) (by intro _ _ _ h; exact h) (Or.inl ⟨by rfl, ?_⟩) (by assumption) ?_
      rotate_left
      · (intro w hSw; (try dsimp only at hSw); go_simp; try with_reducible rfl)
      try simp only [Act.put, List.setIfInBounds_toArray, List.set_cons_zero, List.set_cons_succ]
      refine wpAnyH_take (i := 6) (v := ?_) (by simp only [List.getElem?_toArray, List.getElem?_cons_succ, List.getElem?_cons_zero]; rfl) (by kernel_rfl) (by kernel_rfl) (by kernel_rfl) (by intro _ _ _ h; exact h) (Or.inl ⟨by rfl, ?_⟩) (by assumption) ?_
      rotate_left
      · (intro w hSw; (try dsimp only at hSw); go_simp; try with_reducible rfl)
      try simp only [Act.put, List.setIfInBounds_toArray, List.set_cons_zero, List.set_cons_succ]
      refine wpAnyH_take (i := 7) (v := ?_) (by simp only [List.getElem?_toArray, List.getElem?_cons_succ, List.getElem?_cons_zero]; rfl) (by kernel_rfl) (by kernel_rfl) (by kernel_rfl) (by intro _ _ _ h; exact h) (Or.inl ⟨by rfl, ?_⟩) (by assumption) ?_
      rotate_left
      · (intro w hSw; (try dsimp only at hSw); go_simp; try with_reducible rfl)
      try simp only [Act.put, List.setIfInBounds_toArray, List.set_cons_zero, List.set_cons_succ]
      refine wpAnyH_take (i := 8) (v := ?_) (by simp only [List.getElem?_toArray, List.getElem?_cons_succ, List.getElem?_cons_zero]; rfl) (by kernel_rfl) (by kernel_rfl) (by kernel_rfl) (by intro _ _ _ h; exact h) (Or.inl ⟨by rfl, ?_⟩) (by assumption) ?_
      rotate_left
      · (intro w hSw; (try dsimp only at hSw); go_simp; try with_reducible rfl)
      try simp only [Act.put, List.setIfInBounds_toArray, List.set_cons_zero, List.set_cons_succ]
      refine wpAnyH_take (i := 9) (v := ?_) (by simp only [List.getElem?_toArray, List.getElem?_cons_succ, List.getElem?_cons_zero]; rfl) (by kernel_rfl) (by kernel_rfl) (by kernel_rfl) (by intro _ _ _ h; exact h) (Or.inl ⟨by rfl, ?_⟩) (by assumption) ?_
      rotate_left
      · (intro w hSw; (try dsimp only at hSw); go_simp; try with_reducible rfl)
      try simp only [Act.put, List.setIfInBounds_toArray, List.set_cons_zero, List.set_cons_succ]
      refine wpAnyH_take (i := 10) (v := ?_) (by simp only [List.getElem?_toArray, List.getElem?_cons_succ, List.getElem?_cons_zero]; rfl) (by kernel_rfl) (by kernel_rfl) (by kernel_rfl) (by intro _ _ _ h; exact h) (Or.inl ⟨by rfl, ?_⟩) (by assumption) ?_
      rotate_left
      · (intro w hSw; (try dsimp only at hSw); go_simp; try with_reducible rfl)
      try simp only [Act.put, List.setIfInBounds_toArray, List.set_cons_zero, List.set_cons_succ]
      refine wpAnyH_take (i := 11) (v := ?_) (by simp only [List.getElem?_toArray, List.getElem?_cons_succ, List.getElem?_cons_zero]; rfl) (by kernel_rfl) (by kernel_rfl) (by kernel_rfl) (by intro _ _ _ h; exact h) (Or.inl ⟨by rfl, ?_⟩) (by assumption) ?_
      rotate_left
      · (intro w hSw; (try dsimp only at hSw); go_simp; try with_reducible rfl)
      try simp only [Act.put, List.setIfInBounds_toArray, List.set_cons_zero, List.set_cons_succ]
      refine wpAnyH_take (i := 12) (v := ?_) (by simp only [List.getElem?_toArray, List.getElem?_cons_succ, List.getElem?_cons_zero]; rfl) (by kernel_rfl) (by kernel_rfl) (by kernel_rfl) (by intro _ _ _ h; exact h) (Or.inl ⟨by rfl, ?_⟩) (by assumption) ?_
      rotate_left
      · (intro w hSw; (try dsimp only at hSw); go_simp; try with_reducible rfl)
      try simp only [Act.put, List.setIfInBounds_toArray, List.set_cons_zero, List.set_cons_succ]
      refine wpAnyH_take (i := 13) (v := ?_) (by simp only [List.getElem?_toArray, List.getElem?_cons_succ, List.getElem?_cons_zero]; rfl) (by kernel_rfl) (by kernel_rfl) (by kernel_rfl) (by intro _ _ _ h; exact h) (Or.inl ⟨by rfl, ?_⟩) (by assumption) ?_
      rotate_left
      · (intro w hSw; (try dsimp only at hSw); go_simp; try with_reducible rfl)
      try simp only [Act.put, List.setIfInBounds_toArray, List.set_cons_zero, List.set_cons_succ]
      refine wpAnyH_take (i := 14) (v := ?_) (by simp only [List.getElem?_toArray, List.getElem?_cons_succ, List.getElem?_cons_zero]; rfl) (by kernel_rfl) (by kernel_rfl) (by kernel_rfl) (by intro _ _ _ h; exact h) (Or.inl ⟨by rfl, ?_⟩) (by assumption) ?_
      rotate_left
      · (intro w hSw; (try dsimp only at hSw); go_simp; try with_reducible rfl)
      try simp only [Act.put, List.setIfInBounds_toArray, List.set_cons_zero, List.set_cons_succ]
      refine wpAnyH_take (i := 15) (v := ?_) (by simp only [List.getElem?_toArray, List.getElem?_cons_succ, List.getElem?_cons_zero]; rfl) (by kernel_rfl) (by kernel_rfl) (by kernel_rfl) (by intro _ _ _ h; exact h) (Or.inl ⟨by rfl, ?_⟩) (by assumption) ?_
      rotate_left
      · (intro w hSw; (try dsimp only at hSw); go_simp; try with_reducible rfl)
      try simp only [Act.put, List.setIfInBounds_toArray, List.set_cons_zero, List.set_cons_succ]
      refine wpAnyH_take (i := 16) (v := ?_) (by simp only [List.getElem?_toArray, List.getElem?_cons_succ, List.getElem?_cons_zero]; rfl) (by kernel_rfl) (by kernel_rfl) (by kernel_rfl) (by intro _ _ _ h; exact h) (Or.inl ⟨by rfl, ?_⟩) (by assumption) ?_
      rotate_left
      · (intro w hSw; (try dsimp only at hSw); go_simp; try with_reducible rfl)
      try simp only [Act.put, List.setIfInBounds_toArray, List.set_cons_zero, List.set_cons_succ]
      refine wpAnyH_take (i := 17) (v := ?_) (by simp only [List.getElem?_toArray, List.getElem?_cons_succ, List.getElem?_cons_zero]; rfl) (by kernel_rfl) (by kernel_rfl) (by kernel_rfl) (by intro _ _ _ h; exact h) (Or.inl ⟨by rfl, ?_⟩) (by assumption) ?_
      rotate_left
      · (intro w hSw; (try dsimp only at hSw); go_simp; try with_reducible rfl)
      try simp only [Act.put, List.setIfInBounds_toArray, List.set_cons_zero, List.set_cons_succ]
      refine wpAnyH_take (i := 18) (v := ?_) (by simp only [List.getElem?_toArray, List.getElem?_cons_succ, List.getElem?_cons_zero]; rfl) (by kernel_rfl) (by kernel_rfl) (by kernel_rfl) (by intro _ _ _ h; exact h) (Or.inl ⟨by rfl, ?_⟩) (by assumption) ?_
      rotate_left
      · (intro w hSw; (try dsimp only at hSw); go_simp; try with_reducible rfl)
      try simp only [Act.put, List.setIfInBounds_toArray, List.set_cons_zero, List.set_cons_succ]
      refine wpAnyH_take (i := 19) (v := ?_) (by simp only [List.getElem?_toArray, List.getElem?_cons_succ, List.getElem?_cons_zero]; rfl) (by kernel_rfl) (by kernel_rfl) (by kernel_rfl) (by intro _ _ _ h; exact h) (Or.inl ⟨by rfl, ?_⟩) (by assumption) ?_
      rotate_left
      · (intro w hSw; (try dsimp only at hSw); go_simp; try with_reducible rfl)
      try simp only [Act.put, List.setIfInBounds_toArray, List.set_cons_zero, List.set_cons_succ]
      refine wpAnyH_take (i := 20) (v := ?_) (by simp only [List.getElem?_toArray, List.getElem?_cons_succ, List.getElem?_cons_zero]; rfl) (by kernel_rfl) (by kernel_rfl) (by kernel_rfl) (by intro _ _ _ h; exact h) (Or.inl ⟨by rfl, ?_⟩) (by assumption) ?_
      rotate_left
      · (intro w hSw; (try dsimp only at hSw); go_simp; try with_reducible rfl)
      try simp only [Act.put, List.setIfInBounds_toArray, List.set_cons_zero, List.set_cons_succ]
      refine wpAnyH_take (i := 21) (v := ?_) (by simp only [List.getElem?_toArray, List.getElem?_cons_succ, List.getElem?_cons_zero]; rfl) (by kernel_rfl) (by kernel_rfl) (by kernel_rfl) (by intro _ _ _ h; exact h) (Or.inl ⟨by rfl, ?_⟩) (by assumption) ?_
      rotate_left
      · (intro w hSw; (try dsimp only at hSw); go_simp; try with_reducible rfl)
      try simp only [Act.put, List.setIfInBounds_toArray, List.set_cons_zero, List.set_cons_succ]
      refine wpAnyH_take (i := 22) (v := ?_) (by simp only [List.getElem?_toArray, List.getElem?_cons_succ, List.getElem?_cons_zero]; rfl) (by kernel_rfl) (by kernel_rfl) (by kernel_rfl) (by intro _ _ _ h; exact h) (Or.inl ⟨by rfl, ?_⟩) (by assumption) ?_
      rotate_left
      · (intro w hSw; (try dsimp only at hSw); go_simp; try with_reducible rfl)
      try simp only [Act.put, List.setIfInBounds_toArray, List.set_cons_zero, List.set_cons_succ]
      refine wpAnyH_take (i := 23) (v := ?_) (by simp only [List.getElem?_toArray, List.getElem?_cons_succ, List.getElem?_cons_zero]; rfl) (by kernel_rfl) (by kernel_rfl) (by kernel_rfl) (by intro _ _ _ h; exact h) (Or.inl ⟨by rfl, ?_⟩) (by assumption) ?_
      rotate_left
      · (intro w hSw; (try dsimp only at hSw); go_simp; try with_reducible rfl)
      try simp only [Act.put, List.setIfInBounds_toArray, List.set_cons_zero, List.set_cons_succ]
      refine wpAnyH_take (i := 24) (v := ?_) (by simp only [List.getElem?_toArray, List.getElem?_cons_succ, List.getElem?_cons_zero]; rfl) (by kernel_rfl) (by kernel_rfl) (by kernel_rfl) (by intro _ _ _ h; exact h) (Or.inl ⟨by rfl, ?_⟩) (by assumption) ?_
      rotate_left
      · (intro w hSw; (try dsimp only at hSw); go_simp; try with_reducible rfl)
      try simp only [Act.put, List.setIfInBounds_toArray, List.set_cons_zero, List.set_cons_succ]
      refine wpAnyH_take (i := 25) (v := ?_) (by simp only [List.getElem?_toArray, List.getElem?_cons_succ, List.getElem?_cons_zero]; rfl) (by kernel_rfl) (by kernel_rfl) (by kernel_rfl) (by intro _ _ _ h; exact h) (Or.inl ⟨by rfl, ?_⟩) (by assumption) ?_
      rotate_left
      · (intro w hSw; (try dsimp only at hSw); go_simp; try with_reducible rfl)
      try simp only [Act.put, List.setIfInBounds_toArray, List.set_cons_zero, List.set_cons_succ]
      refine wpAnyH_take (i := 26) (v := ?_) (by simp only [List.getElem?_toArray, List.getElem?_cons_succ, List.getElem?_cons_zero]; rfl) (by kernel_rfl) (by kernel_rfl) (by kernel_rfl) (by intro _ _ _ h; exact h) (Or.inl ⟨by rfl, ?_⟩) (by assumption) ?_
      rotate_left
      · (intro w hSw; (try dsimp only at hSw); go_simp; try with_reducible rfl)
      try simp only [Act.put, List.setIfInBounds_toArray, List.set_cons_zero, List.set_cons_succ]
      refine wpAnyH_take (i := 27) (v := ?_) (by simp only [List.getElem?_toArray, List.getElem?_cons_succ, List.getElem?_cons_zero]; rfl) (by kernel_rfl) (by kernel_rfl) (by kernel_rfl) (by intro _ _ _ h; exact h) (Or.inl ⟨by rfl, ?_⟩) (by assumption) ?_
      rotate_left
      · (intro w hSw; (try dsimp only at hSw); go_simp; try with_reducible rfl)
      try simp only [Act.put, List.setIfInBounds_toArray, List.set_cons_zero, List.set_cons_succ]
      refine wpAnyH_take (i := 28) (v := ?_) (by simp only [List.getElem?_toArray, List.getElem?_cons_succ, List.getElem?_cons_zero]; rfl) (by kernel_rfl) (by kernel_rfl) (by kernel_rfl) (by intro _ _ _ h; exact h) (Or.inl ⟨by rfl, ?_⟩) (by assumption) ?_
      rotate_left
      · (intro w hSw; (try dsimp only at hSw); go_simp; try with_reducible rfl)
      try simp only [Act.put, List.setIfInBounds_toArray, List.set_cons_zero, List.set_cons_succ]
      refine wpAnyH_take (i := 29) (v := ?_) (by simp only [List.getElem?_toArray, List.getElem?_cons_succ, List.getElem?_cons_zero]; rfl) (by kernel_rfl) (by kernel_rfl) (by kernel_rfl) (by intro _ _ _ h; exact h) (Or.inl ⟨by rfl, ?_⟩) (by assumption) ?_
      rotate_left
      · (intro w hSw; (try dsimp only at hSw); go_simp; try with_reducible rfl)
      try simp only [Act.put, List.setIfInBounds_toArray, List.set_cons_zero, List.set_cons_succ]
      refine wpAnyH_take (i := 30) (v := ?_) (by simp only [List.getElem?_toArray, List.getElem?_cons_succ, List.getElem?_cons_zero]; rfl) (by kernel_rfl) (by kernel_rfl) (by kernel_rfl) (by intro _ _ _ h; exact h) (Or.inl ⟨by rfl, ?_⟩) (by assumption) ?_
      rotate_left
      · (intro w hSw; (try dsimp only at hSw); go_simp; try with_reducible rfl)
      try simp only [Act.put, List.setIfInBounds_toArray, List.set_cons_zero, List.set_cons_succ]
      refine wpAnyH_take (i := 31) (v := ?_) (by simp only [List.getElem?_toArray, List.getElem?_cons_succ, List.getElem?_cons_zero]; rfl) (by kernel_rfl) (by kernel_rfl) (by kernel_rfl) (by intro _ _ _ h; exact h) (Or.inl ⟨by rfl, ?_⟩) (by assumption) ?_
      rotate_left
      · (intro w hSw; (try dsimp only at hSw); go_simp; try with_reducible rfl)
      try simp only [Act.put, List.setIfInBounds_toArray, List.set_cons_zero, List.set_cons_succ]
      refine wpAnyH_take (i := 32) (v := ?_) (by simp only [List.getElem?_toArray, List.getElem?_cons_succ, List.getElem?_cons_zero]; rfl) (by kernel_rfl) (by kernel_rfl) (by kernel_rfl) (by intro _ _ _ h; exact h) (Or.inl ⟨by rfl, ?_⟩) (by assumption) ?_
      rotate_left
      · (intro w hSw; (try dsimp only at hSw); go_simp; try with_reducible rfl)
      try simp only [Act.put, List.setIfInBounds_toArray, List.set_cons_zero, List.set_cons_succ]
      refine wpAnyH_take (i := 33) (v := ?_) (by simp only [List.getElem?_toArray, List.getElem?_cons_succ, List.getElem?_cons_zero]; rfl) (by kernel_rfl) (by kernel_rfl) (by kernel_rfl) (by intro _ _ _ h; exact h) (Or.inl ⟨by rfl, ?_⟩) (by assumption) ?_
      rotate_left
      · (intro w hSw; (try dsimp only at hSw); go_simp; try with_reducible rfl)
      try simp only [Act.put, List.setIfInBounds_toArray, List.set_cons_zero, List.set_cons_succ]
      refine wpAnyH_take (i := 34) (v := ?_) (by simp only [List.getElem?_toArray, List.getElem?_cons_succ, List.getElem?_cons_zero]; rfl) (by kernel_rfl) (by kernel_rfl) (by kernel_rfl) (by intro _ _ _ h; exact h) (Or.inl ⟨by rfl, ?_⟩) (by assumption) ?_
      rotate_left
      · (intro w hSw; (try dsimp only at hSw); go_simp; try with_reducible rfl)
      try simp only [Act.put, List.setIfInBounds_toArray, List.set_cons_zero, List.set_cons_succ]
      refine wpAnyH_take (i := 35) (v := ?_) (by simp only [List.getElem?_toArray, List.getElem?_cons_succ, List.getElem?_cons_zero]; rfl) (by kernel_rfl) (by kernel_rfl) (by kernel_rfl) (by intro _ _ _ h; exact h) (Or.inl ⟨by rfl, ?_⟩) (by assumption) ?_
      rotate_left
      · (intro w hSw; (try dsimp only at hSw); go_simp; try with_reducible rfl)
      try simp only [Act.put, List.setIfInBounds_toArray, List.set_cons_zero, List.set_cons_succ]
      refine wpAnyH_take (i := 36) (v := ?_) (by simp only [List.getElem?_toArray, List.getElem?_cons_succ, List.getElem?_cons_zero]; rfl) (by kernel_rfl) (by kernel_rfl) (by kernel_rfl) (by intro _ _ _ h; exact h) (Or.inl ⟨by rfl, ?_⟩) (by assumption) ?_
      rotate_left
      · (intro w hSw; (try dsimp only at hSw); go_simp; try with_reducible rfl)
      try simp only [Act.put, List.setIfInBounds_toArray, List.set_cons_zero, List.set_cons_succ]
      refine wpAnyH_take (i := 37) (v := ?_) (by simp only [List.getElem?_toArray, List.getElem?_cons_succ, List.getElem?_cons_zero]; rfl) (by kernel_rfl) (by kernel_rfl) (by kernel_rfl) (by intro _ _ _ h; exact h) (Or.inl ⟨by rfl, ?_⟩) (by assumption) ?_
      rotate_left
      · (intro w hSw; (try dsimp only at hSw); go_simp; try with_reducible rfl)
      try simp only [Act.put, List.setIfInBounds_toArray, List.set_cons_zero, List.set_cons_succ]
      refine wpAnyH_take (i := 38) (v := ?_) (by simp only [List.getElem?_toArray, List.getElem?_cons_succ, List.getElem?_cons_zero]; rfl) (by kernel_rfl) (by kernel_rfl) (by kernel_rfl) (by intro _ _ _ h; exact h) (Or.inl ⟨by rfl, ?_⟩) (by assumption) ?_
      rotate_left
      · (intro w hSw; (try dsimp only at hSw); go_simp; try with_reducible rfl)
      try simp only [Act.put, List.setIfInBounds_toArray, List.set_cons_zero, List.set_cons_succ]
      refine wpAnyH_take (i := 39) (v := ?_) (by simp only [List.getElem?_toArray, List.getElem?_cons_succ, List.getElem?_cons_zero]; rfl) (by kernel_rfl) (by kernel_rfl) (by kernel_rfl) (by intro _ _ _ h; exact h) (Or.inl ⟨by rfl, ?_⟩) (by assumption) ?_
      rotate_left
      · (intro w hSw; (try dsimp only at hSw); go_simp; try with_reducible rfl)
      try simp only [Act.put, List.setIfInBounds_toArray, List.set_cons_zero, List.set_cons_succ]
      refine wpAnyH_take (i := 40) (v := ?_) (by simp only [List.getElem?_toArray, List.getElem?_cons_succ, List.getElem?_cons_zero]; rfl) (by kernel_rfl) (by kernel_rfl) (by kernel_rfl) (by intro _ _ _ h; exact h) (Or.inl ⟨by rfl, ?_⟩) (by assumption) ?_
      rotate_left
      · (intro w hSw; (try dsimp only at hSw); go_simp; try with_reducible rfl)
      try simp only [Act.put, List.setIfInBounds_toArray, List.set_cons_zero, List.set_cons_succ]
      refine wpAnyH_ready (rs := [41]) (by kernel_rfl) (by simp) ?_
      refine AllReadyH.cons (by simp only [List.getElem?_toArray, List.getElem?_cons_succ, List.getElem?_cons_zero]; rfl) (fun K hK => ?_) AllReadyH.nil
      go_simp
      refine hK.out _ _ ⟨cell_alloc c1 _, cell_alloc c2 _, cell_alloc d1 _, cell_alloc d2 _, cell_alloc e1 _, cell_alloc e2 _⟩ (fun hHeld => ?_)
      clear hK K
      try simp only [Act.put, List.setIfInBounds_toArray, List.set_cons_zero, List.set_cons_succ]
      refine wpAnyH_ready (rs := [42]) (by kernel_rfl) (by simp) ?_
      refine AllReadyH.cons (by simp only [List.getElem?_toArray, List.getElem?_cons_succ, List.getElem?_cons_zero]; rfl) (fun K hK => ?_) AllReadyH.nil
      go_simp
      refine hK.out _ _ ⟨cell_alloc c1 _, cell_alloc c2 _, cell_alloc d1 _, cell_alloc d2 _, cell_alloc e1 _, cell_alloc e2 _⟩ (fun hHeld => ?_)
      clear hK K
      try simp only [Act.put, List.setIfInBounds_toArray, List.set_cons_zero, List.set_cons_succ]
      refine wpAnyH_done (by kernel_rfl) ?_ _
      have BW := Lib.hid ((hb.out.alloc hsz (.cells #[.int .i64 (z.1 + t.1 * d.2 + t.2 * d.1), .int .i64 (z.2 - t.1 * d.1 + t.2 * d.2)] 29)))
      clear hHeld hb hbw
      clear q1 q2 q3 q4 q5 q6 q7 q8
      go_wp2
      have c7 := cell_alloc c5 (.cells #[.int .i64 (z.1 + t.1 * d.2 + t.2 * d.1), .int .i64 (z.2 - t.1 * d.1 + t.2 * d.2)] 29)
      have c8 := cell_alloc c6 (.cells #[.int .i64 (z.1 + t.1 * d.2 + t.2 * d.1), .int .i64 (z.2 - t.1 * d.1 + t.2 * d.2)] 29)
      have r1 := R1.out
      have r2 := R2.out
      have r4 := R4.out
      have r5 := R5.out
      have r6 : (m : Int) + (j : Int) < (m : Int) + (n : Int) := by have := R6.out; omega
      go_quiet (fail)
      clear r1 r2 r4 r5
      go_wp2
      go_roundw
      case rel => exact ⟨j + 1, by omega, by go_num, Lib.hid (below_drewN BW.out _)⟩
      case measure => simp [intOf]; omega
    · go_wp2
      go_ret
      exact ⟨rfl, BE9.out.trans (hbw.mono BE9.out.size)⟩
end Go.Proofs.Ytjmfgpklemhomab
