/- The law of messages that are read: BallotReads. -/
import Derived.Test.YtdofddgodinphaaBmE
import Derived.Test.YtdofddgodinphaaBmF
import Derived.Test.YtdofddgodinphaaBalM
import Derived.Deep.RegionHeld3
import Derived.OrdersHeld
namespace Go.Proofs.Ytdofddgodinphaa
open Go.RowKit OctM

theorem if_some {c : Prop} [Decidable c] {x m : Mg} (h : (if c then some x else none) = some m) : x = m := by
  split at h
  · injection h
  · cases h
theorem decI_len {p : List UInt8} {m : Mg} (h : decI p = some m) : m.es.length ≤ 65536 := by
  unfold decI at h
  have h1 := uptoS_most (headS p).s 65536
  generalize (headS p).s = q at h h1
  generalize (uptoS q 65536).1 = n at h h1
  generalize (uptoS q 65536).2 = t at h
  have h2 := entsS_len n t
  generalize (entsS n t).1 = es at h h2
  generalize (entsS n t).2 = u at h
  have h3 := if_some h
  rw [← h3]
  exact Nat.le_trans h2 h1
theorem decM_len (l : List UInt8) : ((decM l).2.getD mg0).es.length ≤ 65536 := by
  unfold decM
  split
  · exact Nat.zero_le _
  · rcases h : decI (openS l).1 with _ | m
    · exact Nat.zero_le _
    · exact decI_len h

set_option maxHeartbeats 4000000 in
set_option maxRecDepth 100000 in
theorem msg_any (M : Mg) (oe : Option Addr) (ne ce : Nat) (od : Option Addr) (nd cd : Nat) (w : World) :
    Calls Try.prog 9 #[mgV M (.slice oe ne ce) (.slice od nd cd)] w fun e w' => e = .returned (mgV M (.slice oe ne ce) (.slice od nd cd)) ∧ Below w.heap.size w w' := by
  obtain ⟨k, fr, tg, tm, ix, lt, cm, ok, es, dt⟩ := M
  unfold mgV
  dsimp only
  go_enter Try.func9, Try.ntmps9
  go_wp2_with fail
  refine bodyPost_ret (v := .agg #[.int .u8 (k : Int), .int .i64 fr, .int .i64 tg, .int .u64 (tm : Int), .int .u64 (ix : Int), .int .u64 (lt : Int), .int .u64 (cm : Int), .bool ok, .slice oe ne ce, .slice od nd cd]) (by simp [results, Try.results9, go_sem]) rfl ⟨rfl, ?_⟩
  exact ((Below.refl _ _).alloc (Nat.le_refl _) _).alloc (by simp) _

set_option maxHeartbeats 8000000 in
set_option maxRecDepth 100000 in
theorem breads_walk (v : Value) (l : List UInt8) (w : World) (h : Rd w v l) (hl : l.length ≤ 140737488351232) :
    Calls Try.prog 4 #[v] w fun e w' => e = .returned (.bool true) ∧ Below w.heap.size w w' := by
  obtain ⟨o, c, hv⟩ := h.form
  subst hv
  have HR := Lib.hid h
  clear h
  go_enter Try.func4, Try.ntmps4
  go_wp2_with fail
  refine (bawake w).mono ?_
  rintro e w1 ⟨rfl, hb1⟩
  have HB1 := Lib.hid hb1
  clear hb1
  by_cases hlong : 5000 < l.length
  · have hlI : (5000 : Int) < (l.length : Int) := by omega
    clear hlong
    go_wp2_with fail
    refine (bawake _).mono ?_
    rintro e w2 ⟨rfl, hb2⟩
    have HB2 := Lib.hid (HB1.out.trans (hb2.mono HB1.out.size))
    clear hb2
    go_wp2_with fail
    go_ret
    exact ⟨rfl, HB2.out⟩
  · have hlI : ¬ (5000 : Int) < (l.length : Int) := by omega
    have hlb : l.length ≤ 1000000 := by omega
    clear hlong
    have H1 := Lib.hid (bdecode _ l w1 (HR.out.below HB1.out) hlb)
    go_wp2_with fail
    refine H1.out.mono ?_
    rintro e w2 ⟨hb2, v2, rfl, ve, vd, hv2, hre, hrd⟩
    have HML := Lib.hid (decM_len l)
    generalize hM : (decM l).2.getD mg0 = M at *
    have HMM := Lib.hid hM
    clear hM
    obtain ⟨oe, ce, hve⟩ : ∃ o c, ve = .slice o M.es.length c := by obtain ⟨o, c, h, _⟩ := hre; exact ⟨o, c, h⟩
    obtain ⟨od, cd, hvd⟩ := hrd.form
    subst hv2 hve hvd
    have HB2 := Lib.hid (HB1.out.trans (hb2.mono HB1.out.size))
    have HRE := Lib.hid hre
    have HRD := Lib.hid hrd
    clear hb2 hre hrd H1
    unfold mgV
    go_wp2_with (refine wpList_store_row rfl 26 (.tmp 3) (.tmp 18) rfl w2.heap.size (mgC M (.slice oe M.es.length ce) (.slice od M.dt.length cd)).toArray rfl rfl 26 (mgC mg0 (.slice none 0 0) (.slice none 0 0)).toArray (heap_alloc_new w2 _) (by kernel_rfl) rfl (by simp [mgC, Value.oneCell']) ?_; generalize hW : World.setRow _ _ _ = W1)
    have hal : Below w2.heap.size w2 (w2.alloc (.cells (mgC mg0 (.slice none 0 0) (.slice none 0 0)).toArray 26)) := (Below.refl _ _).alloc (Nat.le_refl _) _
    have hbW : Below w2.heap.size w2 W1 := by rw [← hW]; exact hal.trans ((row_kept _ _ _).below hal.size (fun k hk => by omega))
    have hY : W1.heap[w2.heap.size]? = some (.cells (mgC M (.slice oe M.es.length ce) (.slice od M.dt.length cd)).toArray 26 (0, 0)) := by rw [← hW]; exact setRow_heap _ _ _ _ _ _ (heap_alloc_new w2 _)
    have HBW := Lib.hid (HB2.out.trans (hbW.mono HB2.out.size))
    have HRE1 := Lib.hid (HRE.out.below hbW)
    have HRD1 := Lib.hid (HRD.out.below hbW)
    have HY1 := Lib.hid hY
    clear hal hbW hY hW HRE HRD HB2
    generalize w2.heap.size = g1 at *
    have H2 := Lib.hid (rdecode _ l W1 (HR.out.below HBW.out) hlb)
    refine H2.out.mono ?_
    rintro e w3 ⟨hb3, v3, rfl, ve2, vd2, hv3, hre3, hrd3⟩
    rw [HMM.out] at hv3 hre3 hrd3
    obtain ⟨oe2, ce2, hve2⟩ : ∃ o c, ve2 = .slice o M.es.length c := by obtain ⟨o, c, h, _⟩ := hre3; exact ⟨o, c, h⟩
    obtain ⟨od2, cd2, hvd2⟩ := hrd3.form
    subst hv3 hve2 hvd2
    have HB3 := Lib.hid (HBW.out.trans (hb3.mono HBW.out.size))
    have HREA := Lib.hid (HRE1.out.below hb3)
    have HRDA := Lib.hid (HRD1.out.below hb3)
    have HREB := Lib.hid hre3
    have HRDB := Lib.hid hrd3
    have HYA := Lib.hid ((hb3.block _ (lt_of_block HY1.out)).trans HY1.out)
    clear hb3 hre3 hrd3 H2 HRE1 HRD1 HY1 HBW
    unfold mgV
    go_wp2_with (refine wpList_store_row rfl 35 (.tmp 5) (.tmp 23) rfl w3.heap.size (mgC M (.slice oe2 M.es.length ce2) (.slice od2 M.dt.length cd2)).toArray rfl rfl 35 (mgC mg0 (.slice none 0 0) (.slice none 0 0)).toArray (heap_alloc_new w3 _) (by kernel_rfl) rfl (by simp [mgC, Value.oneCell']) ?_; generalize hW : World.setRow _ _ _ = W2)
    have hal : Below w3.heap.size w3 (w3.alloc (.cells (mgC mg0 (.slice none 0 0) (.slice none 0 0)).toArray 35)) := (Below.refl _ _).alloc (Nat.le_refl _) _
    have hbW : Below w3.heap.size w3 W2 := by rw [← hW]; exact hal.trans ((row_kept _ _ _).below hal.size (fun k hk => by omega))
    have hY : W2.heap[w3.heap.size]? = some (.cells (mgC M (.slice oe2 M.es.length ce2) (.slice od2 M.dt.length cd2)).toArray 35 (0, 0)) := by rw [← hW]; exact setRow_heap _ _ _ _ _ _ (heap_alloc_new w3 _)
    have HBZ := Lib.hid (HB3.out.trans (hbW.mono HB3.out.size))
    have hA := (hbW.block _ (lt_of_block HYA.out)).trans HYA.out
    have HEA := Lib.hid (HREA.out.below hbW)
    have HDA := Lib.hid (HRDA.out.below hbW)
    have HEB := Lib.hid (HREB.out.below hbW)
    have HDB := Lib.hid (HRDB.out.below hbW)
    have l1 := lt_of_block hA
    have l2 := lt_of_block hY
    have x0 : W2.cell? ⟨g1, 0, none⟩ = some (.int .u8 (M.k : Int)) := cellk hA rfl
    have x1 : W2.cell? ⟨g1, 1, none⟩ = some (.int .i64 M.fr) := cellk hA rfl
    have x2 : W2.cell? ⟨g1, 2, none⟩ = some (.int .i64 M.tg) := cellk hA rfl
    have x3 : W2.cell? ⟨g1, 3, none⟩ = some (.int .u64 (M.tm : Int)) := cellk hA rfl
    have x4 : W2.cell? ⟨g1, 4, none⟩ = some (.int .u64 (M.ix : Int)) := cellk hA rfl
    have x5 : W2.cell? ⟨g1, 5, none⟩ = some (.int .u64 (M.lt : Int)) := cellk hA rfl
    have x6 : W2.cell? ⟨g1, 6, none⟩ = some (.int .u64 (M.cm : Int)) := cellk hA rfl
    have x7 : W2.cell? ⟨g1, 7, none⟩ = some (.bool M.ok) := cellk hA rfl
    have x8 : W2.cell? ⟨g1, 8, none⟩ = some (.slice oe M.es.length ce) := cellk hA rfl
    have x9 : W2.cell? ⟨g1, 9, none⟩ = some (.slice od M.dt.length cd) := cellk hA rfl
    have y0 : W2.cell? ⟨w3.heap.size, 0, none⟩ = some (.int .u8 (M.k : Int)) := cellk hY rfl
    have y1 : W2.cell? ⟨w3.heap.size, 1, none⟩ = some (.int .i64 M.fr) := cellk hY rfl
    have y2 : W2.cell? ⟨w3.heap.size, 2, none⟩ = some (.int .i64 M.tg) := cellk hY rfl
    have y3 : W2.cell? ⟨w3.heap.size, 3, none⟩ = some (.int .u64 (M.tm : Int)) := cellk hY rfl
    have y4 : W2.cell? ⟨w3.heap.size, 4, none⟩ = some (.int .u64 (M.ix : Int)) := cellk hY rfl
    have y5 : W2.cell? ⟨w3.heap.size, 5, none⟩ = some (.int .u64 (M.lt : Int)) := cellk hY rfl
    have y6 : W2.cell? ⟨w3.heap.size, 6, none⟩ = some (.int .u64 (M.cm : Int)) := cellk hY rfl
    have y7 : W2.cell? ⟨w3.heap.size, 7, none⟩ = some (.bool M.ok) := cellk hY rfl
    have y8 : W2.cell? ⟨w3.heap.size, 8, none⟩ = some (.slice oe2 M.es.length ce2) := cellk hY rfl
    have y9 : W2.cell? ⟨w3.heap.size, 9, none⟩ = some (.slice od2 M.dt.length cd2) := cellk hY rfl
    have HC1 : Hid (∀ W, Calls Try.prog 9 #[mgV M (.slice oe M.es.length ce) (.slice od M.dt.length cd)] W fun e w' => e = .returned (mgV M (.slice oe M.es.length ce) (.slice od M.dt.length cd)) ∧ Below W.heap.size W w') := Lib.hid (fun W => msg_any M _ _ _ _ _ _ W)
    have HC2 : Hid (∀ W, Below W2.heap.size W2 W → Calls Try.prog 10 #[mgV M (.slice oe M.es.length ce) (.slice od M.dt.length cd), mgV M (.slice oe2 M.es.length ce2) (.slice od2 M.dt.length cd2)] W fun e w' => e = .returned (.bool true) ∧ Below W.heap.size W w') := Lib.hid (fun W hb => sameMsg_eq M _ _ _ _ W (HEA.out.below hb) (HEB.out.below hb) (HDA.out.below hb) (HDB.out.below hb) HML.out)
    unfold mgV at HC1 HC2
    generalize hD1 : (decM l).1 = er at *
    have de : (er == er) = true := by simp
    clear hal hbW hY hA hW HREA HRDA HREB HRDB HYA HB3 HEA HDA HEB HDB HMM HML hD1
    generalize w3.heap.size = g2 at *
    refine wp_region_held_drew (S := fun w' => Below W2.heap.size W2 w') (by kernel_rfl) ((Below.refl _ _).drew) ?_
    intro hHeld
    refine wpAnyH_take (i := 0) (v := ?_) (by simp only [List.getElem?_toArray, List.getElem?_cons_zero]; rfl) (by kernel_rfl) (by kernel_rfl) (by kernel_rfl) (by intro _ _ _ h; exact h) (Or.inl ⟨by rfl, ?_⟩) (by assumption) ?_
    rotate_left
    · (intro w hSw; (try dsimp only at hSw); go_simp; try with_reducible rfl)
    try simp only [Act.put, List.setIfInBounds_toArray, List.set_cons_zero, List.set_cons_succ]
    refine wpAnyH_take (i := 1) (v := ?_) (by simp only [List.getElem?_toArray, List.getElem?_cons_succ, List.getElem?_cons_zero]; rfl) (by kernel_rfl) (by kernel_rfl) (by kernel_rfl) (by intro _ _ _ h; exact h) (Or.inl ⟨by rfl, ?_⟩) (by assumption) ?_
    rotate_left
    · (intro w hSw; (try dsimp only at hSw); go_simp; try with_reducible rfl)
    try simp only [Act.put, List.setIfInBounds_toArray, List.set_cons_zero, List.set_cons_succ]
    refine wpAnyH_take (i := 2) (v := ?_) (by simp only [List.getElem?_toArray, List.getElem?_cons_succ, List.getElem?_cons_zero]; rfl) (by kernel_rfl) (by kernel_rfl) (by kernel_rfl) (by intro _ _ _ h; exact h) (Or.inl ⟨by rfl, ?_⟩) (by assumption) ?_
    rotate_left
    · (intro w hSw; (try dsimp only at hSw); go_simp; try with_reducible rfl)
    try simp only [Act.put, List.setIfInBounds_toArray, List.set_cons_zero, List.set_cons_succ]
    refine wpAnyH_take (i := 3) (v := ?_) (by simp only [List.getElem?_toArray, List.getElem?_cons_succ, List.getElem?_cons_zero]; rfl) (by kernel_rfl) (by kernel_rfl) (by kernel_rfl) (by intro _ _ _ h; exact h) (Or.inl ⟨by rfl, ?_⟩) (by assumption) ?_
    rotate_left
    · (intro w hSw; (try dsimp only at hSw); go_simp; try with_reducible rfl)
    try simp only [Act.put, List.setIfInBounds_toArray, List.set_cons_zero, List.set_cons_succ]
    refine wpAnyH_take (i := 4) (v := ?_) (by simp only [List.getElem?_toArray, List.getElem?_cons_succ, List.getElem?_cons_zero]; rfl) (by kernel_rfl) (by kernel_rfl) (by kernel_rfl) (by intro _ _ _ h; exact h) (Or.inl ⟨by rfl, ?_⟩) (by assumption) ?_
    rotate_left
    · (intro w hSw; have z0 := (hSw.cell (p := ⟨g1, 0, none⟩) l1).trans x0; have z1 := (hSw.cell (p := ⟨g1, 1, none⟩) l1).trans x1; have z2 := (hSw.cell (p := ⟨g1, 2, none⟩) l1).trans x2; have z3 := (hSw.cell (p := ⟨g1, 3, none⟩) l1).trans x3; have z4 := (hSw.cell (p := ⟨g1, 4, none⟩) l1).trans x4; have z5 := (hSw.cell (p := ⟨g1, 5, none⟩) l1).trans x5; have z6 := (hSw.cell (p := ⟨g1, 6, none⟩) l1).trans x6; have z7 := (hSw.cell (p := ⟨g1, 7, none⟩) l1).trans x7; have z8 := (hSw.cell (p := ⟨g1, 8, none⟩) l1).trans x8; have z9 := (hSw.cell (p := ⟨g1, 9, none⟩) l1).trans x9; have zl := Nat.lt_of_lt_of_le l1 hSw.size; go_simp; try with_reducible rfl)
    try simp only [Act.put, List.setIfInBounds_toArray, List.set_cons_zero, List.set_cons_succ]
    refine wpAnyH_take (i := 6) (v := ?_) (by simp only [List.getElem?_toArray, List.getElem?_cons_succ, List.getElem?_cons_zero]; rfl) (by kernel_rfl) (by kernel_rfl) (by kernel_rfl) (by intro _ _ _ h; exact h) (Or.inl ⟨by rfl, ?_⟩) (by assumption) ?_
    rotate_left
    · (intro w hSw; have z0 := (hSw.cell (p := ⟨g2, 0, none⟩) l2).trans y0; have z1 := (hSw.cell (p := ⟨g2, 1, none⟩) l2).trans y1; have z2 := (hSw.cell (p := ⟨g2, 2, none⟩) l2).trans y2; have z3 := (hSw.cell (p := ⟨g2, 3, none⟩) l2).trans y3; have z4 := (hSw.cell (p := ⟨g2, 4, none⟩) l2).trans y4; have z5 := (hSw.cell (p := ⟨g2, 5, none⟩) l2).trans y5; have z6 := (hSw.cell (p := ⟨g2, 6, none⟩) l2).trans y6; have z7 := (hSw.cell (p := ⟨g2, 7, none⟩) l2).trans y7; have z8 := (hSw.cell (p := ⟨g2, 8, none⟩) l2).trans y8; have z9 := (hSw.cell (p := ⟨g2, 9, none⟩) l2).trans y9; have zl := Nat.lt_of_lt_of_le l2 hSw.size; go_simp; try with_reducible rfl)
    try simp only [Act.put, List.setIfInBounds_toArray, List.set_cons_zero, List.set_cons_succ]
    refine wpAnyH_ready (rs := [5]) (by kernel_rfl) (by simp) ?_
    refine AllReadyH.cons (by simp only [List.getElem?_toArray, List.getElem?_cons_succ, List.getElem?_cons_zero]; rfl) (fun K hK => ?_) AllReadyH.nil
    go_simp
    refine (HC1.out _).mono ?_
    rintro e wf ⟨rfl, hbf⟩
    have hS1 := hHeld.trans (hbf.mono hHeld.size)
    clear hbf
    dsimp only
    refine hK.out _ _ hS1 (fun hHeld => ?_)
    clear hK K
    try simp only [Act.put, List.setIfInBounds_toArray, List.set_cons_zero, List.set_cons_succ]
    refine wpAnyH_ready (rs := [7]) (by kernel_rfl) (by simp) ?_
    refine AllReadyH.cons (by simp only [List.getElem?_toArray, List.getElem?_cons_succ, List.getElem?_cons_zero]; rfl) (fun K hK => ?_) AllReadyH.nil
    go_simp
    refine (HC2.out _ hHeld).mono ?_
    rintro e wg ⟨rfl, hbg⟩
    have hS2 := hHeld.trans (hbg.mono hHeld.size)
    clear hbg
    dsimp only
    refine hK.out _ _ hS2 (fun hHeld => ?_)
    clear hK K
    try simp only [Act.put, List.setIfInBounds_toArray, List.set_cons_zero, List.set_cons_succ]
    refine wpAnyH_take (i := 8) (v := ?_) (by simp only [List.getElem?_toArray, List.getElem?_cons_succ, List.getElem?_cons_zero]; rfl) (by kernel_rfl) (by kernel_rfl) (by kernel_rfl) (by intro _ _ _ h; exact h) (Or.inl ⟨by rfl, ?_⟩) (by assumption) ?_
    rotate_left
    · (intro w hSw; (try dsimp only at hSw); go_simp; try with_reducible rfl)
    try simp only [Act.put, List.setIfInBounds_toArray, List.set_cons_zero, List.set_cons_succ]
    refine wpAnyH_take (i := 9) (v := ?_) (by simp only [List.getElem?_toArray, List.getElem?_cons_succ, List.getElem?_cons_zero]; rfl) (by kernel_rfl) (by kernel_rfl) (by kernel_rfl) (by intro _ _ _ h; exact h) (Or.inl ⟨by rfl, ?_⟩) (by assumption) ?_
    rotate_left
    · (intro w hSw; (try dsimp only at hSw); go_simp; try with_reducible rfl)
    try simp only [Act.put, List.setIfInBounds_toArray, List.set_cons_zero, List.set_cons_succ]
    refine wpAnyH_done (by kernel_rfl) ?_ _
    go_wp2_with fail
    go_ret
    exact ⟨rfl, HBZ.out.trans (hHeld.mono HBZ.out.size)⟩
end Go.Proofs.Ytdofddgodinphaa
