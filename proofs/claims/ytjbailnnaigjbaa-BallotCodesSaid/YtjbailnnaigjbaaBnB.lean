/- Encode: a message as bytes. -/
import Derived.Test.YtjbailnnaigjbaaBnA
import Derived.Deep.RegionHeld3
import Derived.OrdersHeld
namespace Go.Proofs.Ytjbailnnaigjbaa
open Go.RowKit OctM

/-- A writer at work since w: its bytes, and nothing else of w has turned. -/
structure EW (w : World) (b : Nat) (v : Value) (bs : List UInt8) (W : World) : Prop where
  at_ : WAt W b w.heap.size v bs
  kept : Kept (fun k => k = b) w W
theorem EW.lt {w W : World} {b : Nat} {v : Value} {bs : List UInt8} (h : EW w b v bs W) : ∀ k, v.ownBlock = some k → w.heap.size ≤ k ∧ k < W.heap.size := fun k hk => h.at_.own.lt k hk
theorem EW.drew {w W : World} {b : Nat} {v : Value} {bs : List UInt8} (h : EW w b v bs W) : EW w b v bs W.drew := ⟨⟨h.at_.cell, h.at_.own⟩, h.kept.drew⟩
theorem EW.alloc {w W : World} {b : Nat} {v : Value} {bs : List UInt8} (h : EW w b v bs W) (o : Obj) : EW w b v bs (W.alloc o) :=
  ⟨⟨(Below.heap_alloc _ _ _ (lt_of_block h.at_.cell)).trans h.at_.cell, World.ownsRow.alloc h.at_.own o⟩, h.kept.alloc o⟩
theorem EW.put {w W W' : World} {b : Nat} {v : Value} {bs bs' : List UInt8} {e : Ending} (h : EW w b v bs W) (p : WPost W W' b w.heap.size v bs' e) :
    ∃ v', EW w b v' bs' W' ∧ ∀ fb o, W.heap[fb]? = some o → fb ≠ b → v.ownBlock ≠ some fb → v'.ownBlock ≠ some fb ∧ W'.heap[fb]? = some o := by
  obtain ⟨v', hat, hor⟩ := p.at_
  refine ⟨v', ⟨hat, h.kept.step p.kept (fun k hk => ?_)⟩, fun fb o hf hb hv => ⟨?_, (p.kept.block fb (lt_of_block hf) ?_).trans hf⟩⟩
  · rcases hk with rfl | hk
    · exact .inl rfl
    · exact .inr (h.lt k hk).1
  · rcases hor with e | ⟨g, e, hg⟩
    · rw [e]; exact hv
    · rw [e]
      intro h1
      injection h1 with h1
      have := lt_of_block hf
      omega
  · rintro (h1 | h1)
    · exact hb h1
    · exact hv h1
theorem EW.keep {w W : World} {b : Nat} {v : Value} {bs : List UInt8} (h : EW w b v bs W) {fb : Nat} {o : Obj} (hf : w.heap[fb]? = some o) (hb : fb ≠ b) : W.heap[fb]? = some o := (h.kept.block fb (lt_of_block hf) hb).trans hf
theorem EW.bel {w W : World} {b : Nat} {v : Value} {bs : List UInt8} (h : EW w b v bs W) {n : Nat} (hn : n ≤ w.heap.size) (hb : n ≤ b) : Below n w W := h.kept.below hn (fun k hk => by omega)
theorem EW.two {w W W' : World} {b : Nat} {v : Value} {bs : List UInt8} (h : EW w b v bs W) {n : Nat} (hn : n ≤ w.heap.size) (hb : n ≤ b) (k : Kept (two b v) W W') : Below n W W' :=
  k.below (Nat.le_trans hn h.kept.size) (fun g hg => by
    rcases hg with rfl | hg
    · exact hb
    · exact Nat.le_trans hn (h.lt g hg).1)
theorem rd_form2 {w : World} {v : Value} {l : List UInt8} (h : Rd w v l) : ∃ o c, v = .slice o l.length c := by
  rcases h with ⟨rfl, rfl⟩ | ⟨_, c, rfl, _⟩ <;> exact ⟨_, _, rfl⟩
theorem zig_b {n : Int} (h : zig n < 18446744073709551616) : -9223372036854775808 ≤ n ∧ n ≤ 9223372036854775807 := by
  unfold zig at h
  split at h <;> omega
theorem stepE {bs a rest TT : List UInt8} (h : Hid (bs ++ (a ++ rest) = TT)) : Hid ((bs ++ a) ++ rest = TT) := Lib.hid (by rw [List.append_assoc]; exact h.out)
theorem lenE {bs rest TT : List UInt8} {n : Nat} (h : Hid (bs ++ rest = TT)) (hT : Hid (TT.length ≤ n)) : bs.length ≤ n := by
  have h1 := hT.out
  rw [← h.out, List.length_append] at h1
  omega
theorem enEs_drop {es : List En} {k : Nat} (h : k < es.length) : enEs (es.drop k) = enE es[k] ++ enEs (es.drop (k + 1)) := by
  rw [List.drop_eq_getElem_cons h]
  rfl

set_option maxHeartbeats 8000000 in
set_option maxRecDepth 100000 in
theorem bencode (M : Mg) (ve vd : Value) (w : World) (hre : RE w ve M.es) (hrd : Rd w vd M.dt) (hM : OkM M) (hT : (encI M).length ≤ 1000000000) :
    Calls Try.prog 11 #[mgV M ve vd] w fun e w' => ∃ v, e = .returned v ∧ Own w' w.heap.size v (encM M) ∧ Below w.heap.size w w' := by
  obtain ⟨od, cd, hvd⟩ := (rd_form2 hrd)
  obtain ⟨oe, ce, hve, hall⟩ := hre
  subst hvd hve
  have HRD := Lib.hid hrd
  have HALL := Lib.hid hall
  obtain ⟨mk, mfr, mtg, mtm, mix, mlt, mcm, hes, hok, hdt⟩ := hM
  have HOK := Lib.hid hok
  clear hrd hall hok
  obtain ⟨bfr0, bfr1⟩ := zig_b mfr
  obtain ⟨btg0, btg1⟩ := zig_b mtg
  obtain ⟨k, fr, tg, tm, ix, lt, cm, ok, es, dt⟩ := M
  dsimp only at *
  obtain ⟨TT, hTT⟩ : ∃ TT, encI ⟨k, fr, tg, tm, ix, lt, cm, ok, es, dt⟩ = TT := ⟨_, rfl⟩
  have HTL : Hid (TT.length ≤ 1000000000) := by rw [← hTT]; exact hT
  have HTT : Hid (([] : List UInt8) ++ encI ⟨k, fr, tg, tm, ix, lt, cm, ok, es, dt⟩ = TT) := hTT
  unfold encM
  rw [hTT]
  clear hT hTT
  unfold encI at HTT
  dsimp only at HTT
  unfold mgV
  dsimp only
  obtain ⟨WB, hW1⟩ : ∃ WB, (w.alloc (.cells #[.int .u8 (k : Int), .int .i64 fr, .int .i64 tg, .int .u64 (tm : Int), .int .u64 (ix : Int), .int .u64 (lt : Int), .int .u64 (cm : Int), .bool ok, .slice oe es.length ce, .slice od dt.length cd] 49)).alloc (.cells #[.slice none 0 0] 74) = WB := ⟨_, rfl⟩
  have hmb : WB.heap[w.heap.size]? = some (.cells #[.int .u8 (k : Int), .int .i64 fr, .int .i64 tg, .int .u64 (tm : Int), .int .u64 (ix : Int), .int .u64 (lt : Int), .int .u64 (cm : Int), .bool ok, .slice oe es.length ce, .slice od dt.length cd] 49 (0, 0)) := by
    rw [← hW1]
    exact (Below.heap_alloc _ _ _ (by simp)).trans (heap_alloc_new w _)
  have hwb : WB.heap[w.heap.size + 1]? = some (.cells #[.slice none 0 0] 74 (0, 0)) := by
    rw [← hW1]
    have := heap_alloc_new (w.alloc (.cells #[.int .u8 (k : Int), .int .i64 fr, .int .i64 tg, .int .u64 (tm : Int), .int .u64 (ix : Int), .int .u64 (lt : Int), .int .u64 (cm : Int), .bool ok, .slice oe es.length ce, .slice od dt.length cd] 49)) (.cells #[.slice none 0 0] 74)
    simpa using this
  have hB1 : Below w.heap.size w WB := by
    rw [← hW1]
    exact ((Below.refl _ _).alloc (Nat.le_refl _) _).alloc (by simp) _
  have hz1 : WB.heap.size = w.heap.size + 2 := by rw [← hW1]; simp
  have HMB := Lib.hid hmb
  have HB1 := Lib.hid hB1
  have hst : EW WB (w.heap.size + 1) (.slice none 0 0) [] WB := ⟨⟨hwb, World.ownsRow_nil _ _ _ _⟩, Kept.refl _ _⟩
  have HST := Lib.hid hst
  have HW1 := Lib.hid hW1
  clear hmb hwb hB1 hst hW1
  rcases ok with _ | _
  · as_aux_lemma =>
    have hz2 : w.heap.size + 1 < WB.heap.size := by omega
    go_enter Try.func11, Try.ntmps11
    go_upto_region 5 with (fail)
    rw [HW1.out]
    generalize hmbe : w.heap.size = mb at *
    generalize hwbe : mb + 1 = wb at *
    have HEB := Lib.hid hmbe
    have HEW := Lib.hid hwbe
    clear HW1 hmbe
    have hmw : mb ≠ wb := by omega
    have hmw2 : mb < wb := by omega
    have g0 : WB.cell? ⟨mb, 0, none⟩ = some (.int .u8 (k : Int)) := cellk HMB.out rfl
    have g1 : WB.cell? ⟨mb, 1, none⟩ = some (.int .i64 fr) := cellk HMB.out rfl
    have g2 : WB.cell? ⟨mb, 2, none⟩ = some (.int .i64 tg) := cellk HMB.out rfl
    have d0 : IntKind.u64.wrap (k : Int) = (k : Int) := by rw [IntKind.wrap_u64]; omega
    have d1 : IntKind.u64.wrap (es.length : Int) = (es.length : Int) := by rw [IntKind.wrap_u64]; omega
    clear hwbe
    rw [show okN ⟨k, fr, tg, tm, ix, lt, cm, false, es, dt⟩ = 0 from rfl] at HTT
    obtain ⟨u0, hu0⟩ : ∃ u0, Value.slice none 0 0 = u0 := ⟨_, rfl⟩
    obtain ⟨bs0, hbs0⟩ : ∃ z, ([] : List UInt8) = z := ⟨_, rfl⟩
    have HE0 : Hid (EW WB wb u0 bs0 WB) := by rw [← hu0, ← hbs0]; exact HST
    rw [hbs0] at HTT
    have HB0 := HTT
    have hl0 := lenE HB0 HTL
    clear HST HTT hu0 hbs0
    refine wp_region_held_drew (S := fun w' => w'.cell? ⟨mb, 0, none⟩ = some (.int .u8 (k : Int)) ∧ w'.cell? ⟨mb, 1, none⟩ = some (.int .i64 fr) ∧ w'.cell? ⟨mb, 2, none⟩ = some (.int .i64 tg)) (by kernel_rfl) ⟨g0, g1, g2⟩ ?_
    intro hHeld
    refine wpAnyH_take (i := 0) (v := ?_) (by simp only [List.getElem?_toArray, List.getElem?_cons_zero]; rfl) (by kernel_rfl) (by kernel_rfl) (by kernel_rfl) (by intro _ _ _ h; exact h) (Or.inl ⟨by rfl, ?_⟩) (by assumption) ?_
    rotate_left
    · (intro w hSw; (try dsimp only at hSw); go_simp; try with_reducible rfl)
    try simp only [Act.put, List.setIfInBounds_toArray, List.set_cons_zero, List.set_cons_succ]
    refine wpAnyH_take (i := 1) (v := ?_) (by simp only [List.getElem?_toArray, List.getElem?_cons_succ, List.getElem?_cons_zero]; rfl) (by kernel_rfl) (by kernel_rfl) (by kernel_rfl) (by intro _ _ _ h; exact h) (Or.inl ⟨by rfl, ?_⟩) (by assumption) ?_
    rotate_left
    · (intro w hSw; (try dsimp only at hSw); go_simp; try with_reducible rfl)
    try simp only [Act.put, List.setIfInBounds_toArray, List.set_cons_zero, List.set_cons_succ]
    refine wpAnyH_take (i := 2) (v := ?_) (by simp only [List.getElem?_toArray, List.getElem?_cons_succ, List.getElem?_cons_zero]; rfl) (by kernel_rfl) (by kernel_rfl) (by kernel_rfl) (by intro _ _ _ h; exact h) (Or.inl ⟨by rfl, ?_⟩) (by assumption) ?_
    rotate_left
    · (intro w hSw; (try dsimp only at hSw); go_simp; try with_reducible rfl)
    try simp only [Act.put, List.setIfInBounds_toArray, List.set_cons_zero, List.set_cons_succ]
    refine wpAnyH_take (i := 3) (v := ?_) (by simp only [List.getElem?_toArray, List.getElem?_cons_succ, List.getElem?_cons_zero]; rfl) (by kernel_rfl) (by kernel_rfl) (by kernel_rfl) (by intro _ _ _ h; exact h) (Or.inl ⟨by rfl, ?_⟩) (by assumption) ?_
    rotate_left
    · (intro w hSw; (try dsimp only at hSw); go_simp; try with_reducible rfl)
    try simp only [Act.put, List.setIfInBounds_toArray, List.set_cons_zero, List.set_cons_succ]
    refine wpAnyH_take (i := 5) (v := ?_) (by simp only [List.getElem?_toArray, List.getElem?_cons_succ, List.getElem?_cons_zero]; rfl) (by kernel_rfl) (by kernel_rfl) (by kernel_rfl) (by intro _ _ _ h; exact h) (Or.inl ⟨by rfl, ?_⟩) (by assumption) ?_
    rotate_left
    · (intro w hSw; (try dsimp only at hSw); go_simp; try with_reducible rfl)
    try simp only [Act.put, List.setIfInBounds_toArray, List.set_cons_zero, List.set_cons_succ]
    refine wpAnyH_take (i := 6) (v := ?_) (by simp only [List.getElem?_toArray, List.getElem?_cons_succ, List.getElem?_cons_zero]; rfl) (by kernel_rfl) (by kernel_rfl) (by kernel_rfl) (by intro _ _ _ h; exact h) (Or.inl ⟨by rfl, ?_⟩) (by assumption) ?_
    rotate_left
    · (intro w hSw; (try dsimp only at hSw); go_simp; try with_reducible rfl)
    try simp only [Act.put, List.setIfInBounds_toArray, List.set_cons_zero, List.set_cons_succ]
    refine wpAnyH_take (i := 8) (v := ?_) (by simp only [List.getElem?_toArray, List.getElem?_cons_succ, List.getElem?_cons_zero]; rfl) (by kernel_rfl) (by kernel_rfl) (by kernel_rfl) (by intro _ _ _ h; exact h) (Or.inl ⟨by rfl, ?_⟩) (by assumption) ?_
    rotate_left
    · (intro w hSw; (try dsimp only at hSw); go_simp; try with_reducible rfl)
    try simp only [Act.put, List.setIfInBounds_toArray, List.set_cons_zero, List.set_cons_succ]
    refine wpAnyH_take (i := 9) (v := ?_) (by simp only [List.getElem?_toArray, List.getElem?_cons_succ, List.getElem?_cons_zero]; rfl) (by kernel_rfl) (by kernel_rfl) (by kernel_rfl) (by intro _ _ _ h; exact h) (Or.inl ⟨by rfl, ?_⟩) (by assumption) ?_
    rotate_left
    · (intro w hSw; (try dsimp only at hSw); go_simp; try with_reducible rfl)
    try simp only [Act.put, List.setIfInBounds_toArray, List.set_cons_zero, List.set_cons_succ]
    refine wpAnyH_ready (rs := [4]) (by kernel_rfl) (by simp) ?_
    refine AllReadyH.cons (by simp only [List.getElem?_toArray, List.getElem?_cons_succ, List.getElem?_cons_zero]; rfl) (fun K hK => ?_) AllReadyH.nil
    go_simp
    refine (wuint wb WB.heap.size u0 bs0 (k : Int) _ (by omega) (by omega) HE0.out.drew.at_ (by have := HE0.out.drew.kept.size; omega) (by omega)).mono ?_
    intro e W1 hp
    have hret := hp.ret
    subst hret
    obtain ⟨u1, hew, -⟩ := (HE0.out.drew).put hp
    try simp only [Int.toNat_natCast] at hew
    have hcs : W1.cell? ⟨mb, 0, none⟩ = some (.int .u8 (k : Int)) ∧ W1.cell? ⟨mb, 1, none⟩ = some (.int .i64 fr) ∧ W1.cell? ⟨mb, 2, none⟩ = some (.int .i64 tg) := ⟨cellk (hew.keep HMB.out hmw) rfl, cellk (hew.keep HMB.out hmw) rfl, cellk (hew.keep HMB.out hmw) rfl⟩
    have HB1 := stepE HB0
    obtain ⟨bs1, hbs⟩ : ∃ z, bs0 ++ enc k = z := ⟨_, rfl⟩
    rw [hbs] at hew HB1
    have hl1 := lenE HB1 HTL
    have HE1 := Lib.hid hew
    have hzW1 := hew.kept.size
    clear hp hew hbs HB0
    dsimp only
    refine hK.out _ _ hcs (fun hHeld => ?_)
    clear hK K
    try simp only [Act.put, List.setIfInBounds_toArray, List.set_cons_zero, List.set_cons_succ]
    refine wpAnyH_ready (rs := [7]) (by kernel_rfl) (by simp) ?_
    refine AllReadyH.cons (by simp only [List.getElem?_toArray, List.getElem?_cons_succ, List.getElem?_cons_zero]; rfl) (fun K hK => ?_) AllReadyH.nil
    go_simp
    refine (wint wb WB.heap.size u1 bs1 fr W1 bfr0 bfr1 HE1.out.at_ (by have := HE1.out.kept.size; omega) (by omega)).mono ?_
    intro e W2 hp
    have hret := hp.ret
    subst hret
    obtain ⟨u2, hew, -⟩ := (HE1.out).put hp
    try simp only [Int.toNat_natCast, Int.toNat_one, Int.toNat_zero] at hew
    have hcs : W2.cell? ⟨mb, 0, none⟩ = some (.int .u8 (k : Int)) ∧ W2.cell? ⟨mb, 1, none⟩ = some (.int .i64 fr) ∧ W2.cell? ⟨mb, 2, none⟩ = some (.int .i64 tg) := ⟨cellk (hew.keep HMB.out hmw) rfl, cellk (hew.keep HMB.out hmw) rfl, cellk (hew.keep HMB.out hmw) rfl⟩
    have HB2 := stepE HB1
    obtain ⟨bs2, hbs⟩ : ∃ z, bs1 ++ enc (zig fr) = z := ⟨_, rfl⟩
    rw [hbs] at hew HB2
    have hl2 := lenE HB2 HTL
    have HE2 := Lib.hid hew
    have hzW2 := hew.kept.size
    clear hp hew hbs HB1
    dsimp only
    refine hK.out _ _ hcs (fun hHeld => ?_)
    clear hK K
    try simp only [Act.put, List.setIfInBounds_toArray, List.set_cons_zero, List.set_cons_succ]
    refine wpAnyH_ready (rs := [10]) (by kernel_rfl) (by simp) ?_
    refine AllReadyH.cons (by simp only [List.getElem?_toArray, List.getElem?_cons_succ, List.getElem?_cons_zero]; rfl) (fun K hK => ?_) AllReadyH.nil
    go_simp
    refine (wint wb WB.heap.size u2 bs2 tg W2 btg0 btg1 HE2.out.at_ (by have := HE2.out.kept.size; omega) (by omega)).mono ?_
    intro e W3 hp
    have hret := hp.ret
    subst hret
    obtain ⟨u3, hew, -⟩ := (HE2.out).put hp
    try simp only [Int.toNat_natCast, Int.toNat_one, Int.toNat_zero] at hew
    have hcs : W3.cell? ⟨mb, 0, none⟩ = some (.int .u8 (k : Int)) ∧ W3.cell? ⟨mb, 1, none⟩ = some (.int .i64 fr) ∧ W3.cell? ⟨mb, 2, none⟩ = some (.int .i64 tg) := ⟨cellk (hew.keep HMB.out hmw) rfl, cellk (hew.keep HMB.out hmw) rfl, cellk (hew.keep HMB.out hmw) rfl⟩
    have HB3 := stepE HB2
    obtain ⟨bs3, hbs⟩ : ∃ z, bs2 ++ enc (zig tg) = z := ⟨_, rfl⟩
    rw [hbs] at hew HB3
    have hl3 := lenE HB3 HTL
    have HE3 := Lib.hid hew
    have hzW3 := hew.kept.size
    clear hp hew hbs HB2
    dsimp only
    refine hK.out _ _ hcs (fun hHeld => ?_)
    clear hK K
    try simp only [Act.put, List.setIfInBounds_toArray, List.set_cons_zero, List.set_cons_succ]
    refine wpAnyH_done (by kernel_rfl) ?_ _
    clear hHeld g0 g1 g2
    have g3 : W3.cell? ⟨mb, 3, none⟩ = some (.int .u64 (tm : Int)) := cellk (HE3.out.keep HMB.out hmw) rfl
    have g4 : W3.cell? ⟨mb, 4, none⟩ = some (.int .u64 (ix : Int)) := cellk (HE3.out.keep HMB.out hmw) rfl
    have g5 : W3.cell? ⟨mb, 5, none⟩ = some (.int .u64 (lt : Int)) := cellk (HE3.out.keep HMB.out hmw) rfl
    have g6 : W3.cell? ⟨mb, 6, none⟩ = some (.int .u64 (cm : Int)) := cellk (HE3.out.keep HMB.out hmw) rfl
    go_upto_region 6 with (fail)
    refine wp_region_held_drew (S := fun w' => w'.cell? ⟨mb, 3, none⟩ = some (.int .u64 (tm : Int)) ∧ w'.cell? ⟨mb, 4, none⟩ = some (.int .u64 (ix : Int)) ∧ w'.cell? ⟨mb, 5, none⟩ = some (.int .u64 (lt : Int)) ∧ w'.cell? ⟨mb, 6, none⟩ = some (.int .u64 (cm : Int))) (by kernel_rfl) ⟨g3, g4, g5, g6⟩ ?_
    intro hHeld
    refine wpAnyH_take (i := 0) (v := ?_) (by simp only [List.getElem?_toArray, List.getElem?_cons_zero]; rfl) (by kernel_rfl) (by kernel_rfl) (by kernel_rfl) (by intro _ _ _ h; exact h) (Or.inl ⟨by rfl, ?_⟩) (by assumption) ?_
    rotate_left
    · (intro w hSw; (try dsimp only at hSw); go_simp; try with_reducible rfl)
    try simp only [Act.put, List.setIfInBounds_toArray, List.set_cons_zero, List.set_cons_succ]
    refine wpAnyH_take (i := 1) (v := ?_) (by simp only [List.getElem?_toArray, List.getElem?_cons_succ, List.getElem?_cons_zero]; rfl) (by kernel_rfl) (by kernel_rfl) (by kernel_rfl) (by intro _ _ _ h; exact h) (Or.inl ⟨by rfl, ?_⟩) (by assumption) ?_
    rotate_left
    · (intro w hSw; (try dsimp only at hSw); go_simp; try with_reducible rfl)
    try simp only [Act.put, List.setIfInBounds_toArray, List.set_cons_zero, List.set_cons_succ]
    refine wpAnyH_take (i := 2) (v := ?_) (by simp only [List.getElem?_toArray, List.getElem?_cons_succ, List.getElem?_cons_zero]; rfl) (by kernel_rfl) (by kernel_rfl) (by kernel_rfl) (by intro _ _ _ h; exact h) (Or.inl ⟨by rfl, ?_⟩) (by assumption) ?_
    rotate_left
    · (intro w hSw; (try dsimp only at hSw); go_simp; try with_reducible rfl)
    try simp only [Act.put, List.setIfInBounds_toArray, List.set_cons_zero, List.set_cons_succ]
    refine wpAnyH_take (i := 4) (v := ?_) (by simp only [List.getElem?_toArray, List.getElem?_cons_succ, List.getElem?_cons_zero]; rfl) (by kernel_rfl) (by kernel_rfl) (by kernel_rfl) (by intro _ _ _ h; exact h) (Or.inl ⟨by rfl, ?_⟩) (by assumption) ?_
    rotate_left
    · (intro w hSw; (try dsimp only at hSw); go_simp; try with_reducible rfl)
    try simp only [Act.put, List.setIfInBounds_toArray, List.set_cons_zero, List.set_cons_succ]
    refine wpAnyH_take (i := 5) (v := ?_) (by simp only [List.getElem?_toArray, List.getElem?_cons_succ, List.getElem?_cons_zero]; rfl) (by kernel_rfl) (by kernel_rfl) (by kernel_rfl) (by intro _ _ _ h; exact h) (Or.inl ⟨by rfl, ?_⟩) (by assumption) ?_
    rotate_left
    · (intro w hSw; (try dsimp only at hSw); go_simp; try with_reducible rfl)
    try simp only [Act.put, List.setIfInBounds_toArray, List.set_cons_zero, List.set_cons_succ]
    refine wpAnyH_take (i := 7) (v := ?_) (by simp only [List.getElem?_toArray, List.getElem?_cons_succ, List.getElem?_cons_zero]; rfl) (by kernel_rfl) (by kernel_rfl) (by kernel_rfl) (by intro _ _ _ h; exact h) (Or.inl ⟨by rfl, ?_⟩) (by assumption) ?_
    rotate_left
    · (intro w hSw; (try dsimp only at hSw); go_simp; try with_reducible rfl)
    try simp only [Act.put, List.setIfInBounds_toArray, List.set_cons_zero, List.set_cons_succ]
    refine wpAnyH_take (i := 8) (v := ?_) (by simp only [List.getElem?_toArray, List.getElem?_cons_succ, List.getElem?_cons_zero]; rfl) (by kernel_rfl) (by kernel_rfl) (by kernel_rfl) (by intro _ _ _ h; exact h) (Or.inl ⟨by rfl, ?_⟩) (by assumption) ?_
    rotate_left
    · (intro w hSw; (try dsimp only at hSw); go_simp; try with_reducible rfl)
    try simp only [Act.put, List.setIfInBounds_toArray, List.set_cons_zero, List.set_cons_succ]
    refine wpAnyH_take (i := 10) (v := ?_) (by simp only [List.getElem?_toArray, List.getElem?_cons_succ, List.getElem?_cons_zero]; rfl) (by kernel_rfl) (by kernel_rfl) (by kernel_rfl) (by intro _ _ _ h; exact h) (Or.inl ⟨by rfl, ?_⟩) (by assumption) ?_
    rotate_left
    · (intro w hSw; (try dsimp only at hSw); go_simp; try with_reducible rfl)
    try simp only [Act.put, List.setIfInBounds_toArray, List.set_cons_zero, List.set_cons_succ]
    refine wpAnyH_take (i := 11) (v := ?_) (by simp only [List.getElem?_toArray, List.getElem?_cons_succ, List.getElem?_cons_zero]; rfl) (by kernel_rfl) (by kernel_rfl) (by kernel_rfl) (by intro _ _ _ h; exact h) (Or.inl ⟨by rfl, ?_⟩) (by assumption) ?_
    rotate_left
    · (intro w hSw; (try dsimp only at hSw); go_simp; try with_reducible rfl)
    try simp only [Act.put, List.setIfInBounds_toArray, List.set_cons_zero, List.set_cons_succ]
    refine wpAnyH_take (i := 13) (v := ?_) (by simp only [List.getElem?_toArray, List.getElem?_cons_succ, List.getElem?_cons_zero]; rfl) (by kernel_rfl) (by kernel_rfl) (by kernel_rfl) (by intro _ _ _ h; exact h) (Or.inl ⟨by rfl, ?_⟩) (by assumption) ?_
    rotate_left
    · (intro w hSw; (try dsimp only at hSw); go_simp; try with_reducible rfl)
    try simp only [Act.put, List.setIfInBounds_toArray, List.set_cons_zero, List.set_cons_succ]
    refine wpAnyH_ready (rs := [3]) (by kernel_rfl) (by simp) ?_
    refine AllReadyH.cons (by simp only [List.getElem?_toArray, List.getElem?_cons_succ, List.getElem?_cons_zero]; rfl) (fun K hK => ?_) AllReadyH.nil
    go_simp
    refine (wuint wb WB.heap.size u3 bs3 (tm : Int) _ (by omega) (by omega) HE3.out.drew.at_ (by have := HE3.out.drew.kept.size; omega) (by omega)).mono ?_
    intro e W4 hp
    have hret := hp.ret
    subst hret
    obtain ⟨u4, hew, -⟩ := (HE3.out.drew).put hp
    try simp only [Int.toNat_natCast] at hew
    have hcs : W4.cell? ⟨mb, 3, none⟩ = some (.int .u64 (tm : Int)) ∧ W4.cell? ⟨mb, 4, none⟩ = some (.int .u64 (ix : Int)) ∧ W4.cell? ⟨mb, 5, none⟩ = some (.int .u64 (lt : Int)) ∧ W4.cell? ⟨mb, 6, none⟩ = some (.int .u64 (cm : Int)) := ⟨cellk (hew.keep HMB.out hmw) rfl, cellk (hew.keep HMB.out hmw) rfl, cellk (hew.keep HMB.out hmw) rfl, cellk (hew.keep HMB.out hmw) rfl⟩
    have HB4 := stepE HB3
    obtain ⟨bs4, hbs⟩ : ∃ z, bs3 ++ enc tm = z := ⟨_, rfl⟩
    rw [hbs] at hew HB4
    have hl4 := lenE HB4 HTL
    have HE4 := Lib.hid hew
    have hzW4 := hew.kept.size
    clear hp hew hbs HB3
    dsimp only
    refine hK.out _ _ hcs (fun hHeld => ?_)
    clear hK K
    try simp only [Act.put, List.setIfInBounds_toArray, List.set_cons_zero, List.set_cons_succ]
    refine wpAnyH_ready (rs := [6]) (by kernel_rfl) (by simp) ?_
    refine AllReadyH.cons (by simp only [List.getElem?_toArray, List.getElem?_cons_succ, List.getElem?_cons_zero]; rfl) (fun K hK => ?_) AllReadyH.nil
    go_simp
    refine (wuint wb WB.heap.size u4 bs4 (ix : Int) W4 (by omega) (by omega) HE4.out.at_ (by have := HE4.out.kept.size; omega) (by omega)).mono ?_
    intro e W5 hp
    have hret := hp.ret
    subst hret
    obtain ⟨u5, hew, -⟩ := (HE4.out).put hp
    try simp only [Int.toNat_natCast] at hew
    have hcs : W5.cell? ⟨mb, 3, none⟩ = some (.int .u64 (tm : Int)) ∧ W5.cell? ⟨mb, 4, none⟩ = some (.int .u64 (ix : Int)) ∧ W5.cell? ⟨mb, 5, none⟩ = some (.int .u64 (lt : Int)) ∧ W5.cell? ⟨mb, 6, none⟩ = some (.int .u64 (cm : Int)) := ⟨cellk (hew.keep HMB.out hmw) rfl, cellk (hew.keep HMB.out hmw) rfl, cellk (hew.keep HMB.out hmw) rfl, cellk (hew.keep HMB.out hmw) rfl⟩
    have HB5 := stepE HB4
    obtain ⟨bs5, hbs⟩ : ∃ z, bs4 ++ enc ix = z := ⟨_, rfl⟩
    rw [hbs] at hew HB5
    have hl5 := lenE HB5 HTL
    have HE5 := Lib.hid hew
    have hzW5 := hew.kept.size
    clear hp hew hbs HB4
    dsimp only
    refine hK.out _ _ hcs (fun hHeld => ?_)
    clear hK K
    try simp only [Act.put, List.setIfInBounds_toArray, List.set_cons_zero, List.set_cons_succ]
    refine wpAnyH_ready (rs := [9]) (by kernel_rfl) (by simp) ?_
    refine AllReadyH.cons (by simp only [List.getElem?_toArray, List.getElem?_cons_succ, List.getElem?_cons_zero]; rfl) (fun K hK => ?_) AllReadyH.nil
    go_simp
    refine (wuint wb WB.heap.size u5 bs5 (lt : Int) W5 (by omega) (by omega) HE5.out.at_ (by have := HE5.out.kept.size; omega) (by omega)).mono ?_
    intro e W6 hp
    have hret := hp.ret
    subst hret
    obtain ⟨u6, hew, -⟩ := (HE5.out).put hp
    try simp only [Int.toNat_natCast] at hew
    have hcs : W6.cell? ⟨mb, 3, none⟩ = some (.int .u64 (tm : Int)) ∧ W6.cell? ⟨mb, 4, none⟩ = some (.int .u64 (ix : Int)) ∧ W6.cell? ⟨mb, 5, none⟩ = some (.int .u64 (lt : Int)) ∧ W6.cell? ⟨mb, 6, none⟩ = some (.int .u64 (cm : Int)) := ⟨cellk (hew.keep HMB.out hmw) rfl, cellk (hew.keep HMB.out hmw) rfl, cellk (hew.keep HMB.out hmw) rfl, cellk (hew.keep HMB.out hmw) rfl⟩
    have HB6 := stepE HB5
    obtain ⟨bs6, hbs⟩ : ∃ z, bs5 ++ enc lt = z := ⟨_, rfl⟩
    rw [hbs] at hew HB6
    have hl6 := lenE HB6 HTL
    have HE6 := Lib.hid hew
    have hzW6 := hew.kept.size
    clear hp hew hbs HB5
    dsimp only
    refine hK.out _ _ hcs (fun hHeld => ?_)
    clear hK K
    try simp only [Act.put, List.setIfInBounds_toArray, List.set_cons_zero, List.set_cons_succ]
    refine wpAnyH_ready (rs := [12]) (by kernel_rfl) (by simp) ?_
    refine AllReadyH.cons (by simp only [List.getElem?_toArray, List.getElem?_cons_succ, List.getElem?_cons_zero]; rfl) (fun K hK => ?_) AllReadyH.nil
    go_simp
    refine (wuint wb WB.heap.size u6 bs6 (cm : Int) W6 (by omega) (by omega) HE6.out.at_ (by have := HE6.out.kept.size; omega) (by omega)).mono ?_
    intro e W7 hp
    have hret := hp.ret
    subst hret
    obtain ⟨u7, hew, -⟩ := (HE6.out).put hp
    try simp only [Int.toNat_natCast] at hew
    have hcs : W7.cell? ⟨mb, 3, none⟩ = some (.int .u64 (tm : Int)) ∧ W7.cell? ⟨mb, 4, none⟩ = some (.int .u64 (ix : Int)) ∧ W7.cell? ⟨mb, 5, none⟩ = some (.int .u64 (lt : Int)) ∧ W7.cell? ⟨mb, 6, none⟩ = some (.int .u64 (cm : Int)) := ⟨cellk (hew.keep HMB.out hmw) rfl, cellk (hew.keep HMB.out hmw) rfl, cellk (hew.keep HMB.out hmw) rfl, cellk (hew.keep HMB.out hmw) rfl⟩
    have HB7 := stepE HB6
    obtain ⟨bs7, hbs⟩ : ∃ z, bs6 ++ enc cm = z := ⟨_, rfl⟩
    rw [hbs] at hew HB7
    have hl7 := lenE HB7 HTL
    have HE7 := Lib.hid hew
    have hzW7 := hew.kept.size
    clear hp hew hbs HB6
    dsimp only
    refine hK.out _ _ hcs (fun hHeld => ?_)
    clear hK K
    try simp only [Act.put, List.setIfInBounds_toArray, List.set_cons_zero, List.set_cons_succ]
    refine wpAnyH_ready (rs := [14]) (by kernel_rfl) (by simp) ?_
    refine AllReadyH.cons (by simp only [List.getElem?_toArray, List.getElem?_cons_succ, List.getElem?_cons_zero]; rfl) (fun K hK => ?_) AllReadyH.nil
    go_simp
    refine (wuint wb WB.heap.size u7 bs7 0 W7 (by omega) (by omega) HE7.out.at_ (by have := HE7.out.kept.size; omega) (by omega)).mono ?_
    intro e W8 hp
    have hret := hp.ret
    subst hret
    obtain ⟨u8, hew, -⟩ := (HE7.out).put hp
    try simp only [Int.toNat_zero] at hew
    have hcs : W8.cell? ⟨mb, 3, none⟩ = some (.int .u64 (tm : Int)) ∧ W8.cell? ⟨mb, 4, none⟩ = some (.int .u64 (ix : Int)) ∧ W8.cell? ⟨mb, 5, none⟩ = some (.int .u64 (lt : Int)) ∧ W8.cell? ⟨mb, 6, none⟩ = some (.int .u64 (cm : Int)) := ⟨cellk (hew.keep HMB.out hmw) rfl, cellk (hew.keep HMB.out hmw) rfl, cellk (hew.keep HMB.out hmw) rfl, cellk (hew.keep HMB.out hmw) rfl⟩
    have HB8 := stepE HB7
    obtain ⟨bs8, hbs⟩ : ∃ z, bs7 ++ enc 0 = z := ⟨_, rfl⟩
    rw [hbs] at hew HB8
    have hl8 := lenE HB8 HTL
    have HE8 := Lib.hid hew
    have hzW8 := hew.kept.size
    clear hp hew hbs HB7
    dsimp only
    refine hK.out _ _ hcs (fun hHeld => ?_)
    clear hK K
    try simp only [Act.put, List.setIfInBounds_toArray, List.set_cons_zero, List.set_cons_succ]
    refine wpAnyH_done (by kernel_rfl) ?_ _
    clear hHeld g3 g4 g5 g6
    have g8 : W8.cell? ⟨mb, 8, none⟩ = some (.slice oe es.length ce) := cellk (HE8.out.keep HMB.out hmw) rfl
    go_wp2_with fail
    refine (wuint wb WB.heap.size u8 bs8 (es.length : Int) _ (by omega) (by omega) HE8.out.at_ (by have := HE8.out.kept.size; omega) (by omega)).mono ?_
    intro e W9 hp
    have hret := hp.ret
    subst hret
    obtain ⟨u9, hew, -⟩ := (HE8.out).put hp
    simp only [Int.toNat_natCast] at hew
    have HB9 := stepE HB8
    obtain ⟨bs9, hbs⟩ : ∃ z, bs8 ++ enc es.length = z := ⟨_, rfl⟩
    rw [hbs] at hew HB9
    have HE9 := Lib.hid hew
    have g9 : W9.cell? ⟨mb, 8, none⟩ = some (.slice oe es.length ce) := cellk (hew.keep HMB.out hmw) rfl
    have hzW9 := hew.kept.size
    clear hp hew hbs HB8 g8 HE8
    go_wp2_with fail
    go_loopw [46] (fun i wr => ∃ (j : Nat) (u : Value) (bs : List UInt8), j ≤ es.length ∧ i = .int .i64 (j : Int) ∧ Hid (EW WB wb u bs wr) ∧ Hid (bs ++ (enEs (es.drop j) ++ encB dt) = TT)) (fun i _ => es.length - (intOf i).toNat)
    case atStart => exact ⟨0, u9, bs9, by omega, rfl, HE9, HB9⟩
    case round =>
      obtain ⟨j, u0, bs0, hj, rfl, HE0, HB⟩ := hrel
      generalize wr = wi at *
      have hlow : ∀ p v, w.cell? p = some v → p.block < mb := fun p v h => by
        have h1 := World.block_lt_of_cell? w p h
        rw [HEB.out] at h1
        exact h1
      have hbw : Below mb w wi := HB1.out.trans (HE0.out.bel (by omega) (by omega))
      by_cases hlt : j < es.length
      · have hx : es[j]? = some es[j] := List.getElem?_eq_getElem hlt
        obtain ⟨bb, off, hoe, hat⟩ := HALL.out j _ hx
        subst hoe
        have hxo := HOK.out es[j] (List.getElem_mem hlt)
        have hdr := enEs_drop hlt
        have hjI : (j : Int) < (es.length : Int) := by omega
        generalize es[j] = x at *
        obtain ⟨xt, xs, xn, xl⟩ := x
        obtain ⟨xv, z0, z1, z2, z3, hxr⟩ := hat
        dsimp only at z0 z1 z2 z3 hxr
        obtain ⟨ox, cx, rfl⟩ := (rd_form2 hxr)
        have y0 : wi.cell? ⟨bb, off + j * 4, none⟩ = some (.int .u64 (xt : Int)) := (hbw.cell (hlow _ _ z0)).trans z0
        have y1 : wi.cell? ⟨bb, off + j * 4 + 1, none⟩ = some (.int .u64 (xs : Int)) := (hbw.cell (hlow _ _ z1)).trans z1
        have y2 : wi.cell? ⟨bb, off + j * 4 + 2, none⟩ = some (.int .u64 (xn : Int)) := (hbw.cell (hlow _ _ z2)).trans z2
        have y3 : wi.cell? ⟨bb, off + j * 4 + 3, none⟩ = some (.slice ox xl.length cx) := (hbw.cell (hlow _ _ z3)).trans z3
        have ybl := World.block_lt_of_cell? wi _ y0
        simp only at ybl
        have HRB : Hid (∀ W, Below mb w W → Rd W (.slice ox xl.length cx) xl) := Lib.hid (fun W hb => hxr.below (by rw [HEB.out]; exact hb))
        have HB0 : Hid (bs0 ++ (enc xt ++ (enc xs ++ (enc xn ++ (encB xl ++ (enEs (es.drop (j + 1)) ++ encB dt))))) = TT) := Lib.hid (by
          have h5 := HB.out
          rw [hdr] at h5
          simpa [enE, List.append_assoc] using h5)
        obtain ⟨tmb, ssb, nmb, clb'⟩ := hxo
        dsimp only at tmb ssb nmb clb'
        have hl0 := lenE HB0 HTL
        have hWF := heap_alloc_new wi (.cells #[.int .u64 (xt : Int), .int .u64 (xs : Int), .int .u64 (xn : Int), .slice ox xl.length cx] 51)
        obtain ⟨wf, hwf⟩ : ∃ wf, wi.alloc (.cells #[.int .u64 (xt : Int), .int .u64 (xs : Int), .int .u64 (xn : Int), .slice ox xl.length cx] 51) = wf := ⟨_, rfl⟩
        have hef : EW WB wb u0 bs0 wf := by rw [← hwf]; exact HE0.out.alloc _
        rw [hwf] at hWF
        have hfb : wi.heap.size ≠ wb := by have := lt_of_block HE0.out.at_.cell; omega
        have hfv0 : u0.ownBlock ≠ some wi.heap.size := fun h => by have := (HE0.out.lt _ h).2; omega
        have hzf : wi.heap.size < wf.heap.size := lt_of_block hWF
        have HEF := Lib.hid hef
        have HX0 := Lib.hid hWF
        have hziw := hbw.size
        have HBW := Lib.hid hbw
        clear hx hdr z0 z1 z2 z3 hxr hef hWF HB HE0 hbw hlow
        go_upto_region 11 with (fail)
        try rw [hwf]
        generalize wi.heap.size = xb at *
        clear hwf y0 y1 y2 y3 ybl
        have hzW0 := HEF.out.kept.size
        have g0 : wf.cell? ⟨xb, 0, none⟩ = some (.int .u64 (xt : Int)) := cellk HX0.out rfl
        have g1 : wf.cell? ⟨xb, 1, none⟩ = some (.int .u64 (xs : Int)) := cellk HX0.out rfl
        have g2 : wf.cell? ⟨xb, 2, none⟩ = some (.int .u64 (xn : Int)) := cellk HX0.out rfl
        have g3 : wf.cell? ⟨xb, 3, none⟩ = some (.slice ox xl.length cx) := cellk HX0.out rfl
        refine wp_region_held_drew (S := fun w' => w'.cell? ⟨xb, 0, none⟩ = some (.int .u64 (xt : Int)) ∧ w'.cell? ⟨xb, 1, none⟩ = some (.int .u64 (xs : Int)) ∧ w'.cell? ⟨xb, 2, none⟩ = some (.int .u64 (xn : Int)) ∧ w'.cell? ⟨xb, 3, none⟩ = some (.slice ox xl.length cx)) (by kernel_rfl) ⟨g0, g1, g2, g3⟩ ?_
        intro hHeld
        refine wpAnyH_take (i := 0) (v := ?_) (by simp only [List.getElem?_toArray, List.getElem?_cons_zero]; rfl) (by kernel_rfl) (by kernel_rfl) (by kernel_rfl) (by intro _ _ _ h; exact h) (Or.inl ⟨by rfl, ?_⟩) (by assumption) ?_
        rotate_left
        · (intro w hSw; (try dsimp only at hSw); go_simp; try with_reducible rfl)
        try simp only [Act.put, List.setIfInBounds_toArray, List.set_cons_zero, List.set_cons_succ]
        refine wpAnyH_take (i := 1) (v := ?_) (by simp only [List.getElem?_toArray, List.getElem?_cons_succ, List.getElem?_cons_zero]; rfl) (by kernel_rfl) (by kernel_rfl) (by kernel_rfl) (by intro _ _ _ h; exact h) (Or.inl ⟨by rfl, ?_⟩) (by assumption) ?_
        rotate_left
        · (intro w hSw; (try dsimp only at hSw); go_simp; try with_reducible rfl)
        try simp only [Act.put, List.setIfInBounds_toArray, List.set_cons_zero, List.set_cons_succ]
        refine wpAnyH_take (i := 2) (v := ?_) (by simp only [List.getElem?_toArray, List.getElem?_cons_succ, List.getElem?_cons_zero]; rfl) (by kernel_rfl) (by kernel_rfl) (by kernel_rfl) (by intro _ _ _ h; exact h) (Or.inl ⟨by rfl, ?_⟩) (by assumption) ?_
        rotate_left
        · (intro w hSw; (try dsimp only at hSw); go_simp; try with_reducible rfl)
        try simp only [Act.put, List.setIfInBounds_toArray, List.set_cons_zero, List.set_cons_succ]
        refine wpAnyH_take (i := 4) (v := ?_) (by simp only [List.getElem?_toArray, List.getElem?_cons_succ, List.getElem?_cons_zero]; rfl) (by kernel_rfl) (by kernel_rfl) (by kernel_rfl) (by intro _ _ _ h; exact h) (Or.inl ⟨by rfl, ?_⟩) (by assumption) ?_
        rotate_left
        · (intro w hSw; (try dsimp only at hSw); go_simp; try with_reducible rfl)
        try simp only [Act.put, List.setIfInBounds_toArray, List.set_cons_zero, List.set_cons_succ]
        refine wpAnyH_take (i := 5) (v := ?_) (by simp only [List.getElem?_toArray, List.getElem?_cons_succ, List.getElem?_cons_zero]; rfl) (by kernel_rfl) (by kernel_rfl) (by kernel_rfl) (by intro _ _ _ h; exact h) (Or.inl ⟨by rfl, ?_⟩) (by assumption) ?_
        rotate_left
        · (intro w hSw; (try dsimp only at hSw); go_simp; try with_reducible rfl)
        try simp only [Act.put, List.setIfInBounds_toArray, List.set_cons_zero, List.set_cons_succ]
        refine wpAnyH_take (i := 7) (v := ?_) (by simp only [List.getElem?_toArray, List.getElem?_cons_succ, List.getElem?_cons_zero]; rfl) (by kernel_rfl) (by kernel_rfl) (by kernel_rfl) (by intro _ _ _ h; exact h) (Or.inl ⟨by rfl, ?_⟩) (by assumption) ?_
        rotate_left
        · (intro w hSw; (try dsimp only at hSw); go_simp; try with_reducible rfl)
        try simp only [Act.put, List.setIfInBounds_toArray, List.set_cons_zero, List.set_cons_succ]
        refine wpAnyH_take (i := 8) (v := ?_) (by simp only [List.getElem?_toArray, List.getElem?_cons_succ, List.getElem?_cons_zero]; rfl) (by kernel_rfl) (by kernel_rfl) (by kernel_rfl) (by intro _ _ _ h; exact h) (Or.inl ⟨by rfl, ?_⟩) (by assumption) ?_
        rotate_left
        · (intro w hSw; (try dsimp only at hSw); go_simp; try with_reducible rfl)
        try simp only [Act.put, List.setIfInBounds_toArray, List.set_cons_zero, List.set_cons_succ]
        refine wpAnyH_take (i := 10) (v := ?_) (by simp only [List.getElem?_toArray, List.getElem?_cons_succ, List.getElem?_cons_zero]; rfl) (by kernel_rfl) (by kernel_rfl) (by kernel_rfl) (by intro _ _ _ h; exact h) (Or.inl ⟨by rfl, ?_⟩) (by assumption) ?_
        rotate_left
        · (intro w hSw; (try dsimp only at hSw); go_simp; try with_reducible rfl)
        try simp only [Act.put, List.setIfInBounds_toArray, List.set_cons_zero, List.set_cons_succ]
        refine wpAnyH_take (i := 11) (v := ?_) (by simp only [List.getElem?_toArray, List.getElem?_cons_succ, List.getElem?_cons_zero]; rfl) (by kernel_rfl) (by kernel_rfl) (by kernel_rfl) (by intro _ _ _ h; exact h) (Or.inl ⟨by rfl, ?_⟩) (by assumption) ?_
        rotate_left
        · (intro w hSw; (try dsimp only at hSw); go_simp; try with_reducible rfl)
        try simp only [Act.put, List.setIfInBounds_toArray, List.set_cons_zero, List.set_cons_succ]
        refine wpAnyH_ready (rs := [3]) (by kernel_rfl) (by simp) ?_
        refine AllReadyH.cons (by simp only [List.getElem?_toArray, List.getElem?_cons_succ, List.getElem?_cons_zero]; rfl) (fun K hK => ?_) AllReadyH.nil
        go_simp
        refine (wuint wb WB.heap.size u0 bs0 (xt : Int) _ (by omega) (by omega) HEF.out.drew.at_ (by have := HEF.out.drew.kept.size; omega) (by omega)).mono ?_
        intro e V1 hp
        have hret := hp.ret
        subst hret
        obtain ⟨u1, hew, hoth⟩ := (HEF.out.drew).put hp
        obtain ⟨hfv1, hbox⟩ := hoth _ _ (show wf.drew.heap[xb]? = _ from HX0.out) hfb hfv0
        simp only [Int.toNat_natCast] at hew
        have hcs : V1.cell? ⟨xb, 0, none⟩ = some (.int .u64 (xt : Int)) ∧ V1.cell? ⟨xb, 1, none⟩ = some (.int .u64 (xs : Int)) ∧ V1.cell? ⟨xb, 2, none⟩ = some (.int .u64 (xn : Int)) ∧ V1.cell? ⟨xb, 3, none⟩ = some (.slice ox xl.length cx) := ⟨cellk hbox rfl, cellk hbox rfl, cellk hbox rfl, cellk hbox rfl⟩
        have HB1 := stepE HB0
        obtain ⟨bs1, hbs⟩ : ∃ z, bs0 ++ enc xt = z := ⟨_, rfl⟩
        rw [hbs] at hew HB1
        have hl1 := lenE HB1 HTL
        have HE1 := Lib.hid hew
        have HX1 := Lib.hid hbox
        have hzV1 := hew.kept.size
        clear hp hew hbs hoth hbox HB0
        dsimp only
        refine hK.out _ _ hcs (fun hHeld => ?_)
        clear hK K
        try simp only [Act.put, List.setIfInBounds_toArray, List.set_cons_zero, List.set_cons_succ]
        refine wpAnyH_ready (rs := [6]) (by kernel_rfl) (by simp) ?_
        refine AllReadyH.cons (by simp only [List.getElem?_toArray, List.getElem?_cons_succ, List.getElem?_cons_zero]; rfl) (fun K hK => ?_) AllReadyH.nil
        go_simp
        refine (wuint wb WB.heap.size u1 bs1 (xs : Int) V1 (by omega) (by omega) HE1.out.at_ (by have := HE1.out.kept.size; omega) (by omega)).mono ?_
        intro e V2 hp
        have hret := hp.ret
        subst hret
        obtain ⟨u2, hew, hoth⟩ := (HE1.out).put hp
        obtain ⟨hfv2, hbox⟩ := hoth _ _ HX1.out hfb hfv1
        simp only [Int.toNat_natCast] at hew
        have hcs : V2.cell? ⟨xb, 0, none⟩ = some (.int .u64 (xt : Int)) ∧ V2.cell? ⟨xb, 1, none⟩ = some (.int .u64 (xs : Int)) ∧ V2.cell? ⟨xb, 2, none⟩ = some (.int .u64 (xn : Int)) ∧ V2.cell? ⟨xb, 3, none⟩ = some (.slice ox xl.length cx) := ⟨cellk hbox rfl, cellk hbox rfl, cellk hbox rfl, cellk hbox rfl⟩
        have HB2 := stepE HB1
        obtain ⟨bs2, hbs⟩ : ∃ z, bs1 ++ enc xs = z := ⟨_, rfl⟩
        rw [hbs] at hew HB2
        have hl2 := lenE HB2 HTL
        have HE2 := Lib.hid hew
        have HX2 := Lib.hid hbox
        have hzV2 := hew.kept.size
        clear hp hew hbs hoth hbox HB1
        dsimp only
        refine hK.out _ _ hcs (fun hHeld => ?_)
        clear hK K
        try simp only [Act.put, List.setIfInBounds_toArray, List.set_cons_zero, List.set_cons_succ]
        refine wpAnyH_ready (rs := [9]) (by kernel_rfl) (by simp) ?_
        refine AllReadyH.cons (by simp only [List.getElem?_toArray, List.getElem?_cons_succ, List.getElem?_cons_zero]; rfl) (fun K hK => ?_) AllReadyH.nil
        go_simp
        refine (wuint wb WB.heap.size u2 bs2 (xn : Int) V2 (by omega) (by omega) HE2.out.at_ (by have := HE2.out.kept.size; omega) (by omega)).mono ?_
        intro e V3 hp
        have hret := hp.ret
        subst hret
        obtain ⟨u3, hew, hoth⟩ := (HE2.out).put hp
        obtain ⟨hfv3, hbox⟩ := hoth _ _ HX2.out hfb hfv2
        simp only [Int.toNat_natCast] at hew
        have hcs : V3.cell? ⟨xb, 0, none⟩ = some (.int .u64 (xt : Int)) ∧ V3.cell? ⟨xb, 1, none⟩ = some (.int .u64 (xs : Int)) ∧ V3.cell? ⟨xb, 2, none⟩ = some (.int .u64 (xn : Int)) ∧ V3.cell? ⟨xb, 3, none⟩ = some (.slice ox xl.length cx) := ⟨cellk hbox rfl, cellk hbox rfl, cellk hbox rfl, cellk hbox rfl⟩
        have HB3 := stepE HB2
        obtain ⟨bs3, hbs⟩ : ∃ z, bs2 ++ enc xn = z := ⟨_, rfl⟩
        rw [hbs] at hew HB3
        have hl3 := lenE HB3 HTL
        have HE3 := Lib.hid hew
        have HX3 := Lib.hid hbox
        have hzV3 := hew.kept.size
        clear hp hew hbs hoth hbox HB2
        dsimp only
        refine hK.out _ _ hcs (fun hHeld => ?_)
        clear hK K
        try simp only [Act.put, List.setIfInBounds_toArray, List.set_cons_zero, List.set_cons_succ]
        refine wpAnyH_ready (rs := [12]) (by kernel_rfl) (by simp) ?_
        refine AllReadyH.cons (by simp only [List.getElem?_toArray, List.getElem?_cons_succ, List.getElem?_cons_zero]; rfl) (fun K hK => ?_) AllReadyH.nil
        go_simp
        refine (wbytes wb WB.heap.size u3 bs3 (.slice ox xl.length cx) xl V3 HE3.out.at_ (by have := HE3.out.kept.size; omega) (HRB.out _ (HB1.out.trans (HE3.out.bel (by omega) (by omega)))) (fun w' hk => HRB.out _ ((HB1.out.trans (HE3.out.bel (by omega) (by omega))).trans (HE3.out.two (by omega) (by omega) hk))) (by omega)).mono ?_
        intro e V4 hp
        have hret := hp.ret
        subst hret
        obtain ⟨u4, hew, hoth⟩ := (HE3.out).put hp
        obtain ⟨hfv4, hbox⟩ := hoth _ _ HX3.out hfb hfv3
        have hcs : V4.cell? ⟨xb, 0, none⟩ = some (.int .u64 (xt : Int)) ∧ V4.cell? ⟨xb, 1, none⟩ = some (.int .u64 (xs : Int)) ∧ V4.cell? ⟨xb, 2, none⟩ = some (.int .u64 (xn : Int)) ∧ V4.cell? ⟨xb, 3, none⟩ = some (.slice ox xl.length cx) := ⟨cellk hbox rfl, cellk hbox rfl, cellk hbox rfl, cellk hbox rfl⟩
        have HB4 := stepE HB3
        obtain ⟨bs4, hbs⟩ : ∃ z, bs3 ++ encB xl = z := ⟨_, rfl⟩
        rw [hbs] at hew HB4
        have hl4 := lenE HB4 HTL
        have HE4 := Lib.hid hew
        have HX4 := Lib.hid hbox
        have hzV4 := hew.kept.size
        clear hp hew hbs hoth hbox HB3
        dsimp only
        refine hK.out _ _ hcs (fun hHeld => ?_)
        clear hK K
        try simp only [Act.put, List.setIfInBounds_toArray, List.set_cons_zero, List.set_cons_succ]
        refine wpAnyH_done (by kernel_rfl) ?_ _
        clear hHeld g0 g1 g2 g3
        go_wp2_with fail
        go_roundw
        case rel => exact ⟨j + 1, u4, bs4, by omega, by go_num, HE4, HB4⟩
        case measure => simp [intOf]; omega
      · obtain rfl : j = es.length := by omega
        have hfin : bs0 ++ encB dt = TT := by
          have h5 := HB.out
          simpa [enEs] using h5
        have hl0 := lenE HB HTL
        have HFIN := Lib.hid hfin
        have hdl : dt.length ≤ 1048576 := hdt
        have g10 : wi.cell? ⟨mb, 9, none⟩ = some (.slice od dt.length cd) := cellk (HE0.out.keep HMB.out hmw) rfl
        have HRB : Hid (∀ W, Below mb w W → Rd W (.slice od dt.length cd) dt) := Lib.hid (fun W hb => HRD.out.below (by rw [HEB.out]; exact hb))
        have HBW := Lib.hid hbw
        clear hfin hbw hlow HB
        go_wp2_with fail
        refine (wbytes wb WB.heap.size u0 bs0 (.slice od dt.length cd) dt _ HE0.out.at_ (by have := HE0.out.kept.size; omega) (HRB.out _ HBW.out) (fun w' hk => HRB.out _ (HBW.out.trans (HE0.out.two (by omega) (by omega) hk))) (by omega)).mono ?_
        intro e Va hp
        have hret := hp.ret
        subst hret
        obtain ⟨ua, hew, -⟩ := (HE0.out).put hp
        rw [HFIN.out] at hew
        have HEa := Lib.hid hew
        have hzVa := hew.kept.size
        clear hp hew
        go_wp2_with fail
        refine (wdone wb WB.heap.size ua TT _ HEa.out.at_ (by have := HTL.out; omega)).mono ?_
        rintro e Vb ⟨v1, rfl, ho1, hb1⟩
        have HO1 := Lib.hid ho1
        have HBb : Hid (Below mb w Vb) := Lib.hid ((HB1.out.trans (HEa.out.bel (by omega) (by omega))).trans (hb1.mono (by omega)))
        clear ho1 hb1
        go_wp2_with fail
        refine (sealC v1 TT _ (Rd.of_own HO1.out) (by have := HTL.out; omega)).mono ?_
        rintro e Vc ⟨v2, rfl, ho2, hb2⟩
        have hzb : mb ≤ Vb.heap.size := by rw [← HEB.out]; exact HBb.out.size
        have HFo := Lib.hid (own_base ho2 hzb)
        have HFb := Lib.hid (HBb.out.trans (hb2.mono hzb))
        clear ho2 hb2
        go_wp2_with fail
        go_ret
        exact ⟨v2, rfl, by first | exact HFo.out | (rw [HEB.out]; exact HFo.out), by rw [HEB.out]; exact HFb.out⟩
  · as_aux_lemma =>
    have hz2 : w.heap.size + 1 < WB.heap.size := by omega
    go_enter Try.func11, Try.ntmps11
    go_upto_region 5 with (fail)
    rw [HW1.out]
    generalize hmbe : w.heap.size = mb at *
    generalize hwbe : mb + 1 = wb at *
    have HEB := Lib.hid hmbe
    have HEW := Lib.hid hwbe
    clear HW1 hmbe
    have hmw : mb ≠ wb := by omega
    have hmw2 : mb < wb := by omega
    have g0 : WB.cell? ⟨mb, 0, none⟩ = some (.int .u8 (k : Int)) := cellk HMB.out rfl
    have g1 : WB.cell? ⟨mb, 1, none⟩ = some (.int .i64 fr) := cellk HMB.out rfl
    have g2 : WB.cell? ⟨mb, 2, none⟩ = some (.int .i64 tg) := cellk HMB.out rfl
    have d0 : IntKind.u64.wrap (k : Int) = (k : Int) := by rw [IntKind.wrap_u64]; omega
    have d1 : IntKind.u64.wrap (es.length : Int) = (es.length : Int) := by rw [IntKind.wrap_u64]; omega
    clear hwbe
    rw [show okN ⟨k, fr, tg, tm, ix, lt, cm, true, es, dt⟩ = 1 from rfl] at HTT
    obtain ⟨u0, hu0⟩ : ∃ u0, Value.slice none 0 0 = u0 := ⟨_, rfl⟩
    obtain ⟨bs0, hbs0⟩ : ∃ z, ([] : List UInt8) = z := ⟨_, rfl⟩
    have HE0 : Hid (EW WB wb u0 bs0 WB) := by rw [← hu0, ← hbs0]; exact HST
    rw [hbs0] at HTT
    have HB0 := HTT
    have hl0 := lenE HB0 HTL
    clear HST HTT hu0 hbs0
    refine wp_region_held_drew (S := fun w' => w'.cell? ⟨mb, 0, none⟩ = some (.int .u8 (k : Int)) ∧ w'.cell? ⟨mb, 1, none⟩ = some (.int .i64 fr) ∧ w'.cell? ⟨mb, 2, none⟩ = some (.int .i64 tg)) (by kernel_rfl) ⟨g0, g1, g2⟩ ?_
    intro hHeld
    refine wpAnyH_take (i := 0) (v := ?_) (by simp only [List.getElem?_toArray, List.getElem?_cons_zero]; rfl) (by kernel_rfl) (by kernel_rfl) (by kernel_rfl) (by intro _ _ _ h; exact h) (Or.inl ⟨by rfl, ?_⟩) (by assumption) ?_
    rotate_left
    · (intro w hSw; (try dsimp only at hSw); go_simp; try with_reducible rfl)
    try simp only [Act.put, List.setIfInBounds_toArray, List.set_cons_zero, List.set_cons_succ]
    refine wpAnyH_take (i := 1) (v := ?_) (by simp only [List.getElem?_toArray, List.getElem?_cons_succ, List.getElem?_cons_zero]; rfl) (by kernel_rfl) (by kernel_rfl) (by kernel_rfl) (by intro _ _ _ h; exact h) (Or.inl ⟨by rfl, ?_⟩) (by assumption) ?_
    rotate_left
    · (intro w hSw; (try dsimp only at hSw); go_simp; try with_reducible rfl)
    try simp only [Act.put, List.setIfInBounds_toArray, List.set_cons_zero, List.set_cons_succ]
    refine wpAnyH_take (i := 2) (v := ?_) (by simp only [List.getElem?_toArray, List.getElem?_cons_succ, List.getElem?_cons_zero]; rfl) (by kernel_rfl) (by kernel_rfl) (by kernel_rfl) (by intro _ _ _ h; exact h) (Or.inl ⟨by rfl, ?_⟩) (by assumption) ?_
    rotate_left
    · (intro w hSw; (try dsimp only at hSw); go_simp; try with_reducible rfl)
    try simp only [Act.put, List.setIfInBounds_toArray, List.set_cons_zero, List.set_cons_succ]
    refine wpAnyH_take (i := 3) (v := ?_) (by simp only [List.getElem?_toArray, List.getElem?_cons_succ, List.getElem?_cons_zero]; rfl) (by kernel_rfl) (by kernel_rfl) (by kernel_rfl) (by intro _ _ _ h; exact h) (Or.inl ⟨by rfl, ?_⟩) (by assumption) ?_
    rotate_left
    · (intro w hSw; (try dsimp only at hSw); go_simp; try with_reducible rfl)
    try simp only [Act.put, List.setIfInBounds_toArray, List.set_cons_zero, List.set_cons_succ]
    refine wpAnyH_take (i := 5) (v := ?_) (by simp only [List.getElem?_toArray, List.getElem?_cons_succ, List.getElem?_cons_zero]; rfl) (by kernel_rfl) (by kernel_rfl) (by kernel_rfl) (by intro _ _ _ h; exact h) (Or.inl ⟨by rfl, ?_⟩) (by assumption) ?_
    rotate_left
    · (intro w hSw; (try dsimp only at hSw); go_simp; try with_reducible rfl)
    try simp only [Act.put, List.setIfInBounds_toArray, List.set_cons_zero, List.set_cons_succ]
    refine wpAnyH_take (i := 6) (v := ?_) (by simp only [List.getElem?_toArray, List.getElem?_cons_succ, List.getElem?_cons_zero]; rfl) (by kernel_rfl) (by kernel_rfl) (by kernel_rfl) (by intro _ _ _ h; exact h) (Or.inl ⟨by rfl, ?_⟩) (by assumption) ?_
    rotate_left
    · (intro w hSw; (try dsimp only at hSw); go_simp; try with_reducible rfl)
    try simp only [Act.put, List.setIfInBounds_toArray, List.set_cons_zero, List.set_cons_succ]
    refine wpAnyH_take (i := 8) (v := ?_) (by simp only [List.getElem?_toArray, List.getElem?_cons_succ, List.getElem?_cons_zero]; rfl) (by kernel_rfl) (by kernel_rfl) (by kernel_rfl) (by intro _ _ _ h; exact h) (Or.inl ⟨by rfl, ?_⟩) (by assumption) ?_
    rotate_left
    · (intro w hSw; (try dsimp only at hSw); go_simp; try with_reducible rfl)
    try simp only [Act.put, List.setIfInBounds_toArray, List.set_cons_zero, List.set_cons_succ]
    refine wpAnyH_take (i := 9) (v := ?_) (by simp only [List.getElem?_toArray, List.getElem?_cons_succ, List.getElem?_cons_zero]; rfl) (by kernel_rfl) (by kernel_rfl) (by kernel_rfl) (by intro _ _ _ h; exact h) (Or.inl ⟨by rfl, ?_⟩) (by assumption) ?_
    rotate_left
    · (intro w hSw; (try dsimp only at hSw); go_simp; try with_reducible rfl)
    try simp only [Act.put, List.setIfInBounds_toArray, List.set_cons_zero, List.set_cons_succ]
    refine wpAnyH_ready (rs := [4]) (by kernel_rfl) (by simp) ?_
    refine AllReadyH.cons (by simp only [List.getElem?_toArray, List.getElem?_cons_succ, List.getElem?_cons_zero]; rfl) (fun K hK => ?_) AllReadyH.nil
    go_simp
    refine (wuint wb WB.heap.size u0 bs0 (k : Int) _ (by omega) (by omega) HE0.out.drew.at_ (by have := HE0.out.drew.kept.size; omega) (by omega)).mono ?_
    intro e W1 hp
    have hret := hp.ret
    subst hret
    obtain ⟨u1, hew, -⟩ := (HE0.out.drew).put hp
    try simp only [Int.toNat_natCast] at hew
    have hcs : W1.cell? ⟨mb, 0, none⟩ = some (.int .u8 (k : Int)) ∧ W1.cell? ⟨mb, 1, none⟩ = some (.int .i64 fr) ∧ W1.cell? ⟨mb, 2, none⟩ = some (.int .i64 tg) := ⟨cellk (hew.keep HMB.out hmw) rfl, cellk (hew.keep HMB.out hmw) rfl, cellk (hew.keep HMB.out hmw) rfl⟩
    have HB1 := stepE HB0
    obtain ⟨bs1, hbs⟩ : ∃ z, bs0 ++ enc k = z := ⟨_, rfl⟩
    rw [hbs] at hew HB1
    have hl1 := lenE HB1 HTL
    have HE1 := Lib.hid hew
    have hzW1 := hew.kept.size
    clear hp hew hbs HB0
    dsimp only
    refine hK.out _ _ hcs (fun hHeld => ?_)
    clear hK K
    try simp only [Act.put, List.setIfInBounds_toArray, List.set_cons_zero, List.set_cons_succ]
    refine wpAnyH_ready (rs := [7]) (by kernel_rfl) (by simp) ?_
    refine AllReadyH.cons (by simp only [List.getElem?_toArray, List.getElem?_cons_succ, List.getElem?_cons_zero]; rfl) (fun K hK => ?_) AllReadyH.nil
    go_simp
    refine (wint wb WB.heap.size u1 bs1 fr W1 bfr0 bfr1 HE1.out.at_ (by have := HE1.out.kept.size; omega) (by omega)).mono ?_
    intro e W2 hp
    have hret := hp.ret
    subst hret
    obtain ⟨u2, hew, -⟩ := (HE1.out).put hp
    try simp only [Int.toNat_natCast, Int.toNat_one, Int.toNat_zero] at hew
    have hcs : W2.cell? ⟨mb, 0, none⟩ = some (.int .u8 (k : Int)) ∧ W2.cell? ⟨mb, 1, none⟩ = some (.int .i64 fr) ∧ W2.cell? ⟨mb, 2, none⟩ = some (.int .i64 tg) := ⟨cellk (hew.keep HMB.out hmw) rfl, cellk (hew.keep HMB.out hmw) rfl, cellk (hew.keep HMB.out hmw) rfl⟩
    have HB2 := stepE HB1
    obtain ⟨bs2, hbs⟩ : ∃ z, bs1 ++ enc (zig fr) = z := ⟨_, rfl⟩
    rw [hbs] at hew HB2
    have hl2 := lenE HB2 HTL
    have HE2 := Lib.hid hew
    have hzW2 := hew.kept.size
    clear hp hew hbs HB1
    dsimp only
    refine hK.out _ _ hcs (fun hHeld => ?_)
    clear hK K
    try simp only [Act.put, List.setIfInBounds_toArray, List.set_cons_zero, List.set_cons_succ]
    refine wpAnyH_ready (rs := [10]) (by kernel_rfl) (by simp) ?_
    refine AllReadyH.cons (by simp only [List.getElem?_toArray, List.getElem?_cons_succ, List.getElem?_cons_zero]; rfl) (fun K hK => ?_) AllReadyH.nil
    go_simp
    refine (wint wb WB.heap.size u2 bs2 tg W2 btg0 btg1 HE2.out.at_ (by have := HE2.out.kept.size; omega) (by omega)).mono ?_
    intro e W3 hp
    have hret := hp.ret
    subst hret
    obtain ⟨u3, hew, -⟩ := (HE2.out).put hp
    try simp only [Int.toNat_natCast, Int.toNat_one, Int.toNat_zero] at hew
    have hcs : W3.cell? ⟨mb, 0, none⟩ = some (.int .u8 (k : Int)) ∧ W3.cell? ⟨mb, 1, none⟩ = some (.int .i64 fr) ∧ W3.cell? ⟨mb, 2, none⟩ = some (.int .i64 tg) := ⟨cellk (hew.keep HMB.out hmw) rfl, cellk (hew.keep HMB.out hmw) rfl, cellk (hew.keep HMB.out hmw) rfl⟩
    have HB3 := stepE HB2
    obtain ⟨bs3, hbs⟩ : ∃ z, bs2 ++ enc (zig tg) = z := ⟨_, rfl⟩
    rw [hbs] at hew HB3
    have hl3 := lenE HB3 HTL
    have HE3 := Lib.hid hew
    have hzW3 := hew.kept.size
    clear hp hew hbs HB2
    dsimp only
    refine hK.out _ _ hcs (fun hHeld => ?_)
    clear hK K
    try simp only [Act.put, List.setIfInBounds_toArray, List.set_cons_zero, List.set_cons_succ]
    refine wpAnyH_done (by kernel_rfl) ?_ _
    clear hHeld g0 g1 g2
    have g3 : W3.cell? ⟨mb, 3, none⟩ = some (.int .u64 (tm : Int)) := cellk (HE3.out.keep HMB.out hmw) rfl
    have g4 : W3.cell? ⟨mb, 4, none⟩ = some (.int .u64 (ix : Int)) := cellk (HE3.out.keep HMB.out hmw) rfl
    have g5 : W3.cell? ⟨mb, 5, none⟩ = some (.int .u64 (lt : Int)) := cellk (HE3.out.keep HMB.out hmw) rfl
    have g6 : W3.cell? ⟨mb, 6, none⟩ = some (.int .u64 (cm : Int)) := cellk (HE3.out.keep HMB.out hmw) rfl
    go_upto_region 6 with (fail)
    refine wp_region_held_drew (S := fun w' => w'.cell? ⟨mb, 3, none⟩ = some (.int .u64 (tm : Int)) ∧ w'.cell? ⟨mb, 4, none⟩ = some (.int .u64 (ix : Int)) ∧ w'.cell? ⟨mb, 5, none⟩ = some (.int .u64 (lt : Int)) ∧ w'.cell? ⟨mb, 6, none⟩ = some (.int .u64 (cm : Int))) (by kernel_rfl) ⟨g3, g4, g5, g6⟩ ?_
    intro hHeld
    refine wpAnyH_take (i := 0) (v := ?_) (by simp only [List.getElem?_toArray, List.getElem?_cons_zero]; rfl) (by kernel_rfl) (by kernel_rfl) (by kernel_rfl) (by intro _ _ _ h; exact h) (Or.inl ⟨by rfl, ?_⟩) (by assumption) ?_
    rotate_left
    · (intro w hSw; (try dsimp only at hSw); go_simp; try with_reducible rfl)
    try simp only [Act.put, List.setIfInBounds_toArray, List.set_cons_zero, List.set_cons_succ]
    refine wpAnyH_take (i := 1) (v := ?_) (by simp only [List.getElem?_toArray, List.getElem?_cons_succ, List.getElem?_cons_zero]; rfl) (by kernel_rfl) (by kernel_rfl) (by kernel_rfl) (by intro _ _ _ h; exact h) (Or.inl ⟨by rfl, ?_⟩) (by assumption) ?_
    rotate_left
    · (intro w hSw; (try dsimp only at hSw); go_simp; try with_reducible rfl)
    try simp only [Act.put, List.setIfInBounds_toArray, List.set_cons_zero, List.set_cons_succ]
    refine wpAnyH_take (i := 2) (v := ?_) (by simp only [List.getElem?_toArray, List.getElem?_cons_succ, List.getElem?_cons_zero]; rfl) (by kernel_rfl) (by kernel_rfl) (by kernel_rfl) (by intro _ _ _ h; exact h) (Or.inl ⟨by rfl, ?_⟩) (by assumption) ?_
    rotate_left
    · (intro w hSw; (try dsimp only at hSw); go_simp; try with_reducible rfl)
    try simp only [Act.put, List.setIfInBounds_toArray, List.set_cons_zero, List.set_cons_succ]
    refine wpAnyH_take (i := 4) (v := ?_) (by simp only [List.getElem?_toArray, List.getElem?_cons_succ, List.getElem?_cons_zero]; rfl) (by kernel_rfl) (by kernel_rfl) (by kernel_rfl) (by intro _ _ _ h; exact h) (Or.inl ⟨by rfl, ?_⟩) (by assumption) ?_
    rotate_left
    · (intro w hSw; (try dsimp only at hSw); go_simp; try with_reducible rfl)
    try simp only [Act.put, List.setIfInBounds_toArray, List.set_cons_zero, List.set_cons_succ]
    refine wpAnyH_take (i := 5) (v := ?_) (by simp only [List.getElem?_toArray, List.getElem?_cons_succ, List.getElem?_cons_zero]; rfl) (by kernel_rfl) (by kernel_rfl) (by kernel_rfl) (by intro _ _ _ h; exact h) (Or.inl ⟨by rfl, ?_⟩) (by assumption) ?_
    rotate_left
    · (intro w hSw; (try dsimp only at hSw); go_simp; try with_reducible rfl)
    try simp only [Act.put, List.setIfInBounds_toArray, List.set_cons_zero, List.set_cons_succ]
    refine wpAnyH_take (i := 7) (v := ?_) (by simp only [List.getElem?_toArray, List.getElem?_cons_succ, List.getElem?_cons_zero]; rfl) (by kernel_rfl) (by kernel_rfl) (by kernel_rfl) (by intro _ _ _ h; exact h) (Or.inl ⟨by rfl, ?_⟩) (by assumption) ?_
    rotate_left
    · (intro w hSw; (try dsimp only at hSw); go_simp; try with_reducible rfl)
    try simp only [Act.put, List.setIfInBounds_toArray, List.set_cons_zero, List.set_cons_succ]
    refine wpAnyH_take (i := 8) (v := ?_) (by simp only [List.getElem?_toArray, List.getElem?_cons_succ, List.getElem?_cons_zero]; rfl) (by kernel_rfl) (by kernel_rfl) (by kernel_rfl) (by intro _ _ _ h; exact h) (Or.inl ⟨by rfl, ?_⟩) (by assumption) ?_
    rotate_left
    · (intro w hSw; (try dsimp only at hSw); go_simp; try with_reducible rfl)
    try simp only [Act.put, List.setIfInBounds_toArray, List.set_cons_zero, List.set_cons_succ]
    refine wpAnyH_take (i := 10) (v := ?_) (by simp only [List.getElem?_toArray, List.getElem?_cons_succ, List.getElem?_cons_zero]; rfl) (by kernel_rfl) (by kernel_rfl) (by kernel_rfl) (by intro _ _ _ h; exact h) (Or.inl ⟨by rfl, ?_⟩) (by assumption) ?_
    rotate_left
    · (intro w hSw; (try dsimp only at hSw); go_simp; try with_reducible rfl)
    try simp only [Act.put, List.setIfInBounds_toArray, List.set_cons_zero, List.set_cons_succ]
    refine wpAnyH_take (i := 11) (v := ?_) (by simp only [List.getElem?_toArray, List.getElem?_cons_succ, List.getElem?_cons_zero]; rfl) (by kernel_rfl) (by kernel_rfl) (by kernel_rfl) (by intro _ _ _ h; exact h) (Or.inl ⟨by rfl, ?_⟩) (by assumption) ?_
    rotate_left
    · (intro w hSw; (try dsimp only at hSw); go_simp; try with_reducible rfl)
    try simp only [Act.put, List.setIfInBounds_toArray, List.set_cons_zero, List.set_cons_succ]
    refine wpAnyH_take (i := 13) (v := ?_) (by simp only [List.getElem?_toArray, List.getElem?_cons_succ, List.getElem?_cons_zero]; rfl) (by kernel_rfl) (by kernel_rfl) (by kernel_rfl) (by intro _ _ _ h; exact h) (Or.inl ⟨by rfl, ?_⟩) (by assumption) ?_
    rotate_left
    · (intro w hSw; (try dsimp only at hSw); go_simp; try with_reducible rfl)
    try simp only [Act.put, List.setIfInBounds_toArray, List.set_cons_zero, List.set_cons_succ]
    refine wpAnyH_ready (rs := [3]) (by kernel_rfl) (by simp) ?_
    refine AllReadyH.cons (by simp only [List.getElem?_toArray, List.getElem?_cons_succ, List.getElem?_cons_zero]; rfl) (fun K hK => ?_) AllReadyH.nil
    go_simp
    refine (wuint wb WB.heap.size u3 bs3 (tm : Int) _ (by omega) (by omega) HE3.out.drew.at_ (by have := HE3.out.drew.kept.size; omega) (by omega)).mono ?_
    intro e W4 hp
    have hret := hp.ret
    subst hret
    obtain ⟨u4, hew, -⟩ := (HE3.out.drew).put hp
    try simp only [Int.toNat_natCast] at hew
    have hcs : W4.cell? ⟨mb, 3, none⟩ = some (.int .u64 (tm : Int)) ∧ W4.cell? ⟨mb, 4, none⟩ = some (.int .u64 (ix : Int)) ∧ W4.cell? ⟨mb, 5, none⟩ = some (.int .u64 (lt : Int)) ∧ W4.cell? ⟨mb, 6, none⟩ = some (.int .u64 (cm : Int)) := ⟨cellk (hew.keep HMB.out hmw) rfl, cellk (hew.keep HMB.out hmw) rfl, cellk (hew.keep HMB.out hmw) rfl, cellk (hew.keep HMB.out hmw) rfl⟩
    have HB4 := stepE HB3
    obtain ⟨bs4, hbs⟩ : ∃ z, bs3 ++ enc tm = z := ⟨_, rfl⟩
    rw [hbs] at hew HB4
    have hl4 := lenE HB4 HTL
    have HE4 := Lib.hid hew
    have hzW4 := hew.kept.size
    clear hp hew hbs HB3
    dsimp only
    refine hK.out _ _ hcs (fun hHeld => ?_)
    clear hK K
    try simp only [Act.put, List.setIfInBounds_toArray, List.set_cons_zero, List.set_cons_succ]
    refine wpAnyH_ready (rs := [6]) (by kernel_rfl) (by simp) ?_
    refine AllReadyH.cons (by simp only [List.getElem?_toArray, List.getElem?_cons_succ, List.getElem?_cons_zero]; rfl) (fun K hK => ?_) AllReadyH.nil
    go_simp
    refine (wuint wb WB.heap.size u4 bs4 (ix : Int) W4 (by omega) (by omega) HE4.out.at_ (by have := HE4.out.kept.size; omega) (by omega)).mono ?_
    intro e W5 hp
    have hret := hp.ret
    subst hret
    obtain ⟨u5, hew, -⟩ := (HE4.out).put hp
    try simp only [Int.toNat_natCast] at hew
    have hcs : W5.cell? ⟨mb, 3, none⟩ = some (.int .u64 (tm : Int)) ∧ W5.cell? ⟨mb, 4, none⟩ = some (.int .u64 (ix : Int)) ∧ W5.cell? ⟨mb, 5, none⟩ = some (.int .u64 (lt : Int)) ∧ W5.cell? ⟨mb, 6, none⟩ = some (.int .u64 (cm : Int)) := ⟨cellk (hew.keep HMB.out hmw) rfl, cellk (hew.keep HMB.out hmw) rfl, cellk (hew.keep HMB.out hmw) rfl, cellk (hew.keep HMB.out hmw) rfl⟩
    have HB5 := stepE HB4
    obtain ⟨bs5, hbs⟩ : ∃ z, bs4 ++ enc ix = z := ⟨_, rfl⟩
    rw [hbs] at hew HB5
    have hl5 := lenE HB5 HTL
    have HE5 := Lib.hid hew
    have hzW5 := hew.kept.size
    clear hp hew hbs HB4
    dsimp only
    refine hK.out _ _ hcs (fun hHeld => ?_)
    clear hK K
    try simp only [Act.put, List.setIfInBounds_toArray, List.set_cons_zero, List.set_cons_succ]
    refine wpAnyH_ready (rs := [9]) (by kernel_rfl) (by simp) ?_
    refine AllReadyH.cons (by simp only [List.getElem?_toArray, List.getElem?_cons_succ, List.getElem?_cons_zero]; rfl) (fun K hK => ?_) AllReadyH.nil
    go_simp
    refine (wuint wb WB.heap.size u5 bs5 (lt : Int) W5 (by omega) (by omega) HE5.out.at_ (by have := HE5.out.kept.size; omega) (by omega)).mono ?_
    intro e W6 hp
    have hret := hp.ret
    subst hret
    obtain ⟨u6, hew, -⟩ := (HE5.out).put hp
    try simp only [Int.toNat_natCast] at hew
    have hcs : W6.cell? ⟨mb, 3, none⟩ = some (.int .u64 (tm : Int)) ∧ W6.cell? ⟨mb, 4, none⟩ = some (.int .u64 (ix : Int)) ∧ W6.cell? ⟨mb, 5, none⟩ = some (.int .u64 (lt : Int)) ∧ W6.cell? ⟨mb, 6, none⟩ = some (.int .u64 (cm : Int)) := ⟨cellk (hew.keep HMB.out hmw) rfl, cellk (hew.keep HMB.out hmw) rfl, cellk (hew.keep HMB.out hmw) rfl, cellk (hew.keep HMB.out hmw) rfl⟩
    have HB6 := stepE HB5
    obtain ⟨bs6, hbs⟩ : ∃ z, bs5 ++ enc lt = z := ⟨_, rfl⟩
    rw [hbs] at hew HB6
    have hl6 := lenE HB6 HTL
    have HE6 := Lib.hid hew
    have hzW6 := hew.kept.size
    clear hp hew hbs HB5
    dsimp only
    refine hK.out _ _ hcs (fun hHeld => ?_)
    clear hK K
    try simp only [Act.put, List.setIfInBounds_toArray, List.set_cons_zero, List.set_cons_succ]
    refine wpAnyH_ready (rs := [12]) (by kernel_rfl) (by simp) ?_
    refine AllReadyH.cons (by simp only [List.getElem?_toArray, List.getElem?_cons_succ, List.getElem?_cons_zero]; rfl) (fun K hK => ?_) AllReadyH.nil
    go_simp
    refine (wuint wb WB.heap.size u6 bs6 (cm : Int) W6 (by omega) (by omega) HE6.out.at_ (by have := HE6.out.kept.size; omega) (by omega)).mono ?_
    intro e W7 hp
    have hret := hp.ret
    subst hret
    obtain ⟨u7, hew, -⟩ := (HE6.out).put hp
    try simp only [Int.toNat_natCast] at hew
    have hcs : W7.cell? ⟨mb, 3, none⟩ = some (.int .u64 (tm : Int)) ∧ W7.cell? ⟨mb, 4, none⟩ = some (.int .u64 (ix : Int)) ∧ W7.cell? ⟨mb, 5, none⟩ = some (.int .u64 (lt : Int)) ∧ W7.cell? ⟨mb, 6, none⟩ = some (.int .u64 (cm : Int)) := ⟨cellk (hew.keep HMB.out hmw) rfl, cellk (hew.keep HMB.out hmw) rfl, cellk (hew.keep HMB.out hmw) rfl, cellk (hew.keep HMB.out hmw) rfl⟩
    have HB7 := stepE HB6
    obtain ⟨bs7, hbs⟩ : ∃ z, bs6 ++ enc cm = z := ⟨_, rfl⟩
    rw [hbs] at hew HB7
    have hl7 := lenE HB7 HTL
    have HE7 := Lib.hid hew
    have hzW7 := hew.kept.size
    clear hp hew hbs HB6
    dsimp only
    refine hK.out _ _ hcs (fun hHeld => ?_)
    clear hK K
    try simp only [Act.put, List.setIfInBounds_toArray, List.set_cons_zero, List.set_cons_succ]
    refine wpAnyH_ready (rs := [14]) (by kernel_rfl) (by simp) ?_
    refine AllReadyH.cons (by simp only [List.getElem?_toArray, List.getElem?_cons_succ, List.getElem?_cons_zero]; rfl) (fun K hK => ?_) AllReadyH.nil
    go_simp
    refine (wuint wb WB.heap.size u7 bs7 1 W7 (by omega) (by omega) HE7.out.at_ (by have := HE7.out.kept.size; omega) (by omega)).mono ?_
    intro e W8 hp
    have hret := hp.ret
    subst hret
    obtain ⟨u8, hew, -⟩ := (HE7.out).put hp
    try simp only [Int.toNat_one] at hew
    have hcs : W8.cell? ⟨mb, 3, none⟩ = some (.int .u64 (tm : Int)) ∧ W8.cell? ⟨mb, 4, none⟩ = some (.int .u64 (ix : Int)) ∧ W8.cell? ⟨mb, 5, none⟩ = some (.int .u64 (lt : Int)) ∧ W8.cell? ⟨mb, 6, none⟩ = some (.int .u64 (cm : Int)) := ⟨cellk (hew.keep HMB.out hmw) rfl, cellk (hew.keep HMB.out hmw) rfl, cellk (hew.keep HMB.out hmw) rfl, cellk (hew.keep HMB.out hmw) rfl⟩
    have HB8 := stepE HB7
    obtain ⟨bs8, hbs⟩ : ∃ z, bs7 ++ enc 1 = z := ⟨_, rfl⟩
    rw [hbs] at hew HB8
    have hl8 := lenE HB8 HTL
    have HE8 := Lib.hid hew
    have hzW8 := hew.kept.size
    clear hp hew hbs HB7
    dsimp only
    refine hK.out _ _ hcs (fun hHeld => ?_)
    clear hK K
    try simp only [Act.put, List.setIfInBounds_toArray, List.set_cons_zero, List.set_cons_succ]
    refine wpAnyH_done (by kernel_rfl) ?_ _
    clear hHeld g3 g4 g5 g6
    have g8 : W8.cell? ⟨mb, 8, none⟩ = some (.slice oe es.length ce) := cellk (HE8.out.keep HMB.out hmw) rfl
    go_wp2_with fail
    refine (wuint wb WB.heap.size u8 bs8 (es.length : Int) _ (by omega) (by omega) HE8.out.at_ (by have := HE8.out.kept.size; omega) (by omega)).mono ?_
    intro e W9 hp
    have hret := hp.ret
    subst hret
    obtain ⟨u9, hew, -⟩ := (HE8.out).put hp
    simp only [Int.toNat_natCast] at hew
    have HB9 := stepE HB8
    obtain ⟨bs9, hbs⟩ : ∃ z, bs8 ++ enc es.length = z := ⟨_, rfl⟩
    rw [hbs] at hew HB9
    have HE9 := Lib.hid hew
    have g9 : W9.cell? ⟨mb, 8, none⟩ = some (.slice oe es.length ce) := cellk (hew.keep HMB.out hmw) rfl
    have hzW9 := hew.kept.size
    clear hp hew hbs HB8 g8 HE8
    go_wp2_with fail
    go_loopw [46] (fun i wr => ∃ (j : Nat) (u : Value) (bs : List UInt8), j ≤ es.length ∧ i = .int .i64 (j : Int) ∧ Hid (EW WB wb u bs wr) ∧ Hid (bs ++ (enEs (es.drop j) ++ encB dt) = TT)) (fun i _ => es.length - (intOf i).toNat)
    case atStart => exact ⟨0, u9, bs9, by omega, rfl, HE9, HB9⟩
    case round =>
      obtain ⟨j, u0, bs0, hj, rfl, HE0, HB⟩ := hrel
      generalize wr = wi at *
      have hlow : ∀ p v, w.cell? p = some v → p.block < mb := fun p v h => by
        have h1 := World.block_lt_of_cell? w p h
        rw [HEB.out] at h1
        exact h1
      have hbw : Below mb w wi := HB1.out.trans (HE0.out.bel (by omega) (by omega))
      by_cases hlt : j < es.length
      · have hx : es[j]? = some es[j] := List.getElem?_eq_getElem hlt
        obtain ⟨bb, off, hoe, hat⟩ := HALL.out j _ hx
        subst hoe
        have hxo := HOK.out es[j] (List.getElem_mem hlt)
        have hdr := enEs_drop hlt
        have hjI : (j : Int) < (es.length : Int) := by omega
        generalize es[j] = x at *
        obtain ⟨xt, xs, xn, xl⟩ := x
        obtain ⟨xv, z0, z1, z2, z3, hxr⟩ := hat
        dsimp only at z0 z1 z2 z3 hxr
        obtain ⟨ox, cx, rfl⟩ := (rd_form2 hxr)
        have y0 : wi.cell? ⟨bb, off + j * 4, none⟩ = some (.int .u64 (xt : Int)) := (hbw.cell (hlow _ _ z0)).trans z0
        have y1 : wi.cell? ⟨bb, off + j * 4 + 1, none⟩ = some (.int .u64 (xs : Int)) := (hbw.cell (hlow _ _ z1)).trans z1
        have y2 : wi.cell? ⟨bb, off + j * 4 + 2, none⟩ = some (.int .u64 (xn : Int)) := (hbw.cell (hlow _ _ z2)).trans z2
        have y3 : wi.cell? ⟨bb, off + j * 4 + 3, none⟩ = some (.slice ox xl.length cx) := (hbw.cell (hlow _ _ z3)).trans z3
        have ybl := World.block_lt_of_cell? wi _ y0
        simp only at ybl
        have HRB : Hid (∀ W, Below mb w W → Rd W (.slice ox xl.length cx) xl) := Lib.hid (fun W hb => hxr.below (by rw [HEB.out]; exact hb))
        have HB0 : Hid (bs0 ++ (enc xt ++ (enc xs ++ (enc xn ++ (encB xl ++ (enEs (es.drop (j + 1)) ++ encB dt))))) = TT) := Lib.hid (by
          have h5 := HB.out
          rw [hdr] at h5
          simpa [enE, List.append_assoc] using h5)
        obtain ⟨tmb, ssb, nmb, clb'⟩ := hxo
        dsimp only at tmb ssb nmb clb'
        have hl0 := lenE HB0 HTL
        have hWF := heap_alloc_new wi (.cells #[.int .u64 (xt : Int), .int .u64 (xs : Int), .int .u64 (xn : Int), .slice ox xl.length cx] 51)
        obtain ⟨wf, hwf⟩ : ∃ wf, wi.alloc (.cells #[.int .u64 (xt : Int), .int .u64 (xs : Int), .int .u64 (xn : Int), .slice ox xl.length cx] 51) = wf := ⟨_, rfl⟩
        have hef : EW WB wb u0 bs0 wf := by rw [← hwf]; exact HE0.out.alloc _
        rw [hwf] at hWF
        have hfb : wi.heap.size ≠ wb := by have := lt_of_block HE0.out.at_.cell; omega
        have hfv0 : u0.ownBlock ≠ some wi.heap.size := fun h => by have := (HE0.out.lt _ h).2; omega
        have hzf : wi.heap.size < wf.heap.size := lt_of_block hWF
        have HEF := Lib.hid hef
        have HX0 := Lib.hid hWF
        have hziw := hbw.size
        have HBW := Lib.hid hbw
        clear hx hdr z0 z1 z2 z3 hxr hef hWF HB HE0 hbw hlow
        go_upto_region 11 with (fail)
        try rw [hwf]
        generalize wi.heap.size = xb at *
        clear hwf y0 y1 y2 y3 ybl
        have hzW0 := HEF.out.kept.size
        have g0 : wf.cell? ⟨xb, 0, none⟩ = some (.int .u64 (xt : Int)) := cellk HX0.out rfl
        have g1 : wf.cell? ⟨xb, 1, none⟩ = some (.int .u64 (xs : Int)) := cellk HX0.out rfl
        have g2 : wf.cell? ⟨xb, 2, none⟩ = some (.int .u64 (xn : Int)) := cellk HX0.out rfl
        have g3 : wf.cell? ⟨xb, 3, none⟩ = some (.slice ox xl.length cx) := cellk HX0.out rfl
        refine wp_region_held_drew (S := fun w' => w'.cell? ⟨xb, 0, none⟩ = some (.int .u64 (xt : Int)) ∧ w'.cell? ⟨xb, 1, none⟩ = some (.int .u64 (xs : Int)) ∧ w'.cell? ⟨xb, 2, none⟩ = some (.int .u64 (xn : Int)) ∧ w'.cell? ⟨xb, 3, none⟩ = some (.slice ox xl.length cx)) (by kernel_rfl) ⟨g0, g1, g2, g3⟩ ?_
        intro hHeld
        refine wpAnyH_take (i := 0) (v := ?_) (by simp only [List.getElem?_toArray, List.getElem?_cons_zero]; rfl) (by kernel_rfl) (by kernel_rfl) (by kernel_rfl) (by intro _ _ _ h; exact h) (Or.inl ⟨by rfl, ?_⟩) (by assumption) ?_
        rotate_left
        · (intro w hSw; (try dsimp only at hSw); go_simp; try with_reducible rfl)
        try simp only [Act.put, List.setIfInBounds_toArray, List.set_cons_zero, List.set_cons_succ]
        refine wpAnyH_take (i := 1) (v := ?_) (by simp only [List.getElem?_toArray, List.getElem?_cons_succ, List.getElem?_cons_zero]; rfl) (by kernel_rfl) (by kernel_rfl) (by kernel_rfl) (by intro _ _ _ h; exact h) (Or.inl ⟨by rfl, ?_⟩) (by assumption) ?_
        rotate_left
        · (intro w hSw; (try dsimp only at hSw); go_simp; try with_reducible rfl)
        try simp only [Act.put, List.setIfInBounds_toArray, List.set_cons_zero, List.set_cons_succ]
        refine wpAnyH_take (i := 2) (v := ?_) (by simp only [List.getElem?_toArray, List.getElem?_cons_succ, List.getElem?_cons_zero]; rfl) (by kernel_rfl) (by kernel_rfl) (by kernel_rfl) (by intro _ _ _ h; exact h) (Or.inl ⟨by rfl, ?_⟩) (by assumption) ?_
        rotate_left
        · (intro w hSw; (try dsimp only at hSw); go_simp; try with_reducible rfl)
        try simp only [Act.put, List.setIfInBounds_toArray, List.set_cons_zero, List.set_cons_succ]
        refine wpAnyH_take (i := 4) (v := ?_) (by simp only [List.getElem?_toArray, List.getElem?_cons_succ, List.getElem?_cons_zero]; rfl) (by kernel_rfl) (by kernel_rfl) (by kernel_rfl) (by intro _ _ _ h; exact h) (Or.inl ⟨by rfl, ?_⟩) (by assumption) ?_
        rotate_left
        · (intro w hSw; (try dsimp only at hSw); go_simp; try with_reducible rfl)
        try simp only [Act.put, List.setIfInBounds_toArray, List.set_cons_zero, List.set_cons_succ]
        refine wpAnyH_take (i := 5) (v := ?_) (by simp only [List.getElem?_toArray, List.getElem?_cons_succ, List.getElem?_cons_zero]; rfl) (by kernel_rfl) (by kernel_rfl) (by kernel_rfl) (by intro _ _ _ h; exact h) (Or.inl ⟨by rfl, ?_⟩) (by assumption) ?_
        rotate_left
        · (intro w hSw; (try dsimp only at hSw); go_simp; try with_reducible rfl)
        try simp only [Act.put, List.setIfInBounds_toArray, List.set_cons_zero, List.set_cons_succ]
        refine wpAnyH_take (i := 7) (v := ?_) (by simp only [List.getElem?_toArray, List.getElem?_cons_succ, List.getElem?_cons_zero]; rfl) (by kernel_rfl) (by kernel_rfl) (by kernel_rfl) (by intro _ _ _ h; exact h) (Or.inl ⟨by rfl, ?_⟩) (by assumption) ?_
        rotate_left
        · (intro w hSw; (try dsimp only at hSw); go_simp; try with_reducible rfl)
        try simp only [Act.put, List.setIfInBounds_toArray, List.set_cons_zero, List.set_cons_succ]
        refine wpAnyH_take (i := 8) (v := ?_) (by simp only [List.getElem?_toArray, List.getElem?_cons_succ, List.getElem?_cons_zero]; rfl) (by kernel_rfl) (by kernel_rfl) (by kernel_rfl) (by intro _ _ _ h; exact h) (Or.inl ⟨by rfl, ?_⟩) (by assumption) ?_
        rotate_left
        · (intro w hSw; (try dsimp only at hSw); go_simp; try with_reducible rfl)
        try simp only [Act.put, List.setIfInBounds_toArray, List.set_cons_zero, List.set_cons_succ]
        refine wpAnyH_take (i := 10) (v := ?_) (by simp only [List.getElem?_toArray, List.getElem?_cons_succ, List.getElem?_cons_zero]; rfl) (by kernel_rfl) (by kernel_rfl) (by kernel_rfl) (by intro _ _ _ h; exact h) (Or.inl ⟨by rfl, ?_⟩) (by assumption) ?_
        rotate_left
        · (intro w hSw; (try dsimp only at hSw); go_simp; try with_reducible rfl)
        try simp only [Act.put, List.setIfInBounds_toArray, List.set_cons_zero, List.set_cons_succ]
        refine wpAnyH_take (i := 11) (v := ?_) (by simp only [List.getElem?_toArray, List.getElem?_cons_succ, List.getElem?_cons_zero]; rfl) (by kernel_rfl) (by kernel_rfl) (by kernel_rfl) (by intro _ _ _ h; exact h) (Or.inl ⟨by rfl, ?_⟩) (by assumption) ?_
        rotate_left
        · (intro w hSw; (try dsimp only at hSw); go_simp; try with_reducible rfl)
        try simp only [Act.put, List.setIfInBounds_toArray, List.set_cons_zero, List.set_cons_succ]
        refine wpAnyH_ready (rs := [3]) (by kernel_rfl) (by simp) ?_
        refine AllReadyH.cons (by simp only [List.getElem?_toArray, List.getElem?_cons_succ, List.getElem?_cons_zero]; rfl) (fun K hK => ?_) AllReadyH.nil
        go_simp
        refine (wuint wb WB.heap.size u0 bs0 (xt : Int) _ (by omega) (by omega) HEF.out.drew.at_ (by have := HEF.out.drew.kept.size; omega) (by omega)).mono ?_
        intro e V1 hp
        have hret := hp.ret
        subst hret
        obtain ⟨u1, hew, hoth⟩ := (HEF.out.drew).put hp
        obtain ⟨hfv1, hbox⟩ := hoth _ _ (show wf.drew.heap[xb]? = _ from HX0.out) hfb hfv0
        simp only [Int.toNat_natCast] at hew
        have hcs : V1.cell? ⟨xb, 0, none⟩ = some (.int .u64 (xt : Int)) ∧ V1.cell? ⟨xb, 1, none⟩ = some (.int .u64 (xs : Int)) ∧ V1.cell? ⟨xb, 2, none⟩ = some (.int .u64 (xn : Int)) ∧ V1.cell? ⟨xb, 3, none⟩ = some (.slice ox xl.length cx) := ⟨cellk hbox rfl, cellk hbox rfl, cellk hbox rfl, cellk hbox rfl⟩
        have HB1 := stepE HB0
        obtain ⟨bs1, hbs⟩ : ∃ z, bs0 ++ enc xt = z := ⟨_, rfl⟩
        rw [hbs] at hew HB1
        have hl1 := lenE HB1 HTL
        have HE1 := Lib.hid hew
        have HX1 := Lib.hid hbox
        have hzV1 := hew.kept.size
        clear hp hew hbs hoth hbox HB0
        dsimp only
        refine hK.out _ _ hcs (fun hHeld => ?_)
        clear hK K
        try simp only [Act.put, List.setIfInBounds_toArray, List.set_cons_zero, List.set_cons_succ]
        refine wpAnyH_ready (rs := [6]) (by kernel_rfl) (by simp) ?_
        refine AllReadyH.cons (by simp only [List.getElem?_toArray, List.getElem?_cons_succ, List.getElem?_cons_zero]; rfl) (fun K hK => ?_) AllReadyH.nil
        go_simp
        refine (wuint wb WB.heap.size u1 bs1 (xs : Int) V1 (by omega) (by omega) HE1.out.at_ (by have := HE1.out.kept.size; omega) (by omega)).mono ?_
        intro e V2 hp
        have hret := hp.ret
        subst hret
        obtain ⟨u2, hew, hoth⟩ := (HE1.out).put hp
        obtain ⟨hfv2, hbox⟩ := hoth _ _ HX1.out hfb hfv1
        simp only [Int.toNat_natCast] at hew
        have hcs : V2.cell? ⟨xb, 0, none⟩ = some (.int .u64 (xt : Int)) ∧ V2.cell? ⟨xb, 1, none⟩ = some (.int .u64 (xs : Int)) ∧ V2.cell? ⟨xb, 2, none⟩ = some (.int .u64 (xn : Int)) ∧ V2.cell? ⟨xb, 3, none⟩ = some (.slice ox xl.length cx) := ⟨cellk hbox rfl, cellk hbox rfl, cellk hbox rfl, cellk hbox rfl⟩
        have HB2 := stepE HB1
        obtain ⟨bs2, hbs⟩ : ∃ z, bs1 ++ enc xs = z := ⟨_, rfl⟩
        rw [hbs] at hew HB2
        have hl2 := lenE HB2 HTL
        have HE2 := Lib.hid hew
        have HX2 := Lib.hid hbox
        have hzV2 := hew.kept.size
        clear hp hew hbs hoth hbox HB1
        dsimp only
        refine hK.out _ _ hcs (fun hHeld => ?_)
        clear hK K
        try simp only [Act.put, List.setIfInBounds_toArray, List.set_cons_zero, List.set_cons_succ]
        refine wpAnyH_ready (rs := [9]) (by kernel_rfl) (by simp) ?_
        refine AllReadyH.cons (by simp only [List.getElem?_toArray, List.getElem?_cons_succ, List.getElem?_cons_zero]; rfl) (fun K hK => ?_) AllReadyH.nil
        go_simp
        refine (wuint wb WB.heap.size u2 bs2 (xn : Int) V2 (by omega) (by omega) HE2.out.at_ (by have := HE2.out.kept.size; omega) (by omega)).mono ?_
        intro e V3 hp
        have hret := hp.ret
        subst hret
        obtain ⟨u3, hew, hoth⟩ := (HE2.out).put hp
        obtain ⟨hfv3, hbox⟩ := hoth _ _ HX2.out hfb hfv2
        simp only [Int.toNat_natCast] at hew
        have hcs : V3.cell? ⟨xb, 0, none⟩ = some (.int .u64 (xt : Int)) ∧ V3.cell? ⟨xb, 1, none⟩ = some (.int .u64 (xs : Int)) ∧ V3.cell? ⟨xb, 2, none⟩ = some (.int .u64 (xn : Int)) ∧ V3.cell? ⟨xb, 3, none⟩ = some (.slice ox xl.length cx) := ⟨cellk hbox rfl, cellk hbox rfl, cellk hbox rfl, cellk hbox rfl⟩
        have HB3 := stepE HB2
        obtain ⟨bs3, hbs⟩ : ∃ z, bs2 ++ enc xn = z := ⟨_, rfl⟩
        rw [hbs] at hew HB3
        have hl3 := lenE HB3 HTL
        have HE3 := Lib.hid hew
        have HX3 := Lib.hid hbox
        have hzV3 := hew.kept.size
        clear hp hew hbs hoth hbox HB2
        dsimp only
        refine hK.out _ _ hcs (fun hHeld => ?_)
        clear hK K
        try simp only [Act.put, List.setIfInBounds_toArray, List.set_cons_zero, List.set_cons_succ]
        refine wpAnyH_ready (rs := [12]) (by kernel_rfl) (by simp) ?_
        refine AllReadyH.cons (by simp only [List.getElem?_toArray, List.getElem?_cons_succ, List.getElem?_cons_zero]; rfl) (fun K hK => ?_) AllReadyH.nil
        go_simp
        refine (wbytes wb WB.heap.size u3 bs3 (.slice ox xl.length cx) xl V3 HE3.out.at_ (by have := HE3.out.kept.size; omega) (HRB.out _ (HB1.out.trans (HE3.out.bel (by omega) (by omega)))) (fun w' hk => HRB.out _ ((HB1.out.trans (HE3.out.bel (by omega) (by omega))).trans (HE3.out.two (by omega) (by omega) hk))) (by omega)).mono ?_
        intro e V4 hp
        have hret := hp.ret
        subst hret
        obtain ⟨u4, hew, hoth⟩ := (HE3.out).put hp
        obtain ⟨hfv4, hbox⟩ := hoth _ _ HX3.out hfb hfv3
        have hcs : V4.cell? ⟨xb, 0, none⟩ = some (.int .u64 (xt : Int)) ∧ V4.cell? ⟨xb, 1, none⟩ = some (.int .u64 (xs : Int)) ∧ V4.cell? ⟨xb, 2, none⟩ = some (.int .u64 (xn : Int)) ∧ V4.cell? ⟨xb, 3, none⟩ = some (.slice ox xl.length cx) := ⟨cellk hbox rfl, cellk hbox rfl, cellk hbox rfl, cellk hbox rfl⟩
        have HB4 := stepE HB3
        obtain ⟨bs4, hbs⟩ : ∃ z, bs3 ++ encB xl = z := ⟨_, rfl⟩
        rw [hbs] at hew HB4
        have hl4 := lenE HB4 HTL
        have HE4 := Lib.hid hew
        have HX4 := Lib.hid hbox
        have hzV4 := hew.kept.size
        clear hp hew hbs hoth hbox HB3
        dsimp only
        refine hK.out _ _ hcs (fun hHeld => ?_)
        clear hK K
        try simp only [Act.put, List.setIfInBounds_toArray, List.set_cons_zero, List.set_cons_succ]
        refine wpAnyH_done (by kernel_rfl) ?_ _
        clear hHeld g0 g1 g2 g3
        go_wp2_with fail
        go_roundw
        case rel => exact ⟨j + 1, u4, bs4, by omega, by go_num, HE4, HB4⟩
        case measure => simp [intOf]; omega
      · obtain rfl : j = es.length := by omega
        have hfin : bs0 ++ encB dt = TT := by
          have h5 := HB.out
          simpa [enEs] using h5
        have hl0 := lenE HB HTL
        have HFIN := Lib.hid hfin
        have hdl : dt.length ≤ 1048576 := hdt
        have g10 : wi.cell? ⟨mb, 9, none⟩ = some (.slice od dt.length cd) := cellk (HE0.out.keep HMB.out hmw) rfl
        have HRB : Hid (∀ W, Below mb w W → Rd W (.slice od dt.length cd) dt) := Lib.hid (fun W hb => HRD.out.below (by rw [HEB.out]; exact hb))
        have HBW := Lib.hid hbw
        clear hfin hbw hlow HB
        go_wp2_with fail
        refine (wbytes wb WB.heap.size u0 bs0 (.slice od dt.length cd) dt _ HE0.out.at_ (by have := HE0.out.kept.size; omega) (HRB.out _ HBW.out) (fun w' hk => HRB.out _ (HBW.out.trans (HE0.out.two (by omega) (by omega) hk))) (by omega)).mono ?_
        intro e Va hp
        have hret := hp.ret
        subst hret
        obtain ⟨ua, hew, -⟩ := (HE0.out).put hp
        rw [HFIN.out] at hew
        have HEa := Lib.hid hew
        have hzVa := hew.kept.size
        clear hp hew
        go_wp2_with fail
        refine (wdone wb WB.heap.size ua TT _ HEa.out.at_ (by have := HTL.out; omega)).mono ?_
        rintro e Vb ⟨v1, rfl, ho1, hb1⟩
        have HO1 := Lib.hid ho1
        have HBb : Hid (Below mb w Vb) := Lib.hid ((HB1.out.trans (HEa.out.bel (by omega) (by omega))).trans (hb1.mono (by omega)))
        clear ho1 hb1
        go_wp2_with fail
        refine (sealC v1 TT _ (Rd.of_own HO1.out) (by have := HTL.out; omega)).mono ?_
        rintro e Vc ⟨v2, rfl, ho2, hb2⟩
        have hzb : mb ≤ Vb.heap.size := by rw [← HEB.out]; exact HBb.out.size
        have HFo := Lib.hid (own_base ho2 hzb)
        have HFb := Lib.hid (HBb.out.trans (hb2.mono hzb))
        clear ho2 hb2
        go_wp2_with fail
        go_ret
        exact ⟨v2, rfl, by first | exact HFo.out | (rw [HEB.out]; exact HFo.out), by rw [HEB.out]; exact HFb.out⟩

end Go.Proofs.Ytjbailnnaigjbaa
