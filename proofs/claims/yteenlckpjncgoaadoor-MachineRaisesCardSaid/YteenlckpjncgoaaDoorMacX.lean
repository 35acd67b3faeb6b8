/- Add, to a machine without functions. -/
import Derived.Test.YteenlckpjncgoaaDoorMacU
import Derived.Test.YteenlckpjncgoaaDoorCodF
namespace Go.Proofs.YteenlckpjncgoaaDoor
open Go.RowKit HeaM Ma

theorem FOut.rd {w : World} {base lo : Nat} {v : Value} {fs : List CodM.Fun} {ps : List (Int × Value)} (ho : w.ownsRow base 51 2 v fs.length (CsFu ps)) (h : FOut w lo fs ps) : Oc.RdF w v fs := by
  rcases Nat.eq_zero_or_pos fs.length with h0 | h0
  · obtain ⟨o, c, rfl, _⟩ := own_slice ho
    exact .inl ⟨o, c, by rw [h0], List.eq_nil_of_length_eq_zero h0⟩
  · obtain ⟨g, cap, rfl, hc, hm, _⟩ := own_some ho h0
    refine .inr ⟨g, 0, cap, rfl, h0, hc, hm, fun j f hf => ?_⟩
    have hj := (List.getElem?_eq_some_iff.1 hf).1
    obtain ⟨g2, c2, h1, h2, h3, h4, _, _, h7⟩ := h.2 j f hf
    have e := fun i (hi : i < 2) => (ho.cellAt (j * 2 + i) (by omega)).trans (CsFu_get ps j i _ h1 hi)
    simp only [Nat.zero_add]
    exact ⟨(e 0 (by omega)).trans rfl, _, (e 1 (by omega)).trans rfl, .inr ⟨g2, 0, c2, rfl, h2, h3, h4, h7⟩⟩

theorem FIn.one {w : World} {b off : Nat} {fs : List CodM.Fun} {ps : List (Int × Value)} (h : FIn w b off fs ps) : (∀ (j : Nat) (u : Value), (CsFu ps)[j]? = some u → w.cell? ((⟨b, off, none⟩ : Addr).add j) = some u) ∧ ∀ u ∈ CsFu ps, u.oneCell' = true := by
  refine ⟨?_, ?_⟩
  · intro j u hu
    have hj : j < ps.length * 2 := by rw [← CsFu_length]; exact (List.getElem?_eq_some_iff.1 hu).1
    have hx : ps[j / 2]? = some (ps[j / 2]'(by omega)) := List.getElem?_eq_getElem (by omega)
    obtain ⟨c1, c2⟩ := h.cells _ _ hx
    have e := CsFu_get ps (j / 2) (j % 2) _ hx (by omega)
    rw [show j / 2 * 2 + j % 2 = j by omega, hu] at e
    rw [add_none]
    have hm : j % 2 = 0 ∨ j % 2 = 1 := by omega
    rcases hm with hm | hm
    · rw [hm] at e
      rw [show off + j = off + j / 2 * 2 by omega, c1, e]
      rfl
    · rw [hm] at e
      rw [show off + j = off + j / 2 * 2 + 1 by omega, c2, e]
      rfl
  · intro u hu
    obtain ⟨p, hp, hu⟩ := List.mem_flatMap.1 hu
    obtain ⟨j, hj⟩ := List.getElem?_of_mem hp
    have hlt : j < fs.length := by rw [← h.len]; exact (List.getElem?_eq_some_iff.1 hj).1
    obtain ⟨b2, off2, c2, e, _⟩ := h.fun_ j fs[j] (List.getElem?_eq_getElem hlt)
    rw [hj] at e
    injection e with e
    subst e
    simp only [fuC, List.mem_cons, List.not_mem_nil, or_false] at hu
    rcases hu with rfl | rfl <;> rfl
theorem FIn.below {w w' : World} {b off : Nat} {fs : List CodM.Fun} {ps : List (Int × Value)} (h : FIn w b off fs ps) (hb : Below w.heap.size w w') : FIn w' b off fs ps := by
  refine ⟨h.len, fun j p hp => ?_, fun j f hf => ?_⟩
  · obtain ⟨h1, h2⟩ := h.cells j p hp
    exact ⟨(hb.cell (World.block_lt_of_cell? w _ h1)).trans h1, (hb.cell (World.block_lt_of_cell? w _ h2)).trans h2⟩
  · obtain ⟨b2, off2, c2, h1, h2, h3, h4, h5⟩ := h.fun_ j f hf
    exact ⟨b2, off2, c2, h1, h2, h3, h4, Oc.InsC.below h5 hb (Nat.le_refl _)⟩
theorem FIn.rd {w : World} {b off base : Nat} {v : Value} {fs : List CodM.Fun} {ps : List (Int × Value)} (h : FIn w b off fs ps) (ho : w.ownsRow base 51 2 v fs.length (CsFu ps)) : Oc.RdF w v fs := by
  rcases Nat.eq_zero_or_pos fs.length with h0 | h0
  · obtain ⟨o, c, rfl, _⟩ := own_slice ho
    exact .inl ⟨o, c, by rw [h0], List.eq_nil_of_length_eq_zero h0⟩
  · obtain ⟨g, cap, rfl, hc, hm, _⟩ := own_some ho h0
    refine .inr ⟨g, 0, cap, rfl, h0, hc, hm, fun j f hf => ?_⟩
    have hj := (List.getElem?_eq_some_iff.1 hf).1
    obtain ⟨b2, off2, c2, h1, h2, h3, h4, h7⟩ := h.fun_ j f hf
    have e := fun i (hi : i < 2) => (ho.cellAt (j * 2 + i) (by omega)).trans (CsFu_get ps j i _ h1 hi)
    simp only [Nat.zero_add]
    exact ⟨(e 0 (by omega)).trans rfl, _, (e 1 (by omega)).trans rfl, .inr ⟨b2, off2, c2, rfl, h2, h3, h4, h7⟩⟩

/-- What Add leaves. -/
def AddPost (w w' : World) (M H base c : Nat) (vg v1 v2 : Value) (m : Mc) (W : List Nat) (F : List Bool) (fs : List CodM.Fun) (e : Ending) : Prop :=
  e = .returned (.int .i64 0) ∧ ∃ vf, MachE w' M H base c vf vg v1 v2 { m with funs := fs } W F ∧ Kept (fun k => k = M) w w'

set_option maxHeartbeats 4000000 in
set_option maxRecDepth 100000 in
theorem add_t {w : World} {M H base c b off cp : Nat} {vg v1 v2 : Value} {m : Mc} {W0 : List Nat} {F0 : List Bool} (fs : List CodM.Fun) (ps : List (Int × Value)) (h : MachE w M H base c (.slice none 0 0) vg v1 v2 m W0 F0) (hi : FIn w b off fs ps) (hn : fs.length ≤ 1000) (h0 : 0 < fs.length) (hc : fs.length ≤ cp) (hcm : cp ≤ maxLen) (hcode : ∀ f ∈ fs, f.code.length ≤ 100000) (hk : CodM.chk fs (m.globs.length : Int) = true) :
    Calls Tryd.prog 15 #[.pointer (some ⟨M, 0, none⟩), .slice (some ⟨b, off, none⟩) fs.length cp] w fun e w' => AddPost w w' M H base c vg v1 v2 m W0 F0 fs e := by
  have e0 := fun j => cell_of_row w M j _ _ (0, 0) h.cell
  have m0 := (e0 0).trans rfl
  have m1 := (e0 1).trans rfl
  have m2 := (e0 2).trans rfl
  obtain ⟨og, cg, rfl, hcg, hmg⟩ := own_slice h.glb
  have hni : (fs.length : Int) ≤ 1000 := by omega
  have hgl := h.gl
  have hMl := lt_of_block h.cell
  have HV : Hid (∀ W, Below w.heap.size w W → Calls Tryd.prog 25 #[.slice none 0 0] W fun e w2 => ∃ g, e = .returned (.slice (some ⟨g, 0, none⟩) 0 0) ∧ ∃ o3 c3 w3, (Builtin.append_ #[52, 52] 52 #[.slice (some ⟨g, 0, none⟩) 0 0, .slice (some ⟨b, off, none⟩) fs.length cp]).run Tryd.prog w2 = .ok (.slice o3 fs.length c3) w3 ∧ w2.cell? ⟨M, 2, none⟩ = some (.slice og m.globs.length cg) ∧ w3.cell? ⟨M, 2, none⟩ = some (.slice og m.globs.length cg) ∧
      (Calls Tryd.prog 24 #[.slice o3 fs.length c3, .int .i64 (m.globs.length : Int)] w3 fun e w4 => e = .returned (.bool true) ∧ Below w.heap.size w w4)) := by
    intro W hb
    refine (vouched_none W).mono ?_
    rintro e w2 ⟨g, rfl, ho2, hb2⟩
    have hbw : Below w.heap.size w w2 := hb.trans (hb2.mono hb.size)
    have hi2 := hi.below hbw
    obtain ⟨v3, w3, r3, o3, g3, a3⟩ := append_rows (c := cp) (ty := 52) (t := 52) fuInfo Tryd.underlying52 rfl (by decide) ho2 (m := fs.length) (by rw [CsFu_length, hi.len]) hi2.one.1 hi2.one.2 (by omega) (by omega) hb2.size
    simp only [Nat.zero_add, List.nil_append] at r3 o3
    have hb3 : Below w.heap.size w w3 := hbw.grown g3 hbw.size (fun j hj => by have := (ho2.lt j hj).1; have := hb.size; omega)
    have hi3 := hi.below hb3
    have hrd := hi3.rd o3
    obtain ⟨o, cc, rfl, _⟩ := own_slice o3
    have m2' : w.cell? ⟨M, 2, none⟩ = some (.slice og m.globs.length cg) := m2
    refine ⟨g, rfl, o, cc, w3, r3, (hbw.cell (p := ⟨M, 2, none⟩) hMl).trans m2', (hb3.cell (p := ⟨M, 2, none⟩) hMl).trans m2', ?_⟩
    refine (Oc.check_any fs (m.globs.length : Int) w3 _ hrd hcode).mono ?_
    rintro e w4 ⟨rfl, hb4⟩
    rw [hk]
    exact ⟨rfl, hb3.trans (hb4.mono hb3.size)⟩
  have HCP : Hid (∀ W, Below w.heap.size w W → Calls Tryd.prog 26 #[.slice (some ⟨b, off, none⟩) fs.length cp] W fun e w6 => ∃ o c6, e = .returned (.slice o fs.length c6) ∧ ∃ of cf w7, (Builtin.append_ #[52, 52] 52 #[.slice none 0 0, .slice o fs.length c6]).run Tryd.prog w6 = .ok (.slice of fs.length cf) w7 ∧ w6.cell? ⟨M, 1, none⟩ = some (.slice none 0 0) ∧ w7.cell? ⟨M, 1, none⟩ = some (.slice none 0 0) ∧ w7.frozen? ⟨M, 1, none⟩ = false ∧
      AddPost w (w7.setCell ⟨M, 1, none⟩ (.slice of fs.length cf)) M H base c (.slice og m.globs.length cg) v1 v2 m W0 F0 fs (.returned (.int .i64 0))) := by
    intro W hb
    refine (copied_t b off cp fs ps W (hi.below hb) hn h0 hc hcm hcode (by intro x u hu; simp only [inC, List.mem_cons, List.not_mem_nil, or_false] at hu; rcases hu with rfl | rfl | rfl | rfl <;> rfl)).mono ?_
    rintro e w6 ⟨v6, ps6, rfl, ho6, hf6, hb6⟩
    have hbw : Below w.heap.size w w6 := hb.trans (hb6.mono hb.size)
    obtain ⟨g6, c6, rfl, hk6, hm6, hg6, _⟩ := own_some ho6 h0
    have hone6 : ∀ u ∈ CsFu ps6, u.oneCell' = true := by
      intro u hu
      obtain ⟨p, hp, hu⟩ := List.mem_flatMap.1 hu
      obtain ⟨j, hj⟩ := List.getElem?_of_mem hp
      have hlt : j < fs.length := by rw [← hf6.1]; exact (List.getElem?_eq_some_iff.1 hj).1
      obtain ⟨g, c2, e, _⟩ := hf6.2 j fs[j] (List.getElem?_eq_getElem hlt)
      rw [hj] at e
      injection e with e
      subst e
      simp only [fuC, List.mem_cons, List.not_mem_nil, or_false] at hu
      rcases hu with rfl | rfl <;> rfl
    obtain ⟨v7, w7, r7, o7, g7, a7⟩ := append_rows (c := c6) (ty := 52) (t := 52) fuInfo Tryd.underlying52 rfl (by decide) (World.ownsRow_nil w6 w6.heap.size 51 2) (m := fs.length) (by rw [CsFu_length, hf6.1]) (fun j u hu => World.ownsRow.cells ho6 (g := g6) rfl j u hu) hone6 (by omega) (by omega) (Nat.le_refl _)
    simp only [Nat.zero_add, List.nil_append] at r7 o7
    obtain ⟨of, cf, rfl, _⟩ := own_slice o7
    have hb67 : Below w6.heap.size w6 w7 := (Below.refl _ _).grown g7 (Nat.le_refl _) (by simp [Value.ownBlock])
    have hb7 : Below w.heap.size w w7 := hbw.trans (hb67.mono hbw.size)
    have hM7 : w7.heap[M]? = some (.cells #[.pointer (some ⟨H, 0, none⟩), .slice none 0 0, .slice og m.globs.length cg] 56 (0, 0)) := (hb7.block M hMl).trans h.cell
    have hM6 : w6.heap[M]? = some (.cells #[.pointer (some ⟨H, 0, none⟩), .slice none 0 0, .slice og m.globs.length cg] 56 (0, 0)) := (hbw.block M hMl).trans h.cell
    have hMT : ¬ three H v1 v2 M := by
      rintro (e | e | e)
      · have h1 : TgB w M 56 := ⟨_, h.cell⟩
        have h2 : TgB w M 81 := ⟨_, e ▸ h.heap.cell⟩
        exact h1.ne h2 (by decide)
      · exact (own_tag h.heap.own1 _ e).ne ⟨_, h.cell⟩ (by decide)
      · exact (own_tag h.heap.own2 _ e).ne ⟨_, h.cell⟩ (by decide)
    have hf7 : FOut w7 W.heap.size fs ps6 := hf6.next fun q hq => by obtain ⟨_, hq⟩ := hq; exact hb67.block q (lt_of_block hq)
    have hne : (Value.slice of fs.length cf).ownBlock ≠ some M := fun a => (own_tag o7 _ a).ne ⟨_, hM7⟩ (by decide)
    have o8 : (w7.setCell ⟨M, 1, none⟩ (.slice of fs.length cf)).ownsRow w6.heap.size 51 2 (.slice of fs.length cf) fs.length (CsFu ps6) := ownsRow_setCell_other o7 hne _
    have hf8 : FOut (w7.setCell ⟨M, 1, none⟩ (.slice of fs.length cf)) W.heap.size fs ps6 := hf7.next fun q hq => heap_setCell_other _ _ _ _ (by
      rintro rfl
      exact hq.ne ⟨_, hM7⟩ (by decide))
    refine ⟨some ⟨g6, 0, none⟩, c6, rfl, of, cf, w7, r7, (cell_of_row w6 M 1 _ _ (0, 0) hM6).trans rfl, (cell_of_row w7 M 1 _ _ (0, 0) hM7).trans rfl, frozen_of_row w7 M 1 _ _ hM7, rfl, .slice of fs.length cf, ⟨heap_setCell_same w7 M 1 _ _ _ hM7, (h.heap.below hb7 (Nat.le_refl _)).setOther hMT, fun w9 hk9 => ?_, ?_, h.gne, h.len, h.wl, h.ws, h.rglb, ?_, h.q, by show fs.length ≤ 1000000; omega, h.gl⟩, ?_⟩
    · refine (hf8.next fun q hq => ?_).rd (own_kept o8 hk9 fun q a hs => ?_)
      · have hq' := hq
        obtain ⟨_, hq'⟩ := hq'
        refine hk9.block q (lt_of_block hq') ?_
        have hH8 := (h.heap.below hb7 (Nat.le_refl _)).setOther (i := 1) (u := .slice of fs.length cf) hMT
        rintro (e | e | e)
        · subst e
          exact hq.ne ⟨_, hH8.cell⟩ (by decide)
        · exact (own_tag hH8.own1 _ e).ne hq (by decide)
        · exact (own_tag hH8.own2 _ e).ne hq (by decide)
      · have h1 := h.heap.own_lt q hs
        have h2 := (o8.lt q a).1
        have := hbw.size
        omega
    · exact ownsRow_setCell_other (own_kept h.glb (Below.kept hb7 fun _ h _ => h) (fun k a b => by have := (h.glb.lt k a).2; omega)) (fun a => (own_tag h.glb _ a).ne ⟨_, h.cell⟩ (by decide)) _
    · have := h.base
      have := hb7.size
      simp [World.setCell]
      omega
    · exact Kept.setCell (S := fun k => k = M) (p := ⟨M, 1, none⟩) (Below.kept (n := w.heap.size) hb7 fun k h1 h2 => by omega) (.inl rfl) _
  have H0 := Lib.hid h
  have HI := Lib.hid hi
  have d1 : decide (4000 < (fs.length : Int)) = false := by rw [decide_eq_false_iff_not]; omega
  clear e0 h hi
  unfold maxLen at hmg
  have hB0 : Hid (Below w.heap.size w w.drew) := (Below.refl _ _).drew
  go_enter Tryd.func15, Tryd.ntmps15
  go_wp2_with fail
  go_region_law (first
    | (go_simp; go_at_call 25; refine (HV.out _ hB0.out).mono ?_; rintro e w2 ⟨g, rfl, o3, c3, w3, r3, x2, x3, hck⟩; have R3 := Lib.hid r3; have HCK := Lib.hid hck; clear r3 hck)
    | (refine step_append_known rfl (.tmp 20) (.tmp 21) 52 52 rfl _ _ _ rfl rfl R3.out ?_)
    | (go_simp; go_at_call 24; refine HCK.out.mono ?_; rintro e w4 ⟨rfl, hb4⟩; have HB4 := Lib.hid hb4; clear hb4))
  all_goals
    have HC5 := Lib.hid (HCP.out w4.drew HB4.out.drew)
    have y1 : w4.cell? ⟨M, 1, none⟩ = some (.slice none 0 0) := (HB4.out.cell (p := ⟨M, 1, none⟩) hMl).trans m1
    clear x2 x3 R3 HCK
    go_wp2_with fail
    go_region_law (first
      | (go_simp; go_at_call 26; refine HC5.out.mono ?_; rintro e w6 ⟨o6, c6, rfl, of, cf, w7, r7, x6, x7, f7, hp⟩; have R7 := Lib.hid r7; have HP := Lib.hid hp; clear r7 hp)
      | (refine step_append_known rfl (.tmp 34) (.tmp 36) 52 52 rfl _ _ _ rfl rfl R7.out ?_))
    all_goals
      go_wp2_with fail
      go_ret
      exact HP.out
end Go.Proofs.YteenlckpjncgoaaDoor
