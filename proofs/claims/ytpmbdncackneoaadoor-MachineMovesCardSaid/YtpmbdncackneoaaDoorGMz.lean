/- MacX, MacY, MacZ, in one text. -/
import Derived.Test.YtpmbdncackneoaaDoorMacU
import Derived.Test.YtpmbdncackneoaaDoorCodF
import Derived.Test.YtpmbdncackneoaaDoorGMb

namespace Go.Proofs.YtpmbdncackneoaaDoor
open Go.RowKit HeaM Ma

theorem FOut.rd {w : World} {base lo : Nat} {v : Value} {fs : List CodM.Fun} {ps : List (Int × Value)} (ho : w.ownsRow base 44 2 v fs.length (CsFu ps)) (h : FOut w lo fs ps) : Oc.RdF w v fs := by
  rcases Nat.eq_zero_or_pos fs.length with h0 | h0
  · obtain ⟨o, c, rfl, _⟩ := own_slice ho
    exact .inl ⟨o, c, by rw [h0], List.eq_nil_of_length_eq_zero h0⟩
  · obtain ⟨g, cap, rfl, hc, hm, _⟩ := own_some ho h0
    refine .inr ⟨g, 0, cap, rfl, h0, hc, hm, fun j f hf => ?_⟩
    have hj := (List.getElem?_eq_some_iff.1 hf).1
    obtain ⟨g2, c2, h1, h2, h3, h4, _, _, h7⟩ := h.2 j f hf
    have e := fun i (hi : i < 2) => (ho.cellAt (j * 2 + i) (by omega)).trans (CsFu_get ps j i _ h1 hi)
    simp only [Nat.zero_add]
    exact ⟨(e 0 (by omega)).trans rfl, _, (e 1 (by omega)).trans rfl, .inr ⟨g2, 0, c2, rfl, h2, h3, h4, h7⟩⟩

theorem FIn.one {w : World} {b off : Nat} {fs : List CodM.Fun} {ps : List (Int × Value)} (h : FIn w b off fs ps) : (∀ (j : Nat) (u : Value), (CsFu ps)[j]? = some u → w.cell? ((⟨b, off, none⟩ : Addr).add j) = some u) ∧ ∀ u ∈ CsFu ps, u.oneCell' = true := by
  refine ⟨?_, ?_⟩
  · intro j u hu
    have hj : j < ps.length * 2 := by rw [← CsFu_length]; exact (List.getElem?_eq_some_iff.1 hu).1
    have hx : ps[j / 2]? = some (ps[j / 2]'(by omega)) := List.getElem?_eq_getElem (by omega)
    obtain ⟨c1, c2⟩ := h.cells _ _ hx
    have e := CsFu_get ps (j / 2) (j % 2) _ hx (by omega)
    rw [show j / 2 * 2 + j % 2 = j by omega, hu] at e
    rw [add_none]
    have hm : j % 2 = 0 ∨ j % 2 = 1 := by omega
    rcases hm with hm | hm
    · rw [hm] at e
      rw [show off + j = off + j / 2 * 2 by omega, c1, e]
      rfl
    · rw [hm] at e
      rw [show off + j = off + j / 2 * 2 + 1 by omega, c2, e]
      rfl
  · intro u hu
    obtain ⟨p, hp, hu⟩ := List.mem_flatMap.1 hu
    obtain ⟨j, hj⟩ := List.getElem?_of_mem hp
    have hlt : j < fs.length := by rw [← h.len]; exact (List.getElem?_eq_some_iff.1 hj).1
    obtain ⟨b2, off2, c2, e, _⟩ := h.fun_ j fs[j] (List.getElem?_eq_getElem hlt)
    rw [hj] at e
    injection e with e
    subst e
    simp only [fuC, List.mem_cons, List.not_mem_nil, or_false] at hu
    rcases hu with rfl | rfl <;> rfl
theorem FIn.below {w w' : World} {b off : Nat} {fs : List CodM.Fun} {ps : List (Int × Value)} (h : FIn w b off fs ps) (hb : Below w.heap.size w w') : FIn w' b off fs ps := by
  refine ⟨h.len, fun j p hp => ?_, fun j f hf => ?_⟩
  · obtain ⟨h1, h2⟩ := h.cells j p hp
    exact ⟨(hb.cell (World.block_lt_of_cell? w _ h1)).trans h1, (hb.cell (World.block_lt_of_cell? w _ h2)).trans h2⟩
  · obtain ⟨b2, off2, c2, h1, h2, h3, h4, h5⟩ := h.fun_ j f hf
    exact ⟨b2, off2, c2, h1, h2, h3, h4, Oc.InsC.below h5 hb (Nat.le_refl _)⟩
theorem FIn.rd {w : World} {b off base : Nat} {v : Value} {fs : List CodM.Fun} {ps : List (Int × Value)} (h : FIn w b off fs ps) (ho : w.ownsRow base 44 2 v fs.length (CsFu ps)) : Oc.RdF w v fs := by
  rcases Nat.eq_zero_or_pos fs.length with h0 | h0
  · obtain ⟨o, c, rfl, _⟩ := own_slice ho
    exact .inl ⟨o, c, by rw [h0], List.eq_nil_of_length_eq_zero h0⟩
  · obtain ⟨g, cap, rfl, hc, hm, _⟩ := own_some ho h0
    refine .inr ⟨g, 0, cap, rfl, h0, hc, hm, fun j f hf => ?_⟩
    have hj := (List.getElem?_eq_some_iff.1 hf).1
    obtain ⟨b2, off2, c2, h1, h2, h3, h4, h7⟩ := h.fun_ j f hf
    have e := fun i (hi : i < 2) => (ho.cellAt (j * 2 + i) (by omega)).trans (CsFu_get ps j i _ h1 hi)
    simp only [Nat.zero_add]
    exact ⟨(e 0 (by omega)).trans rfl, _, (e 1 (by omega)).trans rfl, .inr ⟨b2, off2, c2, rfl, h2, h3, h4, h7⟩⟩

/-- What Add leaves. -/
def AddPost (w w' : World) (M H base c : Nat) (vg v1 v2 : Value) (m : Mc) (W : List Nat) (F : List Bool) (fs : List CodM.Fun) (e : Ending) : Prop :=
  e = .returned (.int .i64 0) ∧ ∃ vf, MachE w' M H base c vf vg v1 v2 { m with funs := fs } W F ∧ Kept (fun k => k = M) w w'

set_option maxHeartbeats 4000000 in
set_option maxRecDepth 100000 in
theorem add_t {w : World} {M H base c b off cp : Nat} {vg v1 v2 : Value} {m : Mc} {W0 : List Nat} {F0 : List Bool} (fs : List CodM.Fun) (ps : List (Int × Value)) (h : MachE w M H base c (.slice none 0 0) vg v1 v2 m W0 F0) (hi : FIn w b off fs ps) (hn : fs.length ≤ 1000) (h0 : 0 < fs.length) (hc : fs.length ≤ cp) (hcm : cp ≤ maxLen) (hcode : ∀ f ∈ fs, f.code.length ≤ 100000) (hk : CodM.chk fs (m.globs.length : Int) = true) :
    Calls Tryd.prog 9 #[.pointer (some ⟨M, 0, none⟩), .slice (some ⟨b, off, none⟩) fs.length cp] w fun e w' => AddPost w w' M H base c vg v1 v2 m W0 F0 fs e := by
  have e0 := fun j => cell_of_row w M j _ _ (0, 0) h.cell
  have m0 := (e0 0).trans rfl
  have m1 := (e0 1).trans rfl
  have m2 := (e0 2).trans rfl
  obtain ⟨og, cg, rfl, hcg, hmg⟩ := own_slice h.glb
  have hni : (fs.length : Int) ≤ 1000 := by omega
  have hgl := h.gl
  have hMl := lt_of_block h.cell
  have HV : Hid (∀ W, Below w.heap.size w W → Calls Tryd.prog 15 #[.slice none 0 0] W fun e w2 => ∃ g, e = .returned (.slice (some ⟨g, 0, none⟩) 0 0) ∧ ∃ o3 c3 w3, (Builtin.append_ #[45, 45] 45 #[.slice (some ⟨g, 0, none⟩) 0 0, .slice (some ⟨b, off, none⟩) fs.length cp]).run Tryd.prog w2 = .ok (.slice o3 fs.length c3) w3 ∧ w2.cell? ⟨M, 2, none⟩ = some (.slice og m.globs.length cg) ∧ w3.cell? ⟨M, 2, none⟩ = some (.slice og m.globs.length cg) ∧
      (Calls Tryd.prog 14 #[.slice o3 fs.length c3, .int .i64 (m.globs.length : Int)] w3 fun e w4 => e = .returned (.bool true) ∧ Below w.heap.size w w4)) := by
    intro W hb
    refine (vouched_none W).mono ?_
    rintro e w2 ⟨g, rfl, ho2, hb2⟩
    have hbw : Below w.heap.size w w2 := hb.trans (hb2.mono hb.size)
    have hi2 := hi.below hbw
    obtain ⟨v3, w3, r3, o3, g3, a3⟩ := append_rows (c := cp) (ty := 45) (t := 45) fuInfo Tryd.underlying45 rfl (by decide) ho2 (m := fs.length) (by rw [CsFu_length, hi.len]) hi2.one.1 hi2.one.2 (by omega) (by omega) hb2.size
    simp only [Nat.zero_add, List.nil_append] at r3 o3
    have hb3 : Below w.heap.size w w3 := hbw.grown g3 hbw.size (fun j hj => by have := (ho2.lt j hj).1; have := hb.size; omega)
    have hi3 := hi.below hb3
    have hrd := hi3.rd o3
    obtain ⟨o, cc, rfl, _⟩ := own_slice o3
    have m2' : w.cell? ⟨M, 2, none⟩ = some (.slice og m.globs.length cg) := m2
    refine ⟨g, rfl, o, cc, w3, r3, (hbw.cell (p := ⟨M, 2, none⟩) hMl).trans m2', (hb3.cell (p := ⟨M, 2, none⟩) hMl).trans m2', ?_⟩
    refine (Oc.check_any fs (m.globs.length : Int) w3 _ hrd hcode).mono ?_
    rintro e w4 ⟨rfl, hb4⟩
    rw [hk]
    exact ⟨rfl, hb3.trans (hb4.mono hb3.size)⟩
  have HCP : Hid (∀ W, Below w.heap.size w W → Calls Tryd.prog 16 #[.slice (some ⟨b, off, none⟩) fs.length cp] W fun e w6 => ∃ o c6, e = .returned (.slice o fs.length c6) ∧ ∃ of cf w7, (Builtin.append_ #[45, 45] 45 #[.slice none 0 0, .slice o fs.length c6]).run Tryd.prog w6 = .ok (.slice of fs.length cf) w7 ∧ w6.cell? ⟨M, 1, none⟩ = some (.slice none 0 0) ∧ w7.cell? ⟨M, 1, none⟩ = some (.slice none 0 0) ∧ w7.frozen? ⟨M, 1, none⟩ = false ∧
      AddPost w (w7.setCell ⟨M, 1, none⟩ (.slice of fs.length cf)) M H base c (.slice og m.globs.length cg) v1 v2 m W0 F0 fs (.returned (.int .i64 0))) := by
    intro W hb
    refine (copied_t b off cp fs ps W (hi.below hb) hn h0 hc hcm hcode (by intro x u hu; simp only [inC, List.mem_cons, List.not_mem_nil, or_false] at hu; rcases hu with rfl | rfl | rfl | rfl <;> rfl)).mono ?_
    rintro e w6 ⟨v6, ps6, rfl, ho6, hf6, hb6⟩
    have hbw : Below w.heap.size w w6 := hb.trans (hb6.mono hb.size)
    obtain ⟨g6, c6, rfl, hk6, hm6, hg6, _⟩ := own_some ho6 h0
    have hone6 : ∀ u ∈ CsFu ps6, u.oneCell' = true := by
      intro u hu
      obtain ⟨p, hp, hu⟩ := List.mem_flatMap.1 hu
      obtain ⟨j, hj⟩ := List.getElem?_of_mem hp
      have hlt : j < fs.length := by rw [← hf6.1]; exact (List.getElem?_eq_some_iff.1 hj).1
      obtain ⟨g, c2, e, _⟩ := hf6.2 j fs[j] (List.getElem?_eq_getElem hlt)
      rw [hj] at e
      injection e with e
      subst e
      simp only [fuC, List.mem_cons, List.not_mem_nil, or_false] at hu
      rcases hu with rfl | rfl <;> rfl
    obtain ⟨v7, w7, r7, o7, g7, a7⟩ := append_rows (c := c6) (ty := 45) (t := 45) fuInfo Tryd.underlying45 rfl (by decide) (World.ownsRow_nil w6 w6.heap.size 44 2) (m := fs.length) (by rw [CsFu_length, hf6.1]) (fun j u hu => World.ownsRow.cells ho6 (g := g6) rfl j u hu) hone6 (by omega) (by omega) (Nat.le_refl _)
    simp only [Nat.zero_add, List.nil_append] at r7 o7
    obtain ⟨of, cf, rfl, _⟩ := own_slice o7
    have hb67 : Below w6.heap.size w6 w7 := (Below.refl _ _).grown g7 (Nat.le_refl _) (by simp [Value.ownBlock])
    have hb7 : Below w.heap.size w w7 := hbw.trans (hb67.mono hbw.size)
    have hM7 : w7.heap[M]? = some (.cells #[.pointer (some ⟨H, 0, none⟩), .slice none 0 0, .slice og m.globs.length cg] 54 (0, 0)) := (hb7.block M hMl).trans h.cell
    have hM6 : w6.heap[M]? = some (.cells #[.pointer (some ⟨H, 0, none⟩), .slice none 0 0, .slice og m.globs.length cg] 54 (0, 0)) := (hbw.block M hMl).trans h.cell
    have hMT : ¬ three H v1 v2 M := by
      rintro (e | e | e)
      · have h1 : TgB w M 54 := ⟨_, h.cell⟩
        have h2 : TgB w M 72 := ⟨_, e ▸ h.heap.cell⟩
        exact h1.ne h2 (by decide)
      · exact (own_tag h.heap.own1 _ e).ne ⟨_, h.cell⟩ (by decide)
      · exact (own_tag h.heap.own2 _ e).ne ⟨_, h.cell⟩ (by decide)
    have hf7 : FOut w7 W.heap.size fs ps6 := hf6.next fun q hq => by obtain ⟨_, hq⟩ := hq; exact hb67.block q (lt_of_block hq)
    have hne : (Value.slice of fs.length cf).ownBlock ≠ some M := fun a => (own_tag o7 _ a).ne ⟨_, hM7⟩ (by decide)
    have o8 : (w7.setCell ⟨M, 1, none⟩ (.slice of fs.length cf)).ownsRow w6.heap.size 44 2 (.slice of fs.length cf) fs.length (CsFu ps6) := ownsRow_setCell_other o7 hne _
    have hf8 : FOut (w7.setCell ⟨M, 1, none⟩ (.slice of fs.length cf)) W.heap.size fs ps6 := hf7.next fun q hq => heap_setCell_other _ _ _ _ (by
      rintro rfl
      exact hq.ne ⟨_, hM7⟩ (by decide))
    refine ⟨some ⟨g6, 0, none⟩, c6, rfl, of, cf, w7, r7, (cell_of_row w6 M 1 _ _ (0, 0) hM6).trans rfl, (cell_of_row w7 M 1 _ _ (0, 0) hM7).trans rfl, frozen_of_row w7 M 1 _ _ hM7, rfl, .slice of fs.length cf, ⟨heap_setCell_same w7 M 1 _ _ _ hM7, (h.heap.below hb7 (Nat.le_refl _)).setOther hMT, fun w9 hk9 => ?_, ?_, h.gne, h.len, h.wl, h.ws, h.rglb, ?_, h.q, by show fs.length ≤ 1000000; omega, h.gl⟩, ?_⟩
    · refine (hf8.next fun q hq => ?_).rd (own_kept o8 hk9 fun q a hs => ?_)
      · have hq' := hq
        obtain ⟨_, hq'⟩ := hq'
        refine hk9.block q (lt_of_block hq') ?_
        have hH8 := (h.heap.below hb7 (Nat.le_refl _)).setOther (i := 1) (u := .slice of fs.length cf) hMT
        rintro (e | e | e)
        · subst e
          exact hq.ne ⟨_, hH8.cell⟩ (by decide)
        · exact (own_tag hH8.own1 _ e).ne hq (by decide)
        · exact (own_tag hH8.own2 _ e).ne hq (by decide)
      · have h1 := h.heap.own_lt q hs
        have h2 := (o8.lt q a).1
        have := hbw.size
        omega
    · exact ownsRow_setCell_other (own_kept h.glb (Below.kept hb7 fun _ h _ => h) (fun k a b => by have := (h.glb.lt k a).2; omega)) (fun a => (own_tag h.glb _ a).ne ⟨_, h.cell⟩ (by decide)) _
    · have := h.base
      have := hb7.size
      simp [World.setCell]
      omega
    · exact Kept.setCell (S := fun k => k = M) (p := ⟨M, 1, none⟩) (Below.kept (n := w.heap.size) hb7 fun k h1 h2 => by omega) (.inl rfl) _
  have H0 := Lib.hid h
  have HI := Lib.hid hi
  have d1 : decide (4000 < (fs.length : Int)) = false := by rw [decide_eq_false_iff_not]; omega
  clear e0 h hi
  unfold maxLen at hmg
  have hB0 : Hid (Below w.heap.size w w.drew) := (Below.refl _ _).drew
  go_enter Tryd.func9, Tryd.ntmps9
  go_wp2_with fail
  go_region_law (first
    | (go_simp; go_at_call 15; refine (HV.out _ hB0.out).mono ?_; rintro e w2 ⟨g, rfl, o3, c3, w3, r3, x2, x3, hck⟩; have R3 := Lib.hid r3; have HCK := Lib.hid hck; clear r3 hck)
    | (refine step_append_known rfl (.tmp 20) (.tmp 21) 45 45 rfl _ _ _ rfl rfl R3.out ?_)
    | (go_simp; go_at_call 14; refine HCK.out.mono ?_; rintro e w4 ⟨rfl, hb4⟩; have HB4 := Lib.hid hb4; clear hb4))
  all_goals
    have HC5 := Lib.hid (HCP.out w4.drew HB4.out.drew)
    have y1 : w4.cell? ⟨M, 1, none⟩ = some (.slice none 0 0) := (HB4.out.cell (p := ⟨M, 1, none⟩) hMl).trans m1
    clear x2 x3 R3 HCK
    go_wp2_with fail
    go_region_law (first
      | (go_simp; go_at_call 16; refine HC5.out.mono ?_; rintro e w6 ⟨o6, c6, rfl, of, cf, w7, r7, x6, x7, f7, hp⟩; have R7 := Lib.hid r7; have HP := Lib.hid hp; clear r7 hp)
      | (refine step_append_known rfl (.tmp 34) (.tmp 36) 45 45 rfl _ _ _ rfl rfl R7.out ?_))
    all_goals
      go_wp2_with fail
      go_ret
      exact HP.out
end Go.Proofs.YtpmbdncackneoaaDoor

namespace Go.Proofs.YtpmbdncackneoaaDoor
open Go.RowKit HeaM Ma

def mcR (ins : List CodM.Ins) : Mc := ⟨[⟨0, ins⟩], primG 8, 4000, 10⟩
/-- The state in which a function begins. -/
def st0 (fuel room : Nat) : Ms := { start (primW 8) (primF 8) fuel room with frs := [⟨0, .num 0, 0, 0⟩], stk := [.num 0] }
/-- What run leaves. -/
def LrPost (w w' : World) (_ins : List CodM.Ins) (s' : Ms) (e : Nat) (e' : Ending) : Prop :=
  ∃ vm M H base vg vf, e' = .returned (.tuple #[.agg #[.int .i64 (e : Int), .int .u64 (s'.result : Int), .string ⟨s'.raised.toArray⟩, .string ⟨s'.out.toArray⟩, vm, .int .i64 (s'.fuel : Int)], .pointer (some ⟨M, 0, none⟩)]) ∧ Below w.heap.size w w' ∧
    (∃ b0, w'.ownsRow b0 26 2 vm s'.done.length (CsMv s'.done)) ∧
    (e = 0 → ∃ u1 u2, HAt w' H base 4000 0 u1 u2 s'.W s'.F ∧ w'.heap[M]? = some (.cells #[.pointer (some ⟨H, 0, none⟩), vf, vg] 54 (0, 0)) ∧ s'.F.length = s'.W.length ∧ s'.W.length ≤ 4000 ∧ ∀ x ∈ s'.W, x < 18446744073709551616)

set_option maxHeartbeats 4000000 in
set_option maxRecDepth 100000 in
theorem lrun_t {w : World} {b off c k e fuel : Nat} {s' : Ms} (ins : List CodM.Ins) (h : Oc.InsC w b off ins) (h0 : 0 < ins.length) (hn : ins.length ≤ 100000) (hc : ins.length ≤ c) (hcm : c ≤ maxLen) (hk : CodM.chk [⟨0, ins⟩] 8 = true) (hfu : fuel ≤ 20000)
    (hd : ∀ x ∈ ins, ∀ C : Cx, C.m = mcR ins → DoC C x) (hr : Ma.runN (mcR ins) k (st0 fuel 50) = some (e, s')) :
    Calls Tryd.prog 5 #[.slice (some ⟨b, off, none⟩) ins.length c, .int .i64 (fuel : Int)] w fun e' w' => LrPost w w' ins s' e e' := by
  have HN := Lib.hid fun W => new_mach 8 4000 10 W (by omega) (by omega) (by omega) (by omega)
  have hbl : b < w.heap.size := World.block_lt_of_cell? w _ (h 0 ins[0] (by simp [h0])).1
  have hni : (ins.length : Int) ≤ 100000 := by omega
  have hfi : (fuel : Int) ≤ 20000 := by omega
  have H := Lib.hid h
  clear h
  unfold maxLen at hcm
  go_enter Tryd.func5, Tryd.ntmps5
  go_wp2_with fail
  refine (HN.out _).mono ?_
  rintro e1 w1 ⟨M, H1, vg, v1, v2, rfl, hE, hb, hM, hH⟩
  have hres := heap_alloc_new w (.cells #[.int .i64 0, .int .u64 0, .string ⟨#[]⟩, .string ⟨#[]⟩, .slice none 0 0, .int .i64 0] 33)
  have hsz1 : (w.alloc (.cells #[.int .i64 0, .int .u64 0, .string ⟨#[]⟩, .string ⟨#[]⟩, .slice none 0 0, .int .i64 0] 33)).heap.size = w.heap.size + 1 := by simp
  have hwb : Below w.heap.size w (w.alloc (.cells #[.int .i64 0, .int .u64 0, .string ⟨#[]⟩, .string ⟨#[]⟩, .slice none 0 0, .int .i64 0] 33)) := (Below.refl _ _).alloc (Nat.le_refl _) _
  rw [hsz1] at hE hb hM hH
  have hres1 := (hb.block w.heap.size (by omega)).trans hres
  have hbw1 : Below w.heap.size w w1 := hwb.trans (hb.mono (by omega))
  have hsz : w.heap.size + 1 ≤ w1.heap.size := by have := hb.size; omega
  have hba : Below w1.heap.size w1 (w1.alloc (.cells #[.int .i64 0, .slice (some ⟨b, off, none⟩) ins.length c] 44)) := (Below.refl _ _).alloc (Nat.le_refl _) _
  have hfb := heap_alloc_new w1 (.cells #[.int .i64 0, .slice (some ⟨b, off, none⟩) ins.length c] 44)
  have hfi : FIn (w1.alloc (.cells #[.int .i64 0, .slice (some ⟨b, off, none⟩) ins.length c] 44)) w1.heap.size 0 [⟨0, ins⟩] [(0, .slice (some ⟨b, off, none⟩) ins.length c)] := by
    refine ⟨rfl, fun j p hp => ?_, fun j f hf => ?_⟩
    · have hj : j = 0 := by have := (List.getElem?_eq_some_iff.1 hp).1; simpa using this
      subst hj
      simp at hp
      subst hp
      exact ⟨(cell_of_row _ w1.heap.size 0 _ _ (0, 0) hfb).trans rfl, (cell_of_row _ w1.heap.size 1 _ _ (0, 0) hfb).trans rfl⟩
    · have hj : j = 0 := by have := (List.getElem?_eq_some_iff.1 hf).1; simpa using this
      subst hj
      simp at hf
      subst hf
      exact ⟨b, off, c, rfl, h0, hc, by unfold maxLen; exact hcm, Oc.InsC.below H.out (hbw1.trans (hba.mono (by omega))) (Nat.le_refl _)⟩
  have hadd := add_t [⟨0, ins⟩] _ (hE.below hba) hfi (by simp) (by simp) (cp := 1) (by simp) (by unfold maxLen; omega) (by intro f hf; rw [List.mem_singleton] at hf; subst hf; exact hn) (by simpa [mcOf, primG] using hk)
  have hrun : ∀ (vf : Value) (W2 : World), MachE W2 M H1 (w.heap.size + 1) 0 vf vg v1 v2 (mcR ins) (primW 8) (primF 8) → Calls Tryd.prog 10 #[.pointer (some ⟨M, 0, none⟩), .int .i64 ((0 : Nat) : Int), .int .i64 (fuel : Int), .int .i64 ((10 : Nat) : Int), .int .i64 ((50 : Nat) : Int)] W2 (RunPost W2 v1 v2 M H1 (w.heap.size + 1) 0 vf vg (mcR ins) s' e) := fun vf W2 hE2 =>
    run_t (fn := 0) (fuel := fuel) (room := 50) (k := k) hE2 hfu (by omega) (by show 10 ≤ _; omega) ⟨0, ins⟩ rfl rfl (by intro g hg x hx; simp only [mcR, List.mem_singleton] at hg; subst hg; exact hd x hx) hr
  have HADD := Lib.hid hadd
  have HRUN := Lib.hid hrun
  have HRES := Lib.hid hres1
  have HBW := Lib.hid hbw1
  have HBA := Lib.hid hba
  have HE := Lib.hid hE
  clear hE hb hres hsz1 hwb hres1 hbw1 hba hfb hfi hadd hrun
  go_wp2_with fail
  refine HADD.out.mono ?_
  rintro e1 w2 ⟨rfl, vf, hE2, hk2⟩
  have HR2 := Lib.hid (HRUN.out vf w2 hE2)
  have HK2 := Lib.hid hk2
  clear hE2 hk2 HRUN
  go_wp2_with fail
  refine HR2.out.mono ?_
  rintro e1 w3 ⟨vm, rfl, hmv, hk3, hok⟩
  obtain ⟨b0, hmv⟩ := hmv
  obtain ⟨om, km, rfl, _⟩ := own_slice hmv
  have hnt : ¬ (three H1 v1 v2 w.heap.size ∨ w.heap.size = M) := by
    rintro ((e | e | e) | e)
    · omega
    · have := (HE.out.heap.own1.lt _ e).1; omega
    · have := (HE.out.heap.own2.lt _ e).1; omega
    · omega
  have hb2 : Below w.heap.size w w2 := (HBW.out.trans (HBA.out.mono (by omega))).trans (HK2.out.below (by have := HBA.out.size; omega) (fun k e => by omega))
  have hb3 : Below w.heap.size w w3 := hb2.trans (hk3.below hb2.size (by
    rintro k ((e | e | e) | e)
    · omega
    · have := (HE.out.heap.own1.lt _ e).1; omega
    · have := (HE.out.heap.own2.lt _ e).1; omega
    · omega))
  have h12 : w2.heap[w.heap.size]? = w1.heap[w.heap.size]? := (HK2.out.block _ (by have := HBA.out.size; omega) (by omega)).trans (HBA.out.block _ (by omega))
  have hblk3 : w3.heap[w.heap.size]? = some (.cells #[.int .i64 0, .int .u64 0, .string ⟨#[]⟩, .string ⟨#[]⟩, .slice none 0 0, .int .i64 0] 33 (0, 0)) := ((hk3.block _ (by have := lt_of_block (h12.trans HRES.out); exact this) hnt).trans h12).trans HRES.out
  have htr : TgB w3 w.heap.size 33 := ⟨_, hblk3⟩
  have hfinal : ∀ W4, Kept (fun q => q = w.heap.size) w3 W4 → LrPost w W4 ins s' e (.returned (.tuple #[.agg #[.int .i64 (e : Int), .int .u64 (s'.result : Int), .string ⟨s'.raised.toArray⟩, .string ⟨s'.out.toArray⟩, .slice om s'.done.length km, .int .i64 (s'.fuel : Int)], .pointer (some ⟨M, 0, none⟩)])) := by
    intro W4 hk4
    refine ⟨_, M, H1, w.heap.size + 1, vg, vf, rfl, hb3.trans (hk4.below hb3.size fun k e => by omega), ⟨b0, own_kept hmv hk4 fun q a e => (own_tag hmv q a).ne (e ▸ htr) (by decide)⟩, fun he => ?_⟩
    obtain ⟨u1, u2, hH4, hM4, hl4, hw4, hx4⟩ := hok he
    refine ⟨u1, u2, hH4.kept hk4 ?_, (hk4.block M (lt_of_block hM4) (by omega)).trans hM4, hl4, hw4, hx4⟩
    rintro q (a | a | a) e
    · omega
    · exact (own_tag hH4.own1 q a).ne (e ▸ htr) (by decide)
    · exact (own_tag hH4.own2 q a).ne (e ▸ htr) (by decide)
  have HFIN := Lib.hid hfinal
  have cc := fun j => cell_of_row w3 w.heap.size j _ _ (0, 0) hblk3
  have ff := fun j => frozen_of_row w3 w.heap.size j _ _ hblk3
  have t0 := (cc 0).trans rfl
  have t1 := (cc 1).trans rfl
  have t2 := (cc 2).trans rfl
  have t3 := (cc 3).trans rfl
  have t4 := (cc 4).trans rfl
  have t5 := (cc 5).trans rfl
  have s0 := ff 0
  have s1 := ff 1
  have s2 := ff 2
  have s3 := ff 3
  have s4 := ff 4
  have s5 := ff 5
  clear cc ff hfinal hblk3 htr hb2 hb3 h12 hk3 hok hmv hnt HR2 HADD HN
  go_wp2_with fail
  refine bodyPost_ret (v := .tuple #[.agg #[.int .i64 (e : Int), .int .u64 (s'.result : Int), .string ⟨s'.raised.toArray⟩, .string ⟨s'.out.toArray⟩, .slice om s'.done.length km, .int .i64 (s'.fuel : Int)], .pointer (some ⟨M, 0, none⟩)]) (by simp [results, Tryd.results5, go_sem, t0, t1, t2, t3, t4, t5]) rfl ?_
  refine HFIN.out _ ?_
  exact ((((((Kept.refl (fun k => k = w.heap.size) w3).setCell (p := ⟨w.heap.size, 0, none⟩) (.inl rfl) _).setCell (p := ⟨w.heap.size, 1, none⟩) (.inl rfl) _).setCell (p := ⟨w.heap.size, 2, none⟩) (.inl rfl) _).setCell (p := ⟨w.heap.size, 3, none⟩) (.inl rfl) _).setCell (p := ⟨w.heap.size, 4, none⟩) (.inl rfl) _).setCell (p := ⟨w.heap.size, 5, none⟩) (.inl rfl) _
end Go.Proofs.YtpmbdncackneoaaDoor

namespace Go.Proofs.YtpmbdncackneoaaDoor
open Go.RowKit HeaM Ma

/-- Two numbers, an operator, the end. -/
def insR (a b s : Int) : List CodM.Ins := [⟨0, a, 0, ⟨#[]⟩⟩, ⟨0, b, 0, ⟨#[]⟩⟩, ⟨20, s, 0, ⟨#[]⟩⟩, ⟨8, 0, 0, ⟨#[]⟩⟩]
theorem chkR (a b s : Int) (h0 : 0 ≤ s) (h1 : s ≤ 10) : CodM.chk [⟨0, insR a b s⟩] 8 = true := by
  refine CodM.chk_true fun f hf => ?_
  obtain rfl := List.mem_singleton.1 hf
  refine ⟨by show (0 : Int) ≤ 0; omega, fun i => if i = 0 then some (1, 0) else if i = 1 then some (2, 0) else if i = 2 then some (3, 0) else if i = 3 then some (2, 0) else none, rfl, fun i d t hi => ?_⟩
  by_cases i0 : i = 0
  · subst i0
    simp at hi
    obtain ⟨rfl, rfl⟩ := hi
    refine ⟨_, rfl, by simp [CodM.alw, CodM.nm, CodM.tk], fun s hs => ?_⟩
    simp [CodM.succ, CodM.lv, CodM.tk] at hs
    subst hs
    exact ⟨by decide, rfl⟩
  by_cases i1 : i = 1
  · subst i1
    simp at hi
    obtain ⟨rfl, rfl⟩ := hi
    refine ⟨_, rfl, by simp [CodM.alw, CodM.nm, CodM.tk], fun s hs => ?_⟩
    simp [CodM.succ, CodM.lv, CodM.tk] at hs
    subst hs
    exact ⟨by decide, rfl⟩
  by_cases i2 : i = 2
  · subst i2
    simp at hi
    obtain ⟨rfl, rfl⟩ := hi
    refine ⟨_, rfl, by simp [CodM.alw, CodM.nm, CodM.tk, h0, h1], fun s hs => ?_⟩
    simp [CodM.succ, CodM.lv, CodM.tk] at hs
    subst hs
    exact ⟨by decide, rfl⟩
  by_cases i3 : i = 3
  · subst i3
    simp at hi
    obtain ⟨rfl, rfl⟩ := hi
    refine ⟨_, rfl, by simp [CodM.alw, CodM.nm], fun s hs => ?_⟩
    simp [CodM.succ] at hs
  simp [i0, i1, i2, i3] at hi
theorem doR (a b s : Int) : ∀ x ∈ insR a b s, ∀ C : Cx, C.m = mcR (insR a b s) → DoC C x := by
  intro x hx C _
  simp only [insR, List.mem_cons, List.not_mem_nil, or_false] at hx
  rcases hx with rfl | rfl | rfl | rfl
  · exact dc_int C _ _ _
  · exact dc_int C _ _ _
  · exact dc_op C _ _ _
  · exact dc_ret C _ _ _

/-- Where the operator is met. -/
def stR (fuel : Nat) : Ms := { st0 fuel 50 with frs := [⟨0, .num 0, 0, 3⟩] }
theorem evR0 (a b s : Int) (fuel k : Nat) : Ma.runN (mcR (insR a b s)) (k + 3) (st0 fuel 50) = (match operate (mcR (insR a b s)) (stR fuel) s (.num (cut a)) (.num (cut b)) with
    | none => none
    | some (n, s') => if n = 0 then Ma.runN (mcR (insR a b s)) k s' else some (n, s')) := by
  simp [Ma.runN, st0, stR, start, Ma.step, few, mcR, insR, doI, answer, ok, push]
  generalize operate _ _ _ _ _ = R
  rcases R with _ | ⟨n, s'⟩ <;> rfl
theorem evR1 (a b s : Int) (fuel : Nat) (v : Int) : Ma.runN (mcR (insR a b s)) 2 { stR fuel with stk := [.num v, .num 0] } = some (0, { stR fuel with stk := [], frs := [], result := (V.num v).word }) := by
  simp [Ma.runN, st0, stR, start, Ma.step, few, mcR, insR, doI, ok, leave]
theorem insC_lit {w : World} {b : Nat} {t : TypeId} {l : List CodM.Ins} (h : w.heap[b]? = some (.cells (CsIn l).toArray t (0, 0))) : Oc.InsC w b 0 l := by
  intro j x hx
  have e := fun i (hi : i < 4) => CsIn_get l j i x hx hi
  have c := fun i => cell_of_row w b (j * 4 + i) _ _ (0, 0) h
  simp only [Nat.zero_add]
  refine ⟨(c 0).trans ?_, (c 1).trans ?_, (c 2).trans ?_, (c 3).trans ?_⟩
  all_goals simp only [List.getElem?_toArray]
  · exact (e 0 (by omega)).trans rfl
  · exact (e 1 (by omega)).trans rfl
  · exact (e 2 (by omega)).trans rfl
  · exact (e 3 (by omega)).trans rfl

/-- What run comes to, of two numbers and a sign. -/
theorem lrunR (a b s : Int) (fuel : Nat) (w : World) (h0 : 0 ≤ s) (h1 : s ≤ 10) (hf : fuel ≤ 20000) {k e : Nat} {s' : Ms} (hr : Ma.runN (mcR (insR a b s)) k (st0 fuel 50) = some (e, s')) :
    Calls Tryd.prog 5 #[.slice (some ⟨w.heap.size, 0, none⟩) 4 4, .int .i64 (fuel : Int)] (w.alloc (.cells #[.int .u8 0, .int .i64 a, .int .i64 0, .string ⟨#[]⟩, .int .u8 0, .int .i64 b, .int .i64 0, .string ⟨#[]⟩, .int .u8 20, .int .i64 s, .int .i64 0, .string ⟨#[]⟩, .int .u8 8, .int .i64 0, .int .i64 0, .string ⟨#[]⟩] 28)) fun e' w' => LrPost (w.alloc (.cells #[.int .u8 0, .int .i64 a, .int .i64 0, .string ⟨#[]⟩, .int .u8 0, .int .i64 b, .int .i64 0, .string ⟨#[]⟩, .int .u8 20, .int .i64 s, .int .i64 0, .string ⟨#[]⟩, .int .u8 8, .int .i64 0, .int .i64 0, .string ⟨#[]⟩] 28)) w' (insR a b s) s' e e' :=
  lrun_t (c := 4) (insR a b s) (insC_lit (l := insR a b s) (heap_alloc_new w _)) (by show 0 < 4; omega) (by show 4 ≤ _; omega) (by show 4 ≤ 4; omega) (by unfold maxLen; omega) (chkR a b s h0 h1) hf (doR a b s) hr

/-- The same, as numbers alone. -/
def RPost (w : World) (E R Fu : Int) (ra ou : ByteArray) (e' : Ending) (w' : World) : Prop :=
  ∃ o n c M, e' = .returned (.tuple #[.agg #[.int .i64 E, .int .u64 R, .string ra, .string ou, .slice o n c, .int .i64 Fu], .pointer (some ⟨M, 0, none⟩)]) ∧ Below w.heap.size w w'
theorem lrunR' (a b s : Int) (fuel : Nat) (w : World) (h0 : 0 ≤ s) (h1 : s ≤ 10) (hf : fuel ≤ 20000) {k e : Nat} {s' : Ms} {E R Fu : Int} {ra ou : ByteArray} (hr : Ma.runN (mcR (insR a b s)) k (st0 fuel 50) = some (e, s')) (hE : (e : Int) = E) (hR : (s'.result : Int) = R) (hF : (s'.fuel : Int) = Fu) (hra : (⟨s'.raised.toArray⟩ : ByteArray) = ra) (hou : (⟨s'.out.toArray⟩ : ByteArray) = ou) :
    Calls Tryd.prog 5 #[.slice (some ⟨w.heap.size, 0, none⟩) 4 4, .int .i64 (fuel : Int)] (w.alloc (.cells #[.int .u8 0, .int .i64 a, .int .i64 0, .string ⟨#[]⟩, .int .u8 0, .int .i64 b, .int .i64 0, .string ⟨#[]⟩, .int .u8 20, .int .i64 s, .int .i64 0, .string ⟨#[]⟩, .int .u8 8, .int .i64 0, .int .i64 0, .string ⟨#[]⟩] 28)) (RPost w E R Fu ra ou) := by
  refine (lrunR a b s fuel w h0 h1 hf hr).mono ?_
  rintro e' w' ⟨vm, M, H, base, vg, vf, rfl, hb, ⟨b0, ho⟩, _⟩
  obtain ⟨o, c, rfl, _⟩ := own_slice ho
  subst hE hR hF hra hou
  exact ⟨o, _, c, M, rfl, ((Below.refl _ w).alloc (Nat.le_refl _) _).trans (hb.mono (by simp))⟩

set_option maxHeartbeats 1000000 in
set_option maxRecDepth 100000 in
theorem lawake (w : World) : Calls Tryd.prog 4 #[] w fun e w' => e = .returned (.bool true) ∧ Below w.heap.size w w' := by
  have hr : Ma.runN (mcR (insR 2 3 2)) 5 (st0 9 50) = some (0, { stR 9 with stk := [], frs := [], result := (V.num 6).word }) := by
    rw [show 5 = 2 + 3 from rfl, evR0]
    have e : operate (mcR (insR 2 3 2)) (stR 9) 2 (.num (cut 2)) (.num (cut 3)) = some (0, { stR 9 with stk := [.num 6, .num 0] }) := by
      simp [operate, reckon, answer, ok, push, cut, stR, st0, start]
    rw [e]
    exact evR1 2 3 2 9 6
  have HR := Lib.hid (lrunR' (E := 0) (R := 13) (Fu := 9) (ra := ⟨#[]⟩) (ou := ⟨#[]⟩) 2 3 2 9 w (by omega) (by omega) (by omega) hr rfl rfl rfl rfl rfl)
  have HN6 : Hid (∀ w : World, Calls Tryd.prog 7 #[.int .i64 6] w fun e w' => e = .returned (.int .u64 13) ∧ w = w') := fun w => num_t 6 w
  clear hr
  go_enter Tryd.func4, Tryd.ntmps4
  go_wp2_with fail
  refine HR.out.mono ?_
  rintro e w1 ⟨o, n, c, M, rfl, hb⟩
  have HB := Lib.hid hb
  clear hb HR
  go_wp2_with fail
  have hba := (Below.refl w1.heap.size w1).alloc (Nat.le_refl _) (.cells #[.int .i64 0, .int .u64 13, .string ⟨#[]⟩, .string ⟨#[]⟩, .slice o n c, .int .i64 9] 33)
  have hblk := heap_alloc_new w1 (.cells #[.int .i64 0, .int .u64 13, .string ⟨#[]⟩, .string ⟨#[]⟩, .slice o n c, .int .i64 9] 33)
  have HB2 := Lib.hid (HB.out.trans (hba.mono HB.out.size))
  have cc := fun j => cell_of_row _ w1.heap.size j _ _ (0, 0) hblk
  have t0 := (cc 0).trans rfl
  have t1 := (cc 1).trans rfl
  have t5 := (cc 5).trans rfl
  clear cc hba hblk
  generalize (w1.alloc (.cells #[.int .i64 0, .int .u64 13, .string ⟨#[]⟩, .string ⟨#[]⟩, .slice o n c, .int .i64 9] 33)) = w2 at *
  go_quiet (first
    | (go_at_call 7; exact Calls.quiet_of_same ((HN6.out _).mono fun _ _ h => ⟨h.1, h.2.symm⟩)))
  have HB3 : Hid (Below w.heap.size w (w2.drewN nq)) := HB2.out.trans (below_drewN _ _ _)
  generalize w2.drewN nq = w3 at *
  go_wp2
  go_ret
  exact ⟨rfl, HB3.out⟩
end Go.Proofs.YtpmbdncackneoaaDoor
