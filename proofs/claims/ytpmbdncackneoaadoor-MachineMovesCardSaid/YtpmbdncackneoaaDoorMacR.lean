/- Run. -/
import Derived.Test.YtpmbdncackneoaaDoorMacO
import Derived.Test.YtpmbdncackneoaaDoorHeaC
import Derived.BigRegion
namespace Go.Proofs.YtpmbdncackneoaaDoor
open Go.RowKit HeaM Ma

/-- A machine in memory. -/
structure MachE (w : World) (M H base c : Nat) (vf vg v1 v2 : Value) (m : Mc) (W : List Nat) (F : List Bool) : Prop where
  cell : w.heap[M]? = some (.cells #[.pointer (some ⟨H, 0, none⟩), vf, vg] 54 (0, 0))
  heap : HAt w H base m.q c v1 v2 W F
  funs : ∀ w', Kept (three H v1 v2) w w' → Oc.RdF w' vf m.funs
  glb : w.ownsRow base 31 1 vg m.globs.length (Ws (m.globs.map V.word))
  gne : ∀ k, vg.ownBlock = some k → v1.ownBlock ≠ some k
  len : F.length = W.length
  wl : W.length ≤ m.q
  ws : ∀ x ∈ W, x < 18446744073709551616
  rglb : ∀ v ∈ m.globs, Rep W F v
  base : base ≤ w.heap.size
  q : m.q ≤ 1048576
  fl : m.funs.length ≤ 1000000
  gl : m.globs.length ≤ 1000000

theorem MachE.below {w w' : World} {M H base c : Nat} {vf vg v1 v2 : Value} {m : Mc} {W : List Nat} {F : List Bool} (h : MachE w M H base c vf vg v1 v2 m W F) (hb : Below w.heap.size w w') : MachE w' M H base c vf vg v1 v2 m W F := by
  refine ⟨(hb.block M (lt_of_block h.cell)).trans h.cell, h.heap.below hb (Nat.le_refl _), fun w2 hk => h.funs w2 ?_, own_kept h.glb (Below.kept hb fun _ h _ => h) fun k a b => by have := (h.glb.lt k a).2; omega, h.gne, h.len, h.wl, h.ws, h.rglb, Nat.le_trans h.base hb.size, h.q, h.fl, h.gl⟩
  exact (Below.kept (S := three H v1 v2) hb (fun k h1 h2 => by omega)).trans hk

def cxOf (w1 : World) (M H base c : Nat) (vf vg v1 v2 : Value) (m : Mc) : Cx := ⟨M, H, base, c, w1, v1, v2, vf, vg, m⟩
def start (W : List Nat) (F : List Bool) (fuel room : Nat) : Ms := ⟨W, F, [], [], [], fuel, room, [], [], [], 0⟩

theorem MachE.kept_glb {w : World} {M H base c : Nat} {vf vg v1 v2 : Value} {m : Mc} {W : List Nat} {F : List Bool} (h : MachE w M H base c vf vg v1 v2 m W F) {w' : World} (hk : Kept (three H v1 v2) w w') : RdW w' vg (m.globs.map V.word) := by
  refine RdV.of_own (own_kept h.glb hk ?_)
  rintro k a (b | b | b)
  · subst b
    exact (own_tag h.glb _ a).ne ⟨_, h.heap.cell⟩ (by decide)
  · exact h.gne k a b
  · exact (own_tag h.glb k a).ne (own_tag h.heap.own2 k b) (by decide)

theorem MachE.run {w w1 : World} {M H base c : Nat} {vf vg v1 v2 : Value} {m : Mc} {W : List Nat} {F : List Bool} (h : MachE w M H base c vf vg v1 v2 m W F) (hb : Below w.heap.size w w1) (fuel room : Nat) (hf : fuel ≤ 1000000) (hr : room ≤ 1000000000) (hm : m.moves ≤ 9223372036854775807) :
    RunE (cxOf w1 M H base c vf vg v1 v2 m) (w1.alloc (.cells #[.pointer (some ⟨M, 0, none⟩), .slice none 0 0, .slice none 0 0, .slice none 0 0, .int .i64 (fuel : Int), .int .i64 (m.moves : Int), .int .i64 (room : Int), .slice none 0 0, .slice none 0 0, .string ⟨#[]⟩, .int .u64 0] 66)) (start W F fuel room) := by
  have hs := hb.size
  have hM : M < w.heap.size := lt_of_block h.cell
  have hMT : ¬ three H v1 v2 M := by
    rintro (e | e | e)
    · have h1 : TgB w M 54 := ⟨_, h.cell⟩
      have h2 : TgB w M 72 := ⟨_, e ▸ h.heap.cell⟩
      exact h1.ne h2 (by decide)
    · exact (own_tag h.heap.own1 _ e).ne ⟨_, h.cell⟩ (by decide)
    · exact (own_tag h.heap.own2 _ e).ne ⟨_, h.cell⟩ (by decide)
  have hkk : ∀ w', Kept (cxOf w1 M H base c vf vg v1 v2 m).Sd w1 w' → Kept (three H v1 v2) w w' := by
    intro w' hk
    refine ((Below.kept (S := three H v1 v2) hb (fun k h1 h2 => by omega))).step hk ?_
    rintro k (h1 | h1)
    · exact .inl h1
    · exact .inr (Nat.le_trans hs h1)
  have hnew := heap_alloc_new w1 (.cells #[.pointer (some ⟨M, 0, none⟩), .slice none 0 0, .slice none 0 0, .slice none 0 0, .int .i64 (fuel : Int), .int .i64 (m.moves : Int), .int .i64 (room : Int), .slice none 0 0, .slice none 0 0, .string ⟨#[]⟩, .int .u64 0] 66)
  refine ⟨.slice none 0 0, .slice none 0 0, .slice none 0 0, .slice none 0 0, .slice none 0 0, v1, v2, ⟨fun w' hk => ⟨h.funs w' (hkk w' hk), h.kept_glb (hkk w' hk), ?_⟩, Nat.le_trans h.base hs, h.q, hm, h.fl, h.gl⟩, hnew, ⟨⟨_, hnew⟩, World.ownsRow_nil _ _ _ _, World.ownsRow_nil _ _ _ _, World.ownsRow_nil _ _ _ _, World.ownsRow_nil _ _ _ _, World.ownsRow_nil _ _ _ _, (h.heap.below hb (Nat.le_refl _)).below ((Below.refl _ _).alloc (Nat.le_refl _) _) (Nat.le_refl _), fun k hk => .inl hk, by simp [Value.ownBlock], (Kept.refl _ _).alloc _, h.len, h.wl, h.ws, by simp [start], by simp [start], h.rglb, hf, hr⟩⟩
  exact ((hkk w' hk).block M hM hMT).trans h.cell

/-- What Run leaves. -/
def RunPost (w : World) (v1 v2 : Value) (M H base c : Nat) (vf vg : Value) (m : Mc) (s' : Ms) (e : Nat) (e' : Ending) (w' : World) : Prop :=
  ∃ vm, e' = .returned (.agg #[.int .i64 (e : Int), .int .u64 (s'.result : Int), .string ⟨s'.raised.toArray⟩, .string ⟨s'.out.toArray⟩, vm, .int .i64 (s'.fuel : Int)]) ∧
    (∃ b0, w'.ownsRow b0 26 2 vm s'.done.length (CsMv s'.done)) ∧ Kept (fun k => three H v1 v2 k ∨ k = M) w w' ∧
    (e = 0 → ∃ u1 u2, HAt w' H base m.q c u1 u2 s'.W s'.F ∧ w'.heap[M]? = some (.cells #[.pointer (some ⟨H, 0, none⟩), vf, vg] 54 (0, 0)) ∧ s'.F.length = s'.W.length ∧ s'.W.length ≤ m.q ∧ ∀ x ∈ s'.W, x < 18446744073709551616)

theorem conv_own {w : World} {base n : Nat} {v : Value} {l : List UInt8} (h : w.ownsRow base 5 1 v n (Bs l)) : (convert 64 9 v).run Tryd.prog w = .ok (.string ⟨l.toArray⟩) w := by
  have hn : l.length = n := by have := h.1; simpa [Bs] using this
  rcases l with _ | ⟨x, t⟩
  · have : n = 0 := by simpa using hn.symm
    subst this
    obtain ⟨o, c, rfl, _⟩ := own_slice h
    rw [run_convert_bytes_string w 64 9 5 o _ c Tryd.underlying64 Tryd.underlying5 Tryd.underlying9]
    cases o with
    | none => rfl
    | some a => rw [run_bytesToString w _ 0 c [] (by simp [loadCells, loadCellsFrom])]; rfl
  · obtain ⟨g, cap, rfl, _⟩ := own_some h (by rw [← hn]; simp)
    subst hn
    rw [run_convert_bytes_arg w 64 5 Tryd.underlying64 Tryd.underlying5 g 0 _ _ ((x :: t).map fun b => (b.toNat : Int)) (by simp) (fun i hi => by
      rw [Nat.zero_add, h.cellAt i (by omega), nums_getD _ i hi]
      simp only [Bs, List.getElem?_map, List.getElem?_eq_getElem hi]
      rfl) 9 Tryd.underlying9, strOf]

theorem step_inv {c : Mc} {s : Ms} {r : Nat × Ms} (h : Ma.step c s = some r) : ∃ f fs g x, few s ∧ s.frs = f :: fs ∧ c.funs[f.fn]? = some g ∧ 0 ≤ f.at_ ∧ f.at_ ≤ 100000000 ∧ g.code[f.at_.toNat]? = some x ∧ doI c { s with frs := { f with at_ := f.at_ + 1 } :: fs } { f with at_ := f.at_ + 1 } fs x = some r := by
  unfold Ma.step at h
  by_cases hw : few s
  · rw [if_pos hw] at h
    rcases hf : s.frs with _ | ⟨f, fs⟩
    · rw [hf] at h; cases h
    · rw [hf] at h
      simp only at h
      rcases hg : c.funs[f.fn]? with _ | g
      · rw [hg] at h; cases h
      · rw [hg] at h
        simp only at h
        by_cases ha : 0 ≤ f.at_ ∧ f.at_ ≤ 100000000
        · rw [if_pos ha] at h
          rcases hx : g.code[f.at_.toNat]? with _ | x
          · rw [hx] at h; cases h
          · rw [hx] at h
            exact ⟨f, fs, g, x, hw, rfl, hg, ha.1, ha.2, hx, h⟩
        · rw [if_neg ha] at h; cases h
  · rw [if_neg hw] at h; cases h

set_option maxHeartbeats 4000000 in
set_option maxRecDepth 100000 in
theorem run_t {w : World} {M H base c : Nat} {vf vg v1 v2 : Value} {m : Mc} {W : List Nat} {F : List Bool} {fn fuel room k e : Nat} {s' : Ms} (h : MachE w M H base c vf vg v1 v2 m W F) (hfu : fuel ≤ 20000) (hro : room ≤ 1000000000) (hmo : m.moves ≤ 9223372036854775807)
    (gf : CodM.Fun) (hg : m.funs[fn]? = some gf) (hc : gf.caps = 0)
    (hd : ∀ g ∈ m.funs, ∀ x ∈ g.code, ∀ C : Cx, C.m = m → DoC C x)
    (hr : Ma.runN m k { start W F fuel room with frs := [⟨fn, .num 0, 0, 0⟩], stk := [.num 0] } = some (e, s')) :
    Calls Tryd.prog 10 #[.pointer (some ⟨M, 0, none⟩), .int .i64 (fn : Int), .int .i64 (fuel : Int), .int .i64 (m.moves : Int), .int .i64 (room : Int)] w (RunPost w v1 v2 M H base c vf vg m s' e) := by
  have hb0 : Below w.heap.size w (w.alloc (.cells #[.int .i64 0, .int .u64 0, .string ⟨#[]⟩, .string ⟨#[]⟩, .slice none 0 0, .int .i64 0] 33)) := (Below.refl _ _).alloc (Nat.le_refl _) _
  have hres := heap_alloc_new w (.cells #[.int .i64 0, .int .u64 0, .string ⟨#[]⟩, .string ⟨#[]⟩, .slice none 0 0, .int .i64 0] 33)
  obtain ⟨of, cf, rfl⟩ : ∃ o c, vf = .slice o m.funs.length c := (h.funs w (Kept.refl _ _)).form
  obtain ⟨og, cg, rfl, hcg, hmg⟩ := own_slice h.glb
  have h := h.below hb0
  have HB0 := Lib.hid hb0
  clear hb0
  have e0 := fun j => cell_of_row (w.alloc (.cells #[.int .i64 0, .int .u64 0, .string ⟨#[]⟩, .string ⟨#[]⟩, .slice none 0 0, .int .i64 0] 33)) M j _ _ (0, 0) h.cell
  have m0 := (e0 0).trans rfl
  have m1 := (e0 1).trans rfl
  have m2 := (e0 2).trans rfl
  have hfl := h.fl
  have hfnn : fn < m.funs.length := (List.getElem?_eq_some_iff.1 hg).1
  have hcaps : ∃ b off, of = some ⟨b, off, none⟩ ∧ m.funs.length ≤ cf ∧ cf ≤ maxLen ∧ (w.alloc (.cells #[.int .i64 0, .int .u64 0, .string ⟨#[]⟩, .string ⟨#[]⟩, .slice none 0 0, .int .i64 0] 33)).cell? ⟨b, off + fn * 2, none⟩ = some (.int .i64 0) := by
    rcases h.funs (w.alloc (.cells #[.int .i64 0, .int .u64 0, .string ⟨#[]⟩, .string ⟨#[]⟩, .slice none 0 0, .int .i64 0] 33)) (Kept.refl _ _) with ⟨o, c', h1, hnil⟩ | ⟨b, off, c', h1, hl, hlc, hcm, hC⟩
    · rw [hnil] at hg; simp at hg
    · simp only [Value.slice.injEq, true_and] at h1
      obtain ⟨rfl, rfl⟩ := h1
      exact ⟨b, off, rfl, hlc, hcm, by rw [(hC fn gf hg).1, hc]⟩
  obtain ⟨b, off, rfl, hlc, hcm, hcc⟩ := hcaps
  have hfui : (fuel : Int) ≤ 20000 := by omega
  have hroi : (room : Int) ≤ 1000000000 := by omega
  have hmoi : (m.moves : Int) ≤ 9223372036854775807 := by omega
  have hfli : (m.funs.length : Int) ≤ 1000000 := by omega
  have hfi : (fn : Int) < (m.funs.length : Int) := by omega
  have hflt : decide ((m.funs.length : Int) ≤ (fn : Int)) = false := by rw [decide_eq_false_iff_not]; omega
  have d1 : decide ((fn : Int) < 0) = false := by rw [decide_eq_false_iff_not]; omega
  have d2 : decide ((fuel : Int) < 0) = false := by rw [decide_eq_false_iff_not]; omega
  have d3 : decide (20000 < (fuel : Int)) = false := by rw [decide_eq_false_iff_not]; omega
  have d4 : decide ((m.moves : Int) < 0) = false := by rw [decide_eq_false_iff_not]; omega
  have d5 : decide ((room : Int) < 0) = false := by rw [decide_eq_false_iff_not]; omega
  unfold maxLen at hcm hmg
  have H0 := Lib.hid h
  clear h e0
  generalize m.funs.length = FL at *
  generalize m.globs.length = GL at *
  go_enter Tryd.func10, Tryd.ntmps10
  go_wp2_with fail
  generalize (w.alloc (.cells #[.int .i64 0, .int .u64 0, .string ⟨#[]⟩, .string ⟨#[]⟩, .slice none 0 0, .int .i64 0] 33)) = w0 at *
  clear m1 hcc d1 d2 d3 d4 d5 hflt
  have hMl : M < w0.heap.size := lt_of_block H0.out.cell
  have h1 : ∀ W1 : World, Below w0.heap.size w0 W1 → Calls Tryd.prog 17 #[.pointer (some ⟨H, 0, none⟩)] W1 fun e w' => CopyPost W1 w' m.q c W F e := fun W1 hb => copy_t H base m.q c v1 v2 W F W1 (H0.out.below hb).heap (by have := H0.out.wl; have := H0.out.q; omega) H0.out.len
  have h2 : ∀ W1 : World, Below w0.heap.size w0 W1 → Calls Tryd.prog 18 #[.slice og GL cg] W1 fun e w' => ∃ v', e = .returned v' ∧ OwnW w' W1.heap.size v' (m.globs.map V.word) ∧ Below W1.heap.size W1 w' := fun W1 hb => by
    have := cloneW _ (Ws (m.globs.map V.word)) W1 (RdV.below (RdV.of_own H0.out.glb) hb) (Ws_one _) (by rw [Ws_length, List.length_map]; have := H0.out.gl; omega)
    rw [Ws_length] at this
    exact this
  have H1 := Lib.hid h1
  have H2 := Lib.hid h2
  clear h1 h2
  go_region_held3 (fun w' => w'.cell? ⟨M, 0, none⟩ = some (.pointer (some ⟨H, 0, none⟩)) ∧ w'.cell? ⟨M, 2, none⟩ = some (.slice og GL cg)) (go_keep)
    (first
      | (go_at_call 17; refine (H1.out _ (by first | exact Below.refl _ _ | exact (Below.refl _ _).drew)).mono ?_; rintro e wa ⟨dd, u1, u2, rfl, ha1, hb1, hc1⟩; have d0 := (hb1.cell (p := ⟨M, 0, none⟩) hMl).trans m0; have d2 := (hb1.cell (p := ⟨M, 2, none⟩) hMl).trans m2; have HB1 : Hid (Below w0.heap.size w0 wa) := ((Below.refl _ w0).drew).trans hb1; have HA1 := Lib.hid ha1; clear ha1 hb1)
      | (go_at_call 18; refine (H2.out _ HB1.out).mono ?_; rintro e wb ⟨u3, rfl, ho2, hb2⟩; obtain ⟨p2, z2, rfl, -⟩ := own_slice ho2; have d0 := (hb2.cell (p := ⟨M, 0, none⟩) (by have := HB1.out.size; simp; omega)).trans d0; have d2 := (hb2.cell (p := ⟨M, 2, none⟩) (by have := HB1.out.size; simp; omega)).trans d2; have HB2 := Lib.hid hb2; have HO2 := Lib.hid ho2; clear ho2 hb2))
  have hbb : Below w0.heap.size w0 wb := HB1.out.trans (HB2.out.mono HB1.out.size)
  have HBB := Lib.hid hbb
  have HKW : Hid (Kept (fun k => three H v1 v2 k ∨ k = M) w wb) := Below.kept (n := w.heap.size) (HB0.out.trans (hbb.mono HB0.out.size)) fun k h1 h2 => by omega
  have hresb := (hbb.block _ (lt_of_block hres)).trans hres
  have hrun := H0.out.run hbb fuel room (by omega) hro hmo
  have HRUN := Lib.hid hrun
  obtain ⟨ou1, ku1, hu1, _⟩ := own_slice HA1.out.own1
  obtain ⟨ou2, ku2, hu2, _⟩ := own_slice HA1.out.own2
  subst hu1 hu2
  have hdb : wb.heap[dd]? = some (.cells #[.int .i64 (m.q : Int), .int .i64 (c : Int), .slice ou1 W.length ku1, .slice ou2 F.length ku2] 72 (0, 0)) := (HB2.out.block dd (lt_of_block HA1.out.cell)).trans HA1.out.cell
  have hdlt : dd < wb.heap.size := lt_of_block hdb
  have hdge : w0.heap.size ≤ dd := hc1 dd (.inl rfl)
  have HDB := Lib.hid hdb
  clear hdb
  have HRES := Lib.hid hresb
  have HTG : Hid (TgB w0 w.heap.size 33) := ⟨_, hres⟩
  have HLT := Lib.hid (lt_of_block hres)
  clear hbb hresb hres hrun HB1 HB2 H1 H2 d0 d2 m0 m2
  have HN0 : Hid (∀ w : World, Calls Tryd.prog 7 #[.int .i64 0] w fun e w' => e = .returned (.int .u64 ((1 : Nat) : Int)) ∧ w = w') := fun w => num_t 0 w
  obtain ⟨C, hC, hlo, hCm⟩ : ∃ C, C = cxOf wb M H base c (.slice (some ⟨b, off, none⟩) FL cf) (.slice og GL cg) v1 v2 m ∧ C.lo = wb.heap.size ∧ C.m = m := ⟨_, rfl, rfl, rfl⟩
  rw [← hC] at HRUN
  have hent := enter_t (fn := fn) (self := .num 0) (v := .num 0) (x := 1) (y := 1) HRUN.out (by show (-4611686018427387904 : Int) ≤ 0 ∧ (0 : Int) < _; omega) (by show (-4611686018427387904 : Int) ≤ 0 ∧ (0 : Int) < _; omega) rfl rfl (by show 0 + 3 * 0 ≤ _; omega) (by show 0 ≤ _; omega)
  rw [hlo] at hent
  have HENT := Lib.hid hent
  clear hent
  go_wp2_with fail
  refine (HN0.out _).mono ?_
  rintro e1 w' ⟨rfl, rfl⟩
  go_wp2_with fail
  refine (HN0.out _).mono ?_
  rintro e1 w' ⟨rfl, rfl⟩
  go_wp2_with fail
  refine HENT.out.mono ?_
  rintro e1 w2 ⟨rfl, h2⟩
  have HE2 := Lib.hid h2
  clear h2 HENT HRUN
  go_wp2_with fail
  have hm1 : C.m = m := hCm
  rw [← hlo]
  have HLO := Lib.hid hlo
  have HCC := Lib.hid hC
  have HM1 := Lib.hid hm1
  clear hfui hroi hmoi hfi hmg hcm hlc hlo hC hm1 hCm
  have hr0 : (∃ K0 : Nat, K0 = k) := ⟨k, rfl⟩
  go_loopg [14] k (fun K E wr => ∃ (ek : Nat) (st : Ms), E = .int .i64 (ek : Int) ∧ RunE C wr st ∧ ((ek = 0 ∧ Ma.runN m K st = some (e, s')) ∨ (ek = e ∧ e ≠ 0 ∧ st = s')))
  case atStart => exact ⟨0, _, rfl, HE2.out, .inl ⟨rfl, hr⟩⟩
  case round =>
    obtain ⟨ek, st, rfl, hE, hcase⟩ := hrel
    obtain ⟨vfr, vst, vtr, vout, vdn, u1', u2', hF⟩ := hE
    obtain ⟨c0, c1, _⟩ := hF.cells
    obtain ⟨o1, k1, hv1, hk1, hm1'⟩ := own_slice hF.g.fr
    subst hv1
    have HF := Lib.hid hF
    rcases hcase with ⟨rfl, hrn⟩ | ⟨rfl, he0, rfl⟩
    · rcases gk with _ | K
      · cases hrn
      · by_cases hz : st.frs.length = 0
        · have hes : (0, st) = (e, s') := by
            unfold Ma.runN at hrn
            rw [if_pos hz] at hrn
            exact Option.some.inj hrn
          simp only [Prod.mk.injEq] at hes
          obtain ⟨rfl, rfl⟩ := hes
          rw [hz] at c1
          clear hrn hF
          go_wp2_with fail
          obtain ⟨W3, hW3⟩ : ∃ W3, W3 = wr.drew := ⟨_, rfl⟩
          have h3 := HF.out.drewN 1
          change RunF C wr.drew _ _ _ _ _ _ _ _ at h3
          rw [← hW3] at h3
          obtain ⟨_, _, _, _, r4, r5, r6, r7, r8, r9, r10⟩ := h3.cells
          obtain ⟨o7, k7, hv7, _⟩ := own_slice h3.g.out
          obtain ⟨o8, k8, hv8, _⟩ := own_slice h3.g.dn
          have hcv := conv_own h3.g.out
          subst hv7 hv8
          have hkb := h3.g.kept
          have hw0 : C.w0 = wb := by rw [HCC.out]; rfl
          rw [hw0] at hkb
          have hbk : ∀ q, q < w0.heap.size → ¬ three H v1 v2 q → W3.heap[q]? = wb.heap[q]? := by
            intro q h1 h2
            refine hkb.block q (by have := HBB.out.size; omega) ?_
            rw [HCC.out]
            rintro (h4 | h4)
            · exact h2 h4
            · have h5 : wb.heap.size ≤ q := h4
              have := HBB.out.size
              omega
          have hnr : ¬ three H v1 v2 w.heap.size := by
            rintro (h4 | h4 | h4)
            · have h5 : TgB w0 w.heap.size 33 := HTG.out
              have h6 : TgB w0 H 72 := ⟨_, H0.out.heap.cell⟩
              rw [h4] at h5
              exact h5.ne h6 (by decide)
            · exact (own_tag H0.out.heap.own1 _ h4).ne HTG.out (by decide)
            · exact (own_tag H0.out.heap.own2 _ h4).ne HTG.out (by decide)
          have hblk3 := (hbk w.heap.size HLT.out hnr).trans HRES.out
          have cc := fun j => cell_of_row W3 w.heap.size j _ _ (0, 0) hblk3
          have ff := fun j => frozen_of_row W3 w.heap.size j _ _ hblk3
          have t0 := (cc 0).trans rfl
          have t1 := (cc 1).trans rfl
          have t2 := (cc 2).trans rfl
          have t3 := (cc 3).trans rfl
          have t4 := (cc 4).trans rfl
          have t5 := (cc 5).trans rfl
          have s0 := ff 0
          have s1 := ff 1
          have s2 := ff 2
          have s3 := ff 3
          have s4 := ff 4
          have s5 := ff 5
          have hH : HAt W3 H base m.q c u1' u2' st.W st.F := by
            have h5 := h3.g.heap
            rw [HCC.out] at h5
            exact h5
          have hMc : W3.heap[M]? = some (.cells #[.pointer (some ⟨H, 0, none⟩), .slice (some ⟨b, off, none⟩) FL cf, .slice og GL cg] 54 (0, 0)) := by
            have h5 := (h3.fit.stat W3 h3.g.kept).2.2
            rw [HCC.out] at h5
            exact h5
          have hwl : st.W.length ≤ m.q := by
            have h5 := h3.g.wl
            rw [HM1.out] at h5
            exact h5
          have hwbs : w.heap.size ≤ wb.heap.size := HKW.out.size
          have hfinal : ∀ W4, Kept (fun q => q = w.heap.size) W3 W4 → (∃ b0, W4.ownsRow b0 26 2 (.slice o8 st.done.length k8) st.done.length (CsMv st.done)) ∧ Kept (fun k => three H v1 v2 k ∨ k = M) w W4 ∧ (∃ u1 u2, HAt W4 H base m.q c u1 u2 st.W st.F ∧ W4.heap[M]? = some (.cells #[.pointer (some ⟨H, 0, none⟩), .slice (some ⟨b, off, none⟩) FL cf, .slice og GL cg] 54 (0, 0)) ∧ st.F.length = st.W.length ∧ st.W.length ≤ m.q ∧ ∀ x ∈ st.W, x < 18446744073709551616) := by
            intro W4 hk4
            have htr : TgB W3 w.heap.size 33 := ⟨_, hblk3⟩
            refine ⟨⟨_, own_kept h3.g.dn hk4 fun q a e => (own_tag h3.g.dn q a).ne (e ▸ htr) (by decide)⟩, (HKW.out.step hkb (by
              intro q hq
              rw [HCC.out] at hq
              rcases hq with hq | hq
              · exact .inl (.inl hq)
              · have h5 : wb.heap.size ≤ q := hq
                exact .inr (Nat.le_trans hwbs h5))).step hk4 (fun q hq => .inr (Nat.le_of_eq hq.symm)), ⟨u1', u2', hH.kept hk4 ?_, (hk4.block M (lt_of_block hMc) (fun e => (show TgB W3 M 54 from ⟨_, hMc⟩).ne (e ▸ htr) (by decide))).trans hMc, h3.g.len, hwl, h3.g.ws⟩⟩
            rintro q (a | a | a) e
            · exact (show TgB W3 H 72 from ⟨_, hH.cell⟩).ne (a ▸ e ▸ htr) (by decide)
            · exact (own_tag hH.own1 q a).ne (e ▸ htr) (by decide)
            · exact (own_tag hH.own2 q a).ne (e ▸ htr) (by decide)
          have HFIN := Lib.hid hfinal
          clear hfinal hH hMc hwl
          clear cc ff h3 hbk hkb hblk3
          refine wp_region_still_tail 23 (by kernel_rfl) (by kernel_rfl) ?_
          simp only [List.take_succ_cons, List.take_zero, List.drop_succ_cons, List.drop_zero]
          change wpStill _ _ wr.drew (fun a' => wpList _ _ _ _ a' wr.drew) _ _
          rw [← hW3]
          clear hW3
          repeat still_step
          refine wpStill_nil ?_
          change wpList _ _ _ _ _ W3
          go_wp2_with fail
          refine bodyPost_ret (v := .agg #[.int .i64 0, .int .u64 (st.result : Int), .string ⟨st.raised.toArray⟩, .string ⟨st.out.toArray⟩, .slice o8 st.done.length k8, .int .i64 (st.fuel : Int)]) (by simp [results, Tryd.results10, go_sem, t0, t1, t2, t3, t4, t5]) rfl ⟨_, rfl, ?_⟩
          refine And.intro (HFIN.out _ ?_).1 (And.intro (HFIN.out _ ?_).2.1 (fun _ => (HFIN.out _ ?_).2.2))
          all_goals exact ((((((Kept.refl (fun k => k = w.heap.size) W3).setCell (p := ⟨w.heap.size, 0, none⟩) (.inl rfl) _).setCell (p := ⟨w.heap.size, 1, none⟩) (.inl rfl) _).setCell (p := ⟨w.heap.size, 2, none⟩) (.inl rfl) _).setCell (p := ⟨w.heap.size, 3, none⟩) (.inl rfl) _).setCell (p := ⟨w.heap.size, 4, none⟩) (.inl rfl) _).setCell (p := ⟨w.heap.size, 5, none⟩) (.inl rfl) _
        · have hst : ∃ n2 st2, Ma.step m st = some (n2, st2) ∧ ((n2 = 0 ∧ Ma.runN m K st2 = some (e, s')) ∨ (n2 ≠ 0 ∧ n2 = e ∧ st2 = s')) := by
            unfold Ma.runN at hrn
            rw [if_neg hz] at hrn
            rcases hst : Ma.step m st with _ | ⟨n2, st2⟩
            · rw [hst] at hrn; cases hrn
            · rw [hst] at hrn
              simp only at hrn
              by_cases h0 : n2 = 0
              · rw [if_pos h0] at hrn
                exact ⟨n2, st2, rfl, .inl ⟨h0, hrn⟩⟩
              · rw [if_neg h0] at hrn
                simp only [Option.some.injEq, Prod.mk.injEq] at hrn
                exact ⟨n2, st2, rfl, .inr ⟨h0, hrn⟩⟩
          obtain ⟨n2, st2, hst, hcase⟩ := hst
          obtain ⟨f, fs, g, x, hw, hfs, hgf, ha0, ha1, hx, hdo⟩ := step_inv hst
          have hNX := next_t (C := C) (i := f.at_.toNat) ⟨_, _, _, _, _, _, _, hF⟩ hfs (by rw [HM1.out]; exact hgf) hx (by omega) hw.2.1 (by omega)
          rw [show ((f.at_.toNat : Nat) : Int) = f.at_ by omega] at hNX
          have hDO : ∀ w2, RunE C w2 { st with frs := { f with at_ := f.at_ + 1 } :: fs } → Calls Tryd.prog 20 #[.pointer (some ⟨C.lo, 0, none⟩), .agg #[.int .u8 (x.op : Int), .int .i64 x.n, .int .i64 x.a, .string x.s]] w2 (OkRun C st2 n2) := by
            intro w2 h2
            refine hd g (List.mem_of_getElem? hgf) x (List.mem_of_getElem? hx) C HM1.out w2 _ st2 n2 { f with at_ := f.at_ + 1 } fs h2 rfl ?_ (by rw [HM1.out]; exact hdo)
            have h3 := hw.2.1
            rw [hfs] at h3
            exact ⟨hw.1, h3, hw.2.2⟩
          have HNX := Lib.hid hNX
          have HDO := Lib.hid hDO
          have hzp : (0 : Int) < (st.frs.length : Int) := by omega
          clear hNX hDO hst hdo hF hrn
          go_wp2_with fail
          refine HNX.out.mono ?_
          rintro e1 w3 ⟨rfl, h3⟩
          have HD := Lib.hid (HDO.out _ h3)
          clear h3
          go_wp2_with fail
          refine HD.out.mono ?_
          rintro e1 w4 ⟨rfl, h4⟩
          have H4 := Lib.hid h4
          clear h4
          go_wp2_with fail
          go_roundg K
          case measure => omega
          case rel =>
            refine ⟨n2, st2, rfl, H4.out, ?_⟩
            rcases hcase with ⟨h0, h1⟩ | ⟨h0, h1, h2⟩
            · exact .inl ⟨h0, h1⟩
            · exact .inr ⟨h1, h1 ▸ h0, h2⟩
    · have he1 : ((ek : Int) == 0) = false := by rw [beq_eq_false_iff_ne]; omega
      have hM0 : wr.heap[M]? = some (.cells #[.pointer (some ⟨H, 0, none⟩), .slice (some ⟨b, off, none⟩) FL cf, .slice og GL cg] 54 (0, 0)) := by
        have h5 := (hF.fit.stat wr hF.g.kept).2.2
        rw [HCC.out] at h5
        exact h5
      have hH0 : wr.heap[H]? = some (.cells #[.int .i64 (m.q : Int), .int .i64 (c : Int), u1', u2'] 72 (0, 0)) := by
        have h5 := hF.g.heap.cell
        rw [HCC.out] at h5
        exact h5
      have hkb := hF.g.kept
      have hw0 : C.w0 = wb := by rw [HCC.out]; rfl
      rw [hw0] at hkb
      have hbk : ∀ q, q < wb.heap.size → ¬ three H v1 v2 q → wr.heap[q]? = wb.heap[q]? := by
        intro q h1 h2
        refine hkb.block q h1 ?_
        rw [HCC.out]
        rintro (h4 | h4)
        · exact h2 h4
        · have h5 : wb.heap.size ≤ q := h4
          omega
      have hdd := (hbk dd hdlt (fun a => by have := H0.out.heap.own_lt dd a; omega)).trans HDB.out
      obtain ⟨o7, k7, hv7, _⟩ := own_slice hF.g.out
      obtain ⟨o8, k8, hv8, _⟩ := own_slice hF.g.dn
      obtain ⟨_, _, _, _, y4, y5, y6, y7, y8, y9, y10⟩ := hF.cells
      have ccM := fun j => cell_of_row wr M j _ _ (0, 0) hM0
      have ccH := fun j => cell_of_row wr H j _ _ (0, 0) hH0
      have ccD := fun j => cell_of_row wr dd j _ _ (0, 0) hdd
      have a0 := (ccM 0).trans rfl
      have a2 := (ccM 2).trans rfl
      have b0 := (ccH 0).trans rfl
      have b1 := (ccH 1).trans rfl
      have b2 := (ccH 2).trans rfl
      have b3 := (ccH 3).trans rfl
      have g0 := (ccD 0).trans rfl
      have g1 := (ccD 1).trans rfl
      have g2 := (ccD 2).trans rfl
      have g3 := (ccD 3).trans rfl
      have fM := fun j => frozen_of_row wr M j _ _ hM0
      have fH := fun j => frozen_of_row wr H j _ _ hH0
      have i0 := fM 2
      have j0 := fH 0
      have j1 := fH 1
      have j2 := fH 2
      have j3 := fH 3
      clear ccM ccH ccD fM fH
      have hHM : H ≠ M := by
        rintro rfl
        exact (show TgB wr H 72 from ⟨_, hH0⟩).ne (show TgB wr H 54 from ⟨_, hM0⟩) (by decide)
      have hMH : M ≠ H := Ne.symm hHM
      have hHL : H ≠ C.lo := by
        rintro e
        exact (show TgB wr H 72 from ⟨_, hH0⟩).ne (e ▸ hF.g.rtag) (by decide)
      have hML : M ≠ C.lo := by
        rintro e
        exact (show TgB wr M 54 from ⟨_, hM0⟩).ne (e ▸ hF.g.rtag) (by decide)
      have hres3 := (hbk w.heap.size (by have := HLT.out; have := HBB.out.size; omega) (by
        rintro (h4 | h4 | h4)
        · have h5 : TgB w0 w.heap.size 33 := HTG.out
          have h6 : TgB w0 H 72 := ⟨_, H0.out.heap.cell⟩
          rw [h4] at h5
          exact h5.ne h6 (by decide)
        · exact (own_tag H0.out.heap.own1 _ h4).ne HTG.out (by decide)
        · exact (own_tag H0.out.heap.own2 _ h4).ne HTG.out (by decide))).trans HRES.out
      have hrH : w.heap.size ≠ H := by
        rintro e
        exact (show TgB wr w.heap.size 33 from ⟨_, hres3⟩).ne (e ▸ (show TgB wr H 72 from ⟨_, hH0⟩)) (by decide)
      have hrM : w.heap.size ≠ M := by
        rintro e
        exact (show TgB wr w.heap.size 33 from ⟨_, hres3⟩).ne (e ▸ (show TgB wr M 54 from ⟨_, hM0⟩)) (by decide)
      go_wp2_with fail
      go_region
      have hk5 : Kept (fun q => q = H ∨ q = M) wr (World.drew (((((wr.setCell ⟨H, 0, none⟩ (.int .i64 (m.q : Int))).setCell ⟨H, 1, none⟩ (.int .i64 (c : Int))).setCell ⟨H, 2, none⟩ (.slice ou1 W.length ku1)).setCell ⟨H, 3, none⟩ (.slice ou2 F.length ku2)).setCell ⟨M, 2, none⟩ (.slice p2 m.globs.length z2))) :=
        ((((((Kept.refl (fun q => q = H ∨ q = M) wr).setCell (p := ⟨H, 0, none⟩) (.inl (.inl rfl)) _).setCell (p := ⟨H, 1, none⟩) (.inl (.inl rfl)) _).setCell (p := ⟨H, 2, none⟩) (.inl (.inl rfl)) _).setCell (p := ⟨H, 3, none⟩) (.inl (.inl rfl)) _).setCell (p := ⟨M, 2, none⟩) (.inl (.inr rfl)) _).drew
      have hout := own_kept hF.g.out hk5 (by
        rintro q a (rfl | rfl)
        · exact (own_tag hF.g.out _ a).ne ⟨_, hH0⟩ (by decide)
        · exact (own_tag hF.g.out _ a).ne ⟨_, hM0⟩ (by decide))
      have hdn := own_kept hF.g.dn hk5 (by
        rintro q a (rfl | rfl)
        · exact (own_tag hF.g.dn _ a).ne ⟨_, hH0⟩ (by decide)
        · exact (own_tag hF.g.dn _ a).ne ⟨_, hM0⟩ (by decide))
      have hlo5 := (hk5.block C.lo hF.g.lt (fun e => e.elim (fun e => hHL e.symm) (fun e => hML e.symm))).trans hF.cell
      have hres5 := (hk5.block w.heap.size (lt_of_block hres3) (fun e => e.elim (fun e => hrH e) (fun e => hrM e))).trans hres3
      have HKW5 := Lib.hid ((HKW.out.step hkb (by
        intro q hq
        rw [HCC.out] at hq
        rcases hq with hq | hq
        · exact .inl (.inl hq)
        · have h5 : wb.heap.size ≤ q := hq
          exact .inr (Nat.le_trans HKW.out.size h5))).step hk5 (fun q hq => hq.elim (fun e => .inl (.inl (.inl e))) (fun e => .inl (.inr e))))
      clear hk5 a0 a2 b0 b1 b2 b3 g0 g1 g2 g3 i0 j0 j1 j2 j3 y4 y5 y6 y7 y8 y9 y10 hHM hMH hHL hML hrH hrM hres3 hbk hkb hdd
      generalize (World.drew (((((wr.setCell ⟨H, 0, none⟩ (.int .i64 (m.q : Int))).setCell ⟨H, 1, none⟩ (.int .i64 (c : Int))).setCell ⟨H, 2, none⟩ (.slice ou1 W.length ku1)).setCell ⟨H, 3, none⟩ (.slice ou2 F.length ku2)).setCell ⟨M, 2, none⟩ (.slice p2 m.globs.length z2))) = w5 at *
      go_wp2_with fail
      obtain ⟨W3, hW3⟩ : ∃ W3, W3 = w5.drew := ⟨_, rfl⟩
      replace hout : W3.ownsRow C.lo 5 1 vout st.out.length (Bs st.out) := by rw [hW3]; exact ⟨hout.1, hout.2⟩
      replace hdn : W3.ownsRow C.lo 26 2 vdn st.done.length (CsMv st.done) := by rw [hW3]; exact ⟨hdn.1, hdn.2⟩
      have hlo3 : W3.heap[C.lo]? = some (.cells (runC C st (.slice o1 st.frs.length k1) vst vtr vout vdn) 66 (0, 0)) := by rw [hW3]; exact hlo5
      have hblk3 : W3.heap[w.heap.size]? = some (.cells #[.int .i64 0, .int .u64 0, .string ⟨#[]⟩, .string ⟨#[]⟩, .slice none 0 0, .int .i64 0] 33 (0, 0)) := by rw [hW3]; exact hres5
      have hcv := conv_own hout
      have e3 := fun j => cell_of_row W3 C.lo j _ _ (0, 0) hlo3
      have r4 : W3.cell? ⟨C.lo, 4, none⟩ = some (.int .i64 (st.fuel : Int)) := (e3 4).trans rfl
      have r7 : W3.cell? ⟨C.lo, 7, none⟩ = some (vout) := (e3 7).trans rfl
      have r8 : W3.cell? ⟨C.lo, 8, none⟩ = some (vdn) := (e3 8).trans rfl
      have r9 : W3.cell? ⟨C.lo, 9, none⟩ = some (.string ⟨st.raised.toArray⟩) := (e3 9).trans rfl
      have r10 : W3.cell? ⟨C.lo, 10, none⟩ = some (.int .u64 (st.result : Int)) := (e3 10).trans rfl
      subst hv7 hv8
      have cc := fun j => cell_of_row W3 w.heap.size j _ _ (0, 0) hblk3
      have ff := fun j => frozen_of_row W3 w.heap.size j _ _ hblk3
      have t0 := (cc 0).trans rfl
      have t1 := (cc 1).trans rfl
      have t2 := (cc 2).trans rfl
      have t3 := (cc 3).trans rfl
      have t4 := (cc 4).trans rfl
      have t5 := (cc 5).trans rfl
      have s0 := ff 0
      have s1 := ff 1
      have s2 := ff 2
      have s3 := ff 3
      have s4 := ff 4
      have s5 := ff 5
      have hkw3 : Kept (fun k => three H v1 v2 k ∨ k = M) w W3 := by rw [hW3]; exact HKW5.out.drew
      have hfinal : ∀ W4, Kept (fun q => q = w.heap.size) W3 W4 → (∃ b0, W4.ownsRow b0 26 2 (.slice o8 st.done.length k8) st.done.length (CsMv st.done)) ∧ Kept (fun k => three H v1 v2 k ∨ k = M) w W4 :=
        fun W4 hk4 => ⟨⟨_, own_kept hdn hk4 fun q a e => (own_tag hdn q a).ne (e ▸ (show TgB W3 w.heap.size 33 from ⟨_, hblk3⟩)) (by decide)⟩, hkw3.step hk4 (fun q hq => .inr (Nat.le_of_eq hq.symm))⟩
      have HFIN := Lib.hid hfinal
      have HE0 := Lib.hid he0
      clear cc ff e3 hlo3 hlo5 hres5 hblk3 hfinal hout hdn hkw3
      refine wp_region_still_tail 23 (by kernel_rfl) (by kernel_rfl) ?_
      simp only [List.take_succ_cons, List.take_zero, List.drop_succ_cons, List.drop_zero]
      change wpStill _ _ w5.drew (fun a' => wpList _ _ _ _ a' w5.drew) _ _
      rw [← hW3]
      clear hW3
      repeat still_step
      refine wpStill_nil ?_
      change wpList _ _ _ _ _ W3
      go_wp2_with fail
      refine bodyPost_ret (v := .agg #[.int .i64 (ek : Int), .int .u64 (st.result : Int), .string ⟨st.raised.toArray⟩, .string ⟨st.out.toArray⟩, .slice o8 st.done.length k8, .int .i64 (st.fuel : Int)]) (by simp [results, Tryd.results10, go_sem, t0, t1, t2, t3, t4, t5]) rfl ⟨_, rfl, ?_⟩
      refine And.intro (HFIN.out _ ?_).1 (And.intro (HFIN.out _ ?_).2 (fun e => absurd e HE0.out))
      all_goals exact ((((((Kept.refl (fun k => k = w.heap.size) W3).setCell (p := ⟨w.heap.size, 0, none⟩) (.inl rfl) _).setCell (p := ⟨w.heap.size, 1, none⟩) (.inl rfl) _).setCell (p := ⟨w.heap.size, 2, none⟩) (.inl rfl) _).setCell (p := ⟨w.heap.size, 3, none⟩) (.inl rfl) _).setCell (p := ⟨w.heap.size, 4, none⟩) (.inl rfl) _).setCell (p := ⟨w.heap.size, 5, none⟩) (.inl rfl) _
end Go.Proofs.YtpmbdncackneoaaDoor
