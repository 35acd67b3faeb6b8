/- MacAC, MacAE, MacAK, in one text. -/
import Derived.Test.YtpmbdncackneoaaDoorMacAA
import Derived.Test.YtpmbdncackneoaaDoorMacR

namespace Go.Proofs.YtpmbdncackneoaaDoor
open Go.RowKit HeaM Ma

/-- What is called, without a step left. -/
theorem call_spent {C : Cx} {s : Ms} {v f : V} {t : List V} {w : World} (h : RunE C w s) (hs : s.stk = v :: f :: t) (hn : s.stk.length ≤ 1000000000) (hf : s.fuel = 0) :
    Calls Tryd.prog 37 #[.pointer (some ⟨C.lo, 0, none⟩)] w (OkRun C { s with stk := t } 10) := by
  have H1 := Lib.hid (pop_t h hs hn)
  have H2 := Lib.hid fun (w : World) (h : RunE C w { s with stk := f :: t }) => pop_t h rfl (by show (f :: t).length ≤ _; rw [hs] at hn; simp only [List.length_cons] at hn ⊢; omega)
  have H3 := Lib.hid fun (w : World) (h : RunE C w { s with stk := t }) => step_no h hf
  clear h hs hf
  go_enter Tryd.func37, Tryd.ntmps37
  go_wp2_with fail
  refine H1.out.mono ?_
  rintro e w1 ⟨rfl, h1⟩
  have H4 := Lib.hid (H2.out _ h1)
  clear h1
  go_wp2_with fail
  refine H4.out.mono ?_
  rintro e w2 ⟨rfl, h2⟩
  have H5 := Lib.hid (H3.out _ h2)
  clear h2
  go_wp2_with fail
  refine H5.out.mono ?_
  rintro e w3 ⟨rfl, h3⟩
  have HW := Lib.hid h3
  clear h3
  go_wp2
  go_ret
  exact ⟨rfl, HW.out⟩


set_option maxHeartbeats 2000000 in
set_option maxRecDepth 100000 in
/-- A function of the machine is called. -/
theorem call_fn {C : Cx} {s : Ms} {v : V} {t : List V} {i n : Nat} {g : CodM.Fun} {w : World} (h : RunE C w s) (hs : s.stk = v :: .fn i n :: t) (hn : t.length + 3 * s.trs.length ≤ 67108864) (hfr : s.frs.length ≤ 1000000000) (hf : s.fuel ≠ 0) (hg : C.m.funs[n]? = some g) (hc : g.caps = 0) :
    Calls Tryd.prog 37 #[.pointer (some ⟨C.lo, 0, none⟩)] w (OkRun C { s with stk := v :: t, fuel := s.fuel - 1, frs := ⟨n, .fn i n, t.length, 0⟩ :: s.frs } 0) := by
  have hl : s.stk.length ≤ 1000000000 := by rw [hs]; simp only [List.length_cons]; omega
  have hrep : Rep s.W s.F (.fn i n) ∧ Rep s.W s.F v := by
    obtain ⟨_, _, _, _, _, _, _, h⟩ := h
    exact ⟨h.g.rstk _ (by rw [hs]; simp), h.g.rstk _ (by rw [hs]; simp)⟩
  have H1 := Lib.hid (pop_t h hs hl)
  have H2 := Lib.hid fun (w : World) (h : RunE C w { s with stk := .fn i n :: t }) => pop_t h rfl (by show (V.fn i n :: t).length ≤ _; rw [hs] at hl; simp only [List.length_cons] at hl ⊢; omega)
  have H3 := Lib.hid fun (w : World) (h : RunE C w { s with stk := t }) => step_yes h hf
  have hcells : ∀ w1, RunE C w1 { s with stk := t, fuel := s.fuel - 1 } → w1.cell? ⟨C.lo, 0, none⟩ = some (.pointer (some ⟨C.M, 0, none⟩)) ∧ w1.cell? ⟨C.M, 0, none⟩ = some (.pointer (some ⟨C.H, 0, none⟩)) ∧
      (Calls Tryd.prog 51 #[.pointer (some ⟨C.H, 0, none⟩), .int .u64 ((2 * i : Nat) : Int), .int .i64 0] w1 fun e w' => e = .returned (.tuple #[.int .u64 ((numW (n : Int) : Nat) : Int), .int .i64 0]) ∧ ∃ nq, w' = w1.drewN nq) ∧
      (Calls Tryd.prog 54 #[.pointer (some ⟨C.H, 0, none⟩), .int .u64 ((2 * i : Nat) : Int)] w1 fun e w' => e = .returned (.int .u8 5) ∧ ∃ nq, w' = w1.drewN nq) ∧
      (Calls Tryd.prog 56 #[.pointer (some ⟨C.H, 0, none⟩), .int .u64 ((2 * i : Nat) : Int)] w1 fun e w' => e = .returned (.int .i64 1) ∧ ∃ nq, w' = w1.drewN nq) ∧
      (∃ b off c, C.vf = .slice (some ⟨b, off, none⟩) C.m.funs.length c ∧ C.m.funs.length ≤ c ∧ c ≤ maxLen ∧ n < C.m.funs.length ∧ w1.cell? ⟨C.M, 1, none⟩ = some C.vf ∧ w1.cell? ⟨b, off + n * 2, none⟩ = some (.int .i64 0)) ∧
      (Calls Tryd.prog 19 #[.pointer (some ⟨C.lo, 0, none⟩), .int .i64 (n : Int), .int .u64 ((2 * i : Nat) : Int), .int .u64 (v.word : Int)] w1 (OkRun C { s with stk := v :: t, fuel := s.fuel - 1, frs := ⟨n, .fn i n, t.length, 0⟩ :: s.frs } 0)) := by
    intro w1 hE
    have hE' := hE
    obtain ⟨_, _, _, _, _, _, _, h1⟩ := hE
    have hW : s.W.length ≤ 1048576 := Nat.le_trans h1.g.wl h1.fit.q
    obtain ⟨hf1, _, _⟩ := h1.fit.stat w1 h1.g.kept
    refine ⟨h1.cells.1, h1.mach.1, part_ob w1 h1.g.heap h1.g.len hW hrep.1.1 (by decide) hrep.1.2.1, kind_v w1 h1.g.heap h1.g.len hW hrep.1 (v := .fn i n) rfl, len_v w1 h1.g.heap h1.g.len hW hrep.1 (v := .fn i n) rfl rfl, ?_, enter_t hE' hrep.1 hrep.2 rfl rfl hn hfr⟩
    have hk := (List.getElem?_eq_some_iff.1 hg).1
    rcases hf1 with ⟨o, c, _, hnil⟩ | ⟨b, off, c, e, hl, hc2, hm, hC⟩
    · rw [hnil] at hk; simp at hk
    · exact ⟨b, off, c, e, hc2, hm, hk, h1.mach.2.1, by rw [(hC n g hg).1, hc]⟩
  have HC := Lib.hid hcells
  have hni : n ≤ 1000000 := hrep.1.2.2
  have HNN : Hid (∀ w : World, Calls Tryd.prog 55 #[.int .u64 ((numW (n : Int) : Nat) : Int)] w fun e w' => e = .returned (.int .i64 (n : Int)) ∧ w = w') := fun w => n_v (n : Int) (numW (n : Int)) w rfl (by omega) (by omega)
  have HNI : Hid (∀ w : World, Calls Tryd.prog 52 #[.int .u64 ((numW (n : Int) : Nat) : Int)] w fun e w' => e = .returned (.bool true) ∧ w = w') := fun w => isnum_v (.num (n : Int)) (numW (n : Int)) w rfl (numW_lt _)
  have hwf : (V.fn i n).word = 2 * i := rfl
  rw [hwf] at H2
  clear h hs hcells hrep hg hc hwf hf
  generalize numW (n : Int) = X at *
  generalize v.word = Y at *
  go_enter Tryd.func37, Tryd.ntmps37
  go_wp2_with fail
  refine H1.out.mono ?_
  rintro e w1 ⟨rfl, h1⟩
  have H4 := Lib.hid (H2.out _ h1)
  clear h1
  go_wp2_with fail
  refine H4.out.mono ?_
  rintro e w2 ⟨rfl, h2⟩
  have H5 := Lib.hid (H3.out _ h2)
  clear h2
  go_wp2_with fail
  refine H5.out.mono ?_
  rintro e w3 ⟨rfl, h3⟩
  have HE3 := Lib.hid h3
  clear h3
  obtain ⟨x0, x1, hPa, hKi, hLe, ⟨b, off, c, e5, hc5, hm5, hn5, x5, x6⟩, hEn⟩ := HC.out _ HE3.out
  have HPA := Lib.hid hPa
  clear hPa hKi hLe hEn
  go_wp2_with fail
  refine HPA.out.mono ?_
  rintro e w4 ⟨rfl, nq, rfl⟩
  have HE4 : Hid (RunE C (w3.drewN nq) { s with stk := t, fuel := s.fuel - 1 }) := HE3.out.drewN nq
  clear x0 x1 x5 x6 HPA HE3
  generalize w3.drewN nq = w4 at *
  obtain ⟨x0, x1, hPa, hKi, hLe, ⟨b', off', c', e5', hc5', hm5', hn5', x5, x6⟩, hEn⟩ := HC.out _ HE4.out
  rw [e5'] at x5
  have HKI := Lib.hid hKi
  clear hPa hKi hLe hEn e5
  go_wp2_with fail
  refine (HNI.out _).mono ?_
  rintro e w5 ⟨rfl, rfl⟩
  go_wp2_with fail
  refine HKI.out.mono ?_
  rintro e w5 ⟨rfl, nq5, rfl⟩
  have HE5 : Hid (RunE C (w4.drewN nq5) { s with stk := t, fuel := s.fuel - 1 }) := HE4.out.drewN nq5
  clear x0 x1 x5 x6 HKI HE4
  generalize w4.drewN nq5 = w5 at *
  obtain ⟨x0, x1, hPa, hKi, hLe, ⟨b6, off6, c6, e6, hc6, hm6, hn6, x5, x6⟩, hEn⟩ := HC.out _ HE5.out
  rw [e6] at x5
  have HLQ : Hid (∀ nq, Calls Tryd.prog 56 #[.pointer (some ⟨C.H, 0, none⟩), .int .u64 (2 * (i : Int))] (w5.drewN nq) fun e w' => e = .returned (.int .i64 1) ∧ ∃ mq, w' = w5.drewN mq) := fun nq => (HC.out _ (HE5.out.drewN nq)).2.2.2.2.1.mono fun e w' ⟨h1, mq, h2⟩ => ⟨h1, nq + mq, by rw [h2]; simp [World.drewN, Nat.add_assoc]⟩
  have hn7 : (n : Int) < (C.m.funs.length : Int) := by omega
  have hn8 : ¬ (n : Int) < 0 := by omega
  have w00 : (IntKind.i64.wrap 0 != 0) = false := by decide
  have hnl : ¬ C.m.funs.length ≤ n := by omega
  have d7 : decide ((C.m.funs.length : Int) ≤ (n : Int)) = false := by rw [decide_eq_false_iff_not]; omega
  have d8 : decide ((n : Int) < 0) = false := by rw [decide_eq_false_iff_not]; omega
  unfold maxLen at hm6
  clear hPa hKi hLe hEn e5' hc5' hm5' hn5'
  go_wp2_with fail
  go_quiet (first
    | (go_at_call 55; exact Calls.quiet_of_same ((HNN.out _).mono fun _ _ h => ⟨h.1, h.2.symm⟩))
    | (go_at_call 56; exact HLQ.out _))
  have HEN := Lib.hid (HC.out _ (HE5.out.drewN nq)).2.2.2.2.2.2
  generalize w5.drewN nq = w6 at *
  go_wp2_with fail
  refine (HNN.out _).mono ?_
  rintro e w7 ⟨rfl, rfl⟩
  go_wp2_with fail
  refine HEN.out.mono ?_
  rintro e w' ⟨rfl, hw⟩
  have HW := Lib.hid hw
  clear hw
  go_wp2
  go_ret
  exact ⟨rfl, HW.out⟩
end Go.Proofs.YtpmbdncackneoaaDoor

namespace Go.Proofs.YtpmbdncackneoaaDoor
open Go.RowKit HeaM Ma

def DoP (P : Ms → Prop) (C : Cx) (x : CodM.Ins) : Prop := ∀ (w : World) (s s' : Ms) (n : Nat) (f : Fr) (fs : List Fr), RunE C w s → s.frs = f :: fs → few s → P s → doI C.m s f fs x = some (n, s') →
  Calls Tryd.prog 20 #[.pointer (some ⟨C.lo, 0, none⟩), .agg #[.int .u8 (x.op : Int), .int .i64 x.n, .int .i64 x.a, .string x.s]] w (OkRun C s' n)

theorem DoC.p {P : Ms → Prop} {C : Cx} {x : CodM.Ins} (h : DoC C x) : DoP P C x := fun w s s' n f fs h1 h2 h3 _ h4 => h w s s' n f fs h1 h2 h3 h4

set_option maxHeartbeats 4000000 in
set_option maxRecDepth 100000 in
theorem run_tp (P : Ms → Prop) {w : World} {M H base c : Nat} {vf vg v1 v2 : Value} {m : Mc} {W : List Nat} {F : List Bool} {fn fuel room k e : Nat} {s' : Ms} (h : MachE w M H base c vf vg v1 v2 m W F) (hfu : fuel ≤ 20000) (hro : room ≤ 1000000000) (hmo : m.moves ≤ 9223372036854775807)
    (gf : CodM.Fun) (hg : m.funs[fn]? = some gf) (hc : gf.caps = 0)
    (hd : ∀ g ∈ m.funs, ∀ x ∈ g.code, ∀ C : Cx, C.m = m → DoP P C x)
    (hpi : ∀ st st2 n, Ma.step m st = some (n, st2) → P st → P st2) (hpa : ∀ (st : Ms) f fs, st.frs = f :: fs → P st → P { st with frs := { f with at_ := f.at_ + 1 } :: fs })
    (hp0 : P { start W F fuel room with frs := [⟨fn, .num 0, 0, 0⟩], stk := [.num 0] })
    (hr : Ma.runN m k { start W F fuel room with frs := [⟨fn, .num 0, 0, 0⟩], stk := [.num 0] } = some (e, s')) :
    Calls Tryd.prog 10 #[.pointer (some ⟨M, 0, none⟩), .int .i64 (fn : Int), .int .i64 (fuel : Int), .int .i64 (m.moves : Int), .int .i64 (room : Int)] w (RunPost w v1 v2 M H base c vf vg m s' e) := by
  have hb0 : Below w.heap.size w (w.alloc (.cells #[.int .i64 0, .int .u64 0, .string ⟨#[]⟩, .string ⟨#[]⟩, .slice none 0 0, .int .i64 0] 33)) := (Below.refl _ _).alloc (Nat.le_refl _) _
  have hres := heap_alloc_new w (.cells #[.int .i64 0, .int .u64 0, .string ⟨#[]⟩, .string ⟨#[]⟩, .slice none 0 0, .int .i64 0] 33)
  obtain ⟨of, cf, rfl⟩ : ∃ o c, vf = .slice o m.funs.length c := (h.funs w (Kept.refl _ _)).form
  obtain ⟨og, cg, rfl, hcg, hmg⟩ := own_slice h.glb
  have h := h.below hb0
  have HB0 := Lib.hid hb0
  clear hb0
  have e0 := fun j => cell_of_row (w.alloc (.cells #[.int .i64 0, .int .u64 0, .string ⟨#[]⟩, .string ⟨#[]⟩, .slice none 0 0, .int .i64 0] 33)) M j _ _ (0, 0) h.cell
  have m0 := (e0 0).trans rfl
  have m1 := (e0 1).trans rfl
  have m2 := (e0 2).trans rfl
  have hfl := h.fl
  have hfnn : fn < m.funs.length := (List.getElem?_eq_some_iff.1 hg).1
  have hcaps : ∃ b off, of = some ⟨b, off, none⟩ ∧ m.funs.length ≤ cf ∧ cf ≤ maxLen ∧ (w.alloc (.cells #[.int .i64 0, .int .u64 0, .string ⟨#[]⟩, .string ⟨#[]⟩, .slice none 0 0, .int .i64 0] 33)).cell? ⟨b, off + fn * 2, none⟩ = some (.int .i64 0) := by
    rcases h.funs (w.alloc (.cells #[.int .i64 0, .int .u64 0, .string ⟨#[]⟩, .string ⟨#[]⟩, .slice none 0 0, .int .i64 0] 33)) (Kept.refl _ _) with ⟨o, c', h1, hnil⟩ | ⟨b, off, c', h1, hl, hlc, hcm, hC⟩
    · rw [hnil] at hg; simp at hg
    · simp only [Value.slice.injEq, true_and] at h1
      obtain ⟨rfl, rfl⟩ := h1
      exact ⟨b, off, rfl, hlc, hcm, by rw [(hC fn gf hg).1, hc]⟩
  obtain ⟨b, off, rfl, hlc, hcm, hcc⟩ := hcaps
  have hfui : (fuel : Int) ≤ 20000 := by omega
  have hroi : (room : Int) ≤ 1000000000 := by omega
  have hmoi : (m.moves : Int) ≤ 9223372036854775807 := by omega
  have hfli : (m.funs.length : Int) ≤ 1000000 := by omega
  have hfi : (fn : Int) < (m.funs.length : Int) := by omega
  have hflt : decide ((m.funs.length : Int) ≤ (fn : Int)) = false := by rw [decide_eq_false_iff_not]; omega
  have d1 : decide ((fn : Int) < 0) = false := by rw [decide_eq_false_iff_not]; omega
  have d2 : decide ((fuel : Int) < 0) = false := by rw [decide_eq_false_iff_not]; omega
  have d3 : decide (20000 < (fuel : Int)) = false := by rw [decide_eq_false_iff_not]; omega
  have d4 : decide ((m.moves : Int) < 0) = false := by rw [decide_eq_false_iff_not]; omega
  have d5 : decide ((room : Int) < 0) = false := by rw [decide_eq_false_iff_not]; omega
  unfold maxLen at hcm hmg
  have H0 := Lib.hid h
  clear h e0
  generalize m.funs.length = FL at *
  generalize m.globs.length = GL at *
  go_enter Tryd.func10, Tryd.ntmps10
  go_wp2_with fail
  generalize (w.alloc (.cells #[.int .i64 0, .int .u64 0, .string ⟨#[]⟩, .string ⟨#[]⟩, .slice none 0 0, .int .i64 0] 33)) = w0 at *
  clear m1 hcc d1 d2 d3 d4 d5 hflt
  have hMl : M < w0.heap.size := lt_of_block H0.out.cell
  have h1 : ∀ W1 : World, Below w0.heap.size w0 W1 → Calls Tryd.prog 17 #[.pointer (some ⟨H, 0, none⟩)] W1 fun e w' => CopyPost W1 w' m.q c W F e := fun W1 hb => copy_t H base m.q c v1 v2 W F W1 (H0.out.below hb).heap (by have := H0.out.wl; have := H0.out.q; omega) H0.out.len
  have h2 : ∀ W1 : World, Below w0.heap.size w0 W1 → Calls Tryd.prog 18 #[.slice og GL cg] W1 fun e w' => ∃ v', e = .returned v' ∧ OwnW w' W1.heap.size v' (m.globs.map V.word) ∧ Below W1.heap.size W1 w' := fun W1 hb => by
    have := cloneW _ (Ws (m.globs.map V.word)) W1 (RdV.below (RdV.of_own H0.out.glb) hb) (Ws_one _) (by rw [Ws_length, List.length_map]; have := H0.out.gl; omega)
    rw [Ws_length] at this
    exact this
  have H1 := Lib.hid h1
  have H2 := Lib.hid h2
  clear h1 h2
  go_region_held3 (fun w' => w'.cell? ⟨M, 0, none⟩ = some (.pointer (some ⟨H, 0, none⟩)) ∧ w'.cell? ⟨M, 2, none⟩ = some (.slice og GL cg)) (go_keep)
    (first
      | (go_at_call 17; refine (H1.out _ (by first | exact Below.refl _ _ | exact (Below.refl _ _).drew)).mono ?_; rintro e wa ⟨dd, u1, u2, rfl, ha1, hb1, hc1⟩; have d0 := (hb1.cell (p := ⟨M, 0, none⟩) hMl).trans m0; have d2 := (hb1.cell (p := ⟨M, 2, none⟩) hMl).trans m2; have HB1 : Hid (Below w0.heap.size w0 wa) := ((Below.refl _ w0).drew).trans hb1; have HA1 := Lib.hid ha1; clear ha1 hb1)
      | (go_at_call 18; refine (H2.out _ HB1.out).mono ?_; rintro e wb ⟨u3, rfl, ho2, hb2⟩; obtain ⟨p2, z2, rfl, -⟩ := own_slice ho2; have d0 := (hb2.cell (p := ⟨M, 0, none⟩) (by have := HB1.out.size; simp; omega)).trans d0; have d2 := (hb2.cell (p := ⟨M, 2, none⟩) (by have := HB1.out.size; simp; omega)).trans d2; have HB2 := Lib.hid hb2; have HO2 := Lib.hid ho2; clear ho2 hb2))
  have hbb : Below w0.heap.size w0 wb := HB1.out.trans (HB2.out.mono HB1.out.size)
  have HBB := Lib.hid hbb
  have HKW : Hid (Kept (fun k => three H v1 v2 k ∨ k = M) w wb) := Below.kept (n := w.heap.size) (HB0.out.trans (hbb.mono HB0.out.size)) fun k h1 h2 => by omega
  have hresb := (hbb.block _ (lt_of_block hres)).trans hres
  have hrun := H0.out.run hbb fuel room (by omega) hro hmo
  have HRUN := Lib.hid hrun
  obtain ⟨ou1, ku1, hu1, _⟩ := own_slice HA1.out.own1
  obtain ⟨ou2, ku2, hu2, _⟩ := own_slice HA1.out.own2
  subst hu1 hu2
  have hdb : wb.heap[dd]? = some (.cells #[.int .i64 (m.q : Int), .int .i64 (c : Int), .slice ou1 W.length ku1, .slice ou2 F.length ku2] 72 (0, 0)) := (HB2.out.block dd (lt_of_block HA1.out.cell)).trans HA1.out.cell
  have hdlt : dd < wb.heap.size := lt_of_block hdb
  have hdge : w0.heap.size ≤ dd := hc1 dd (.inl rfl)
  have HDB := Lib.hid hdb
  clear hdb
  have HRES := Lib.hid hresb
  have HTG : Hid (TgB w0 w.heap.size 33) := ⟨_, hres⟩
  have HLT := Lib.hid (lt_of_block hres)
  clear hbb hresb hres hrun HB1 HB2 H1 H2 d0 d2 m0 m2
  have HN0 : Hid (∀ w : World, Calls Tryd.prog 7 #[.int .i64 0] w fun e w' => e = .returned (.int .u64 ((1 : Nat) : Int)) ∧ w = w') := fun w => num_t 0 w
  obtain ⟨C, hC, hlo, hCm⟩ : ∃ C, C = cxOf wb M H base c (.slice (some ⟨b, off, none⟩) FL cf) (.slice og GL cg) v1 v2 m ∧ C.lo = wb.heap.size ∧ C.m = m := ⟨_, rfl, rfl, rfl⟩
  rw [← hC] at HRUN
  have hent := enter_t (fn := fn) (self := .num 0) (v := .num 0) (x := 1) (y := 1) HRUN.out (by show (-4611686018427387904 : Int) ≤ 0 ∧ (0 : Int) < _; omega) (by show (-4611686018427387904 : Int) ≤ 0 ∧ (0 : Int) < _; omega) rfl rfl (by show 0 + 3 * 0 ≤ _; omega) (by show 0 ≤ _; omega)
  rw [hlo] at hent
  have HENT := Lib.hid hent
  clear hent
  go_wp2_with fail
  refine (HN0.out _).mono ?_
  rintro e1 w' ⟨rfl, rfl⟩
  go_wp2_with fail
  refine (HN0.out _).mono ?_
  rintro e1 w' ⟨rfl, rfl⟩
  go_wp2_with fail
  refine HENT.out.mono ?_
  rintro e1 w2 ⟨rfl, h2⟩
  have HE2 := Lib.hid h2
  clear h2 HENT HRUN
  go_wp2_with fail
  have hm1 : C.m = m := hCm
  rw [← hlo]
  have HLO := Lib.hid hlo
  have HCC := Lib.hid hC
  have HM1 := Lib.hid hm1
  clear hfui hroi hmoi hfi hmg hcm hlc hlo hC hm1 hCm
  have hr0 : (∃ K0 : Nat, K0 = k) := ⟨k, rfl⟩
  go_loopg [14] k (fun K E wr => ∃ (ek : Nat) (st : Ms), E = .int .i64 (ek : Int) ∧ RunE C wr st ∧ ((ek = 0 ∧ Ma.runN m K st = some (e, s') ∧ P st) ∨ (ek = e ∧ e ≠ 0 ∧ st = s')))
  case atStart => exact ⟨0, _, rfl, HE2.out, .inl ⟨rfl, hr, hp0⟩⟩
  case round =>
    obtain ⟨ek, st, rfl, hE, hcase⟩ := hrel
    obtain ⟨vfr, vst, vtr, vout, vdn, u1', u2', hF⟩ := hE
    obtain ⟨c0, c1, _⟩ := hF.cells
    obtain ⟨o1, k1, hv1, hk1, hm1'⟩ := own_slice hF.g.fr
    subst hv1
    have HF := Lib.hid hF
    rcases hcase with ⟨rfl, hrn, hps⟩ | ⟨rfl, he0, rfl⟩
    · rcases gk with _ | K
      · cases hrn
      · by_cases hz : st.frs.length = 0
        · have hes : (0, st) = (e, s') := by
            unfold Ma.runN at hrn
            rw [if_pos hz] at hrn
            exact Option.some.inj hrn
          simp only [Prod.mk.injEq] at hes
          obtain ⟨rfl, rfl⟩ := hes
          rw [hz] at c1
          clear hrn hF
          go_wp2_with fail
          obtain ⟨W3, hW3⟩ : ∃ W3, W3 = wr.drew := ⟨_, rfl⟩
          have h3 := HF.out.drewN 1
          change RunF C wr.drew _ _ _ _ _ _ _ _ at h3
          rw [← hW3] at h3
          obtain ⟨_, _, _, _, r4, r5, r6, r7, r8, r9, r10⟩ := h3.cells
          obtain ⟨o7, k7, hv7, _⟩ := own_slice h3.g.out
          obtain ⟨o8, k8, hv8, _⟩ := own_slice h3.g.dn
          have hcv := conv_own h3.g.out
          subst hv7 hv8
          have hkb := h3.g.kept
          have hw0 : C.w0 = wb := by rw [HCC.out]; rfl
          rw [hw0] at hkb
          have hbk : ∀ q, q < w0.heap.size → ¬ three H v1 v2 q → W3.heap[q]? = wb.heap[q]? := by
            intro q h1 h2
            refine hkb.block q (by have := HBB.out.size; omega) ?_
            rw [HCC.out]
            rintro (h4 | h4)
            · exact h2 h4
            · have h5 : wb.heap.size ≤ q := h4
              have := HBB.out.size
              omega
          have hnr : ¬ three H v1 v2 w.heap.size := by
            rintro (h4 | h4 | h4)
            · have h5 : TgB w0 w.heap.size 33 := HTG.out
              have h6 : TgB w0 H 72 := ⟨_, H0.out.heap.cell⟩
              rw [h4] at h5
              exact h5.ne h6 (by decide)
            · exact (own_tag H0.out.heap.own1 _ h4).ne HTG.out (by decide)
            · exact (own_tag H0.out.heap.own2 _ h4).ne HTG.out (by decide)
          have hblk3 := (hbk w.heap.size HLT.out hnr).trans HRES.out
          have cc := fun j => cell_of_row W3 w.heap.size j _ _ (0, 0) hblk3
          have ff := fun j => frozen_of_row W3 w.heap.size j _ _ hblk3
          have t0 := (cc 0).trans rfl
          have t1 := (cc 1).trans rfl
          have t2 := (cc 2).trans rfl
          have t3 := (cc 3).trans rfl
          have t4 := (cc 4).trans rfl
          have t5 := (cc 5).trans rfl
          have s0 := ff 0
          have s1 := ff 1
          have s2 := ff 2
          have s3 := ff 3
          have s4 := ff 4
          have s5 := ff 5
          have hH : HAt W3 H base m.q c u1' u2' st.W st.F := by
            have h5 := h3.g.heap
            rw [HCC.out] at h5
            exact h5
          have hMc : W3.heap[M]? = some (.cells #[.pointer (some ⟨H, 0, none⟩), .slice (some ⟨b, off, none⟩) FL cf, .slice og GL cg] 54 (0, 0)) := by
            have h5 := (h3.fit.stat W3 h3.g.kept).2.2
            rw [HCC.out] at h5
            exact h5
          have hwl : st.W.length ≤ m.q := by
            have h5 := h3.g.wl
            rw [HM1.out] at h5
            exact h5
          have hwbs : w.heap.size ≤ wb.heap.size := HKW.out.size
          have hfinal : ∀ W4, Kept (fun q => q = w.heap.size) W3 W4 → (∃ b0, W4.ownsRow b0 26 2 (.slice o8 st.done.length k8) st.done.length (CsMv st.done)) ∧ Kept (fun k => three H v1 v2 k ∨ k = M) w W4 ∧ (∃ u1 u2, HAt W4 H base m.q c u1 u2 st.W st.F ∧ W4.heap[M]? = some (.cells #[.pointer (some ⟨H, 0, none⟩), .slice (some ⟨b, off, none⟩) FL cf, .slice og GL cg] 54 (0, 0)) ∧ st.F.length = st.W.length ∧ st.W.length ≤ m.q ∧ ∀ x ∈ st.W, x < 18446744073709551616) := by
            intro W4 hk4
            have htr : TgB W3 w.heap.size 33 := ⟨_, hblk3⟩
            refine ⟨⟨_, own_kept h3.g.dn hk4 fun q a e => (own_tag h3.g.dn q a).ne (e ▸ htr) (by decide)⟩, (HKW.out.step hkb (by
              intro q hq
              rw [HCC.out] at hq
              rcases hq with hq | hq
              · exact .inl (.inl hq)
              · have h5 : wb.heap.size ≤ q := hq
                exact .inr (Nat.le_trans hwbs h5))).step hk4 (fun q hq => .inr (Nat.le_of_eq hq.symm)), ⟨u1', u2', hH.kept hk4 ?_, (hk4.block M (lt_of_block hMc) (fun e => (show TgB W3 M 54 from ⟨_, hMc⟩).ne (e ▸ htr) (by decide))).trans hMc, h3.g.len, hwl, h3.g.ws⟩⟩
            rintro q (a | a | a) e
            · exact (show TgB W3 H 72 from ⟨_, hH.cell⟩).ne (a ▸ e ▸ htr) (by decide)
            · exact (own_tag hH.own1 q a).ne (e ▸ htr) (by decide)
            · exact (own_tag hH.own2 q a).ne (e ▸ htr) (by decide)
          have HFIN := Lib.hid hfinal
          clear hfinal hH hMc hwl
          clear cc ff h3 hbk hkb hblk3
          refine wp_region_still_tail 23 (by kernel_rfl) (by kernel_rfl) ?_
          simp only [List.take_succ_cons, List.take_zero, List.drop_succ_cons, List.drop_zero]
          change wpStill _ _ wr.drew (fun a' => wpList _ _ _ _ a' wr.drew) _ _
          rw [← hW3]
          clear hW3
          repeat still_step
          refine wpStill_nil ?_
          change wpList _ _ _ _ _ W3
          go_wp2_with fail
          refine bodyPost_ret (v := .agg #[.int .i64 0, .int .u64 (st.result : Int), .string ⟨st.raised.toArray⟩, .string ⟨st.out.toArray⟩, .slice o8 st.done.length k8, .int .i64 (st.fuel : Int)]) (by simp [results, Tryd.results10, go_sem, t0, t1, t2, t3, t4, t5]) rfl ⟨_, rfl, ?_⟩
          refine And.intro (HFIN.out _ ?_).1 (And.intro (HFIN.out _ ?_).2.1 (fun _ => (HFIN.out _ ?_).2.2))
          all_goals exact ((((((Kept.refl (fun k => k = w.heap.size) W3).setCell (p := ⟨w.heap.size, 0, none⟩) (.inl rfl) _).setCell (p := ⟨w.heap.size, 1, none⟩) (.inl rfl) _).setCell (p := ⟨w.heap.size, 2, none⟩) (.inl rfl) _).setCell (p := ⟨w.heap.size, 3, none⟩) (.inl rfl) _).setCell (p := ⟨w.heap.size, 4, none⟩) (.inl rfl) _).setCell (p := ⟨w.heap.size, 5, none⟩) (.inl rfl) _
        · have hst : ∃ n2 st2, Ma.step m st = some (n2, st2) ∧ ((n2 = 0 ∧ Ma.runN m K st2 = some (e, s')) ∨ (n2 ≠ 0 ∧ n2 = e ∧ st2 = s')) := by
            unfold Ma.runN at hrn
            rw [if_neg hz] at hrn
            rcases hst : Ma.step m st with _ | ⟨n2, st2⟩
            · rw [hst] at hrn; cases hrn
            · rw [hst] at hrn
              simp only at hrn
              by_cases h0 : n2 = 0
              · rw [if_pos h0] at hrn
                exact ⟨n2, st2, rfl, .inl ⟨h0, hrn⟩⟩
              · rw [if_neg h0] at hrn
                simp only [Option.some.injEq, Prod.mk.injEq] at hrn
                exact ⟨n2, st2, rfl, .inr ⟨h0, hrn⟩⟩
          obtain ⟨n2, st2, hst, hcase⟩ := hst
          have hp2 := hpi _ _ _ hst hps
          obtain ⟨f, fs, g, x, hw, hfs, hgf, ha0, ha1, hx, hdo⟩ := step_inv hst
          have hNX := next_t (C := C) (i := f.at_.toNat) ⟨_, _, _, _, _, _, _, hF⟩ hfs (by rw [HM1.out]; exact hgf) hx (by omega) hw.2.1 (by omega)
          rw [show ((f.at_.toNat : Nat) : Int) = f.at_ by omega] at hNX
          have hDO : ∀ w2, RunE C w2 { st with frs := { f with at_ := f.at_ + 1 } :: fs } → Calls Tryd.prog 20 #[.pointer (some ⟨C.lo, 0, none⟩), .agg #[.int .u8 (x.op : Int), .int .i64 x.n, .int .i64 x.a, .string x.s]] w2 (OkRun C st2 n2) := by
            intro w2 h2
            refine hd g (List.mem_of_getElem? hgf) x (List.mem_of_getElem? hx) C HM1.out w2 _ st2 n2 { f with at_ := f.at_ + 1 } fs h2 rfl ?_ (hpa _ _ _ hfs hps) (by rw [HM1.out]; exact hdo)
            have h3 := hw.2.1
            rw [hfs] at h3
            exact ⟨hw.1, h3, hw.2.2⟩
          have HNX := Lib.hid hNX
          have HDO := Lib.hid hDO
          have hzp : (0 : Int) < (st.frs.length : Int) := by omega
          clear hNX hDO hst hdo hF hrn
          go_wp2_with fail
          refine HNX.out.mono ?_
          rintro e1 w3 ⟨rfl, h3⟩
          have HD := Lib.hid (HDO.out _ h3)
          clear h3
          go_wp2_with fail
          refine HD.out.mono ?_
          rintro e1 w4 ⟨rfl, h4⟩
          have H4 := Lib.hid h4
          clear h4
          go_wp2_with fail
          go_roundg K
          case measure => omega
          case rel =>
            refine ⟨n2, st2, rfl, H4.out, ?_⟩
            rcases hcase with ⟨h0, h1⟩ | ⟨h0, h1, h2⟩
            · exact .inl ⟨h0, h1, hp2⟩
            · exact .inr ⟨h1, h1 ▸ h0, h2⟩
    · have he1 : ((ek : Int) == 0) = false := by rw [beq_eq_false_iff_ne]; omega
      have hM0 : wr.heap[M]? = some (.cells #[.pointer (some ⟨H, 0, none⟩), .slice (some ⟨b, off, none⟩) FL cf, .slice og GL cg] 54 (0, 0)) := by
        have h5 := (hF.fit.stat wr hF.g.kept).2.2
        rw [HCC.out] at h5
        exact h5
      have hH0 : wr.heap[H]? = some (.cells #[.int .i64 (m.q : Int), .int .i64 (c : Int), u1', u2'] 72 (0, 0)) := by
        have h5 := hF.g.heap.cell
        rw [HCC.out] at h5
        exact h5
      have hkb := hF.g.kept
      have hw0 : C.w0 = wb := by rw [HCC.out]; rfl
      rw [hw0] at hkb
      have hbk : ∀ q, q < wb.heap.size → ¬ three H v1 v2 q → wr.heap[q]? = wb.heap[q]? := by
        intro q h1 h2
        refine hkb.block q h1 ?_
        rw [HCC.out]
        rintro (h4 | h4)
        · exact h2 h4
        · have h5 : wb.heap.size ≤ q := h4
          omega
      have hdd := (hbk dd hdlt (fun a => by have := H0.out.heap.own_lt dd a; omega)).trans HDB.out
      obtain ⟨o7, k7, hv7, _⟩ := own_slice hF.g.out
      obtain ⟨o8, k8, hv8, _⟩ := own_slice hF.g.dn
      obtain ⟨_, _, _, _, y4, y5, y6, y7, y8, y9, y10⟩ := hF.cells
      have ccM := fun j => cell_of_row wr M j _ _ (0, 0) hM0
      have ccH := fun j => cell_of_row wr H j _ _ (0, 0) hH0
      have ccD := fun j => cell_of_row wr dd j _ _ (0, 0) hdd
      have a0 := (ccM 0).trans rfl
      have a2 := (ccM 2).trans rfl
      have b0 := (ccH 0).trans rfl
      have b1 := (ccH 1).trans rfl
      have b2 := (ccH 2).trans rfl
      have b3 := (ccH 3).trans rfl
      have g0 := (ccD 0).trans rfl
      have g1 := (ccD 1).trans rfl
      have g2 := (ccD 2).trans rfl
      have g3 := (ccD 3).trans rfl
      have fM := fun j => frozen_of_row wr M j _ _ hM0
      have fH := fun j => frozen_of_row wr H j _ _ hH0
      have i0 := fM 2
      have j0 := fH 0
      have j1 := fH 1
      have j2 := fH 2
      have j3 := fH 3
      clear ccM ccH ccD fM fH
      have hHM : H ≠ M := by
        rintro rfl
        exact (show TgB wr H 72 from ⟨_, hH0⟩).ne (show TgB wr H 54 from ⟨_, hM0⟩) (by decide)
      have hMH : M ≠ H := Ne.symm hHM
      have hHL : H ≠ C.lo := by
        rintro e
        exact (show TgB wr H 72 from ⟨_, hH0⟩).ne (e ▸ hF.g.rtag) (by decide)
      have hML : M ≠ C.lo := by
        rintro e
        exact (show TgB wr M 54 from ⟨_, hM0⟩).ne (e ▸ hF.g.rtag) (by decide)
      have hres3 := (hbk w.heap.size (by have := HLT.out; have := HBB.out.size; omega) (by
        rintro (h4 | h4 | h4)
        · have h5 : TgB w0 w.heap.size 33 := HTG.out
          have h6 : TgB w0 H 72 := ⟨_, H0.out.heap.cell⟩
          rw [h4] at h5
          exact h5.ne h6 (by decide)
        · exact (own_tag H0.out.heap.own1 _ h4).ne HTG.out (by decide)
        · exact (own_tag H0.out.heap.own2 _ h4).ne HTG.out (by decide))).trans HRES.out
      have hrH : w.heap.size ≠ H := by
        rintro e
        exact (show TgB wr w.heap.size 33 from ⟨_, hres3⟩).ne (e ▸ (show TgB wr H 72 from ⟨_, hH0⟩)) (by decide)
      have hrM : w.heap.size ≠ M := by
        rintro e
        exact (show TgB wr w.heap.size 33 from ⟨_, hres3⟩).ne (e ▸ (show TgB wr M 54 from ⟨_, hM0⟩)) (by decide)
      go_wp2_with fail
      go_region
      have hk5 : Kept (fun q => q = H ∨ q = M) wr (World.drew (((((wr.setCell ⟨H, 0, none⟩ (.int .i64 (m.q : Int))).setCell ⟨H, 1, none⟩ (.int .i64 (c : Int))).setCell ⟨H, 2, none⟩ (.slice ou1 W.length ku1)).setCell ⟨H, 3, none⟩ (.slice ou2 F.length ku2)).setCell ⟨M, 2, none⟩ (.slice p2 m.globs.length z2))) :=
        ((((((Kept.refl (fun q => q = H ∨ q = M) wr).setCell (p := ⟨H, 0, none⟩) (.inl (.inl rfl)) _).setCell (p := ⟨H, 1, none⟩) (.inl (.inl rfl)) _).setCell (p := ⟨H, 2, none⟩) (.inl (.inl rfl)) _).setCell (p := ⟨H, 3, none⟩) (.inl (.inl rfl)) _).setCell (p := ⟨M, 2, none⟩) (.inl (.inr rfl)) _).drew
      have hout := own_kept hF.g.out hk5 (by
        rintro q a (rfl | rfl)
        · exact (own_tag hF.g.out _ a).ne ⟨_, hH0⟩ (by decide)
        · exact (own_tag hF.g.out _ a).ne ⟨_, hM0⟩ (by decide))
      have hdn := own_kept hF.g.dn hk5 (by
        rintro q a (rfl | rfl)
        · exact (own_tag hF.g.dn _ a).ne ⟨_, hH0⟩ (by decide)
        · exact (own_tag hF.g.dn _ a).ne ⟨_, hM0⟩ (by decide))
      have hlo5 := (hk5.block C.lo hF.g.lt (fun e => e.elim (fun e => hHL e.symm) (fun e => hML e.symm))).trans hF.cell
      have hres5 := (hk5.block w.heap.size (lt_of_block hres3) (fun e => e.elim (fun e => hrH e) (fun e => hrM e))).trans hres3
      have HKW5 := Lib.hid ((HKW.out.step hkb (by
        intro q hq
        rw [HCC.out] at hq
        rcases hq with hq | hq
        · exact .inl (.inl hq)
        · have h5 : wb.heap.size ≤ q := hq
          exact .inr (Nat.le_trans HKW.out.size h5))).step hk5 (fun q hq => hq.elim (fun e => .inl (.inl (.inl e))) (fun e => .inl (.inr e))))
      clear hk5 a0 a2 b0 b1 b2 b3 g0 g1 g2 g3 i0 j0 j1 j2 j3 y4 y5 y6 y7 y8 y9 y10 hHM hMH hHL hML hrH hrM hres3 hbk hkb hdd
      generalize (World.drew (((((wr.setCell ⟨H, 0, none⟩ (.int .i64 (m.q : Int))).setCell ⟨H, 1, none⟩ (.int .i64 (c : Int))).setCell ⟨H, 2, none⟩ (.slice ou1 W.length ku1)).setCell ⟨H, 3, none⟩ (.slice ou2 F.length ku2)).setCell ⟨M, 2, none⟩ (.slice p2 m.globs.length z2))) = w5 at *
      go_wp2_with fail
      obtain ⟨W3, hW3⟩ : ∃ W3, W3 = w5.drew := ⟨_, rfl⟩
      replace hout : W3.ownsRow C.lo 5 1 vout st.out.length (Bs st.out) := by rw [hW3]; exact ⟨hout.1, hout.2⟩
      replace hdn : W3.ownsRow C.lo 26 2 vdn st.done.length (CsMv st.done) := by rw [hW3]; exact ⟨hdn.1, hdn.2⟩
      have hlo3 : W3.heap[C.lo]? = some (.cells (runC C st (.slice o1 st.frs.length k1) vst vtr vout vdn) 66 (0, 0)) := by rw [hW3]; exact hlo5
      have hblk3 : W3.heap[w.heap.size]? = some (.cells #[.int .i64 0, .int .u64 0, .string ⟨#[]⟩, .string ⟨#[]⟩, .slice none 0 0, .int .i64 0] 33 (0, 0)) := by rw [hW3]; exact hres5
      have hcv := conv_own hout
      have e3 := fun j => cell_of_row W3 C.lo j _ _ (0, 0) hlo3
      have r4 : W3.cell? ⟨C.lo, 4, none⟩ = some (.int .i64 (st.fuel : Int)) := (e3 4).trans rfl
      have r7 : W3.cell? ⟨C.lo, 7, none⟩ = some (vout) := (e3 7).trans rfl
      have r8 : W3.cell? ⟨C.lo, 8, none⟩ = some (vdn) := (e3 8).trans rfl
      have r9 : W3.cell? ⟨C.lo, 9, none⟩ = some (.string ⟨st.raised.toArray⟩) := (e3 9).trans rfl
      have r10 : W3.cell? ⟨C.lo, 10, none⟩ = some (.int .u64 (st.result : Int)) := (e3 10).trans rfl
      subst hv7 hv8
      have cc := fun j => cell_of_row W3 w.heap.size j _ _ (0, 0) hblk3
      have ff := fun j => frozen_of_row W3 w.heap.size j _ _ hblk3
      have t0 := (cc 0).trans rfl
      have t1 := (cc 1).trans rfl
      have t2 := (cc 2).trans rfl
      have t3 := (cc 3).trans rfl
      have t4 := (cc 4).trans rfl
      have t5 := (cc 5).trans rfl
      have s0 := ff 0
      have s1 := ff 1
      have s2 := ff 2
      have s3 := ff 3
      have s4 := ff 4
      have s5 := ff 5
      have hkw3 : Kept (fun k => three H v1 v2 k ∨ k = M) w W3 := by rw [hW3]; exact HKW5.out.drew
      have hfinal : ∀ W4, Kept (fun q => q = w.heap.size) W3 W4 → (∃ b0, W4.ownsRow b0 26 2 (.slice o8 st.done.length k8) st.done.length (CsMv st.done)) ∧ Kept (fun k => three H v1 v2 k ∨ k = M) w W4 :=
        fun W4 hk4 => ⟨⟨_, own_kept hdn hk4 fun q a e => (own_tag hdn q a).ne (e ▸ (show TgB W3 w.heap.size 33 from ⟨_, hblk3⟩)) (by decide)⟩, hkw3.step hk4 (fun q hq => .inr (Nat.le_of_eq hq.symm))⟩
      have HFIN := Lib.hid hfinal
      have HE0 := Lib.hid he0
      clear cc ff e3 hlo3 hlo5 hres5 hblk3 hfinal hout hdn hkw3
      refine wp_region_still_tail 23 (by kernel_rfl) (by kernel_rfl) ?_
      simp only [List.take_succ_cons, List.take_zero, List.drop_succ_cons, List.drop_zero]
      change wpStill _ _ w5.drew (fun a' => wpList _ _ _ _ a' w5.drew) _ _
      rw [← hW3]
      clear hW3
      repeat still_step
      refine wpStill_nil ?_
      change wpList _ _ _ _ _ W3
      go_wp2_with fail
      refine bodyPost_ret (v := .agg #[.int .i64 (ek : Int), .int .u64 (st.result : Int), .string ⟨st.raised.toArray⟩, .string ⟨st.out.toArray⟩, .slice o8 st.done.length k8, .int .i64 (st.fuel : Int)]) (by simp [results, Tryd.results10, go_sem, t0, t1, t2, t3, t4, t5]) rfl ⟨_, rfl, ?_⟩
      refine And.intro (HFIN.out _ ?_).1 (And.intro (HFIN.out _ ?_).2 (fun e => absurd e HE0.out))
      all_goals exact ((((((Kept.refl (fun k => k = w.heap.size) W3).setCell (p := ⟨w.heap.size, 0, none⟩) (.inl rfl) _).setCell (p := ⟨w.heap.size, 1, none⟩) (.inl rfl) _).setCell (p := ⟨w.heap.size, 2, none⟩) (.inl rfl) _).setCell (p := ⟨w.heap.size, 3, none⟩) (.inl rfl) _).setCell (p := ⟨w.heap.size, 4, none⟩) (.inl rfl) _).setCell (p := ⟨w.heap.size, 5, none⟩) (.inl rfl) _
end Go.Proofs.YtpmbdncackneoaaDoor

namespace Go.Proofs.YtpmbdncackneoaaDoor
open Go.RowKit HeaM Ma

def np : V → Prop
  | .prim _ _ => False
  | _ => True
/-- Nothing predefined is at hand. -/
def NoPrim (s : Ms) : Prop := (∀ v ∈ s.stk, np v) ∧ ∀ f ∈ s.frs, np f.self

theorem do_call {C : Cx} {s s' : Ms} {m : Nat} {w : World} (n a : Int) (str : ByteArray) (h : RunE C w s)
    (hl : ∀ w, RunE C w s → Calls Tryd.prog 37 #[.pointer (some ⟨C.lo, 0, none⟩)] w (OkRun C s' m)) :
    Calls Tryd.prog 20 #[.pointer (some ⟨C.lo, 0, none⟩), .agg #[.int .u8 7, .int .i64 n, .int .i64 a, .string str]] w (OkRun C s' m) := by
  have H1 := Lib.hid (hl _ (h.ins 7 n a str))
  clear h hl
  go_enter Tryd.func20, Tryd.ntmps20
  go_wp2_with fail
  refine H1.out.mono ?_
  rintro e w' ⟨rfl, hw⟩
  have HW := Lib.hid hw
  clear hw
  go_wp2
  go_ret
  exact ⟨rfl, HW.out⟩

theorem dp_call (C : Cx) (n a : Int) (str : ByteArray) : DoP NoPrim C ⟨7, n, a, str⟩ := by
  intro w s s' m f fs h hf hw hp hd
  have hd' : Ma.call C.m s = some (m, s') := hd
  unfold Ma.call at hd'
  refine do_call n a str h fun w h => ?_
  rcases hs : s.stk with _ | ⟨v, _ | ⟨g, t⟩⟩
  · rw [hs] at hd'; cases hd'
  · rw [hs] at hd'; cases hd'
  · rw [hs] at hd'
    have hl := hw.1
    rw [hs] at hl
    simp only [List.length_cons] at hl
    by_cases h0 : s.fuel = 0
    · simp only [h0, if_true, Option.some.injEq, Prod.mk.injEq] at hd'
      obtain ⟨rfl, rfl⟩ := hd'
      have := call_spent h hs (by rw [hs]; simp only [List.length_cons]; omega) h0
      rw [h0] at this
      exact this
    · simp only [if_neg h0] at hd'
      rcases g with x | ⟨i, l⟩ | ⟨i, k⟩ | ⟨i, p⟩
      · cases hd'
      · cases hd'
      · simp only at hd'
        rcases hg : C.m.funs[k]? with _ | gf
        · rw [hg] at hd'; cases hd'
        · rw [hg] at hd'
          simp only at hd'
          by_cases hc : gf.caps = 0
          · rw [if_pos hc] at hd'
            unfold Ma.enter at hd'
            by_cases hb : 67108864 < t.length + 3 * s.trs.length
            · simp only [if_pos hb] at hd'; cases hd'
            · simp only [if_neg hb, ok, Option.some.injEq, Prod.mk.injEq] at hd'
              obtain ⟨rfl, rfl⟩ := hd'
              exact call_fn h hs (by omega) (by have := hw.2.1; omega) h0 hg hc
          · rw [if_neg hc] at hd'; cases hd'
      · exact absurd (hp.1 (.prim i p) (by rw [hs]; simp)) (by simp [np])
end Go.Proofs.YtpmbdncackneoaaDoor
