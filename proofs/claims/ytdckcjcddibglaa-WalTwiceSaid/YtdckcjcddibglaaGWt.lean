/- WaU, WaT, in one text. -/
import Derived.Test.YtdckcjcddibglaaGWq
import Derived.Deep.Upon
import Derived.Deep.Cut
import Derived.Deep.CutBlock
import Derived.Deep.DeepCutAuto
import Derived.Laws.Tables

namespace Go.Proofs.Ytdckcjcddibglaa
open Go.RowKit OctM

theorem choose_l {α : Type} : ∀ (n : Nat) (P : Nat → α → Prop), (∀ i, i < n → ∃ q, P i q) → ∃ qs : List α, qs.length = n ∧ ∀ i q, qs[i]? = some q → P i q
  | 0, _, _ => ⟨[], rfl, by simp⟩
  | n + 1, P, h => by
    obtain ⟨q, hq⟩ := h 0 (by omega)
    obtain ⟨qs, hl, ha⟩ := choose_l n (fun i => P (i + 1)) (fun i hi => h (i + 1) (by omega))
    refine ⟨q :: qs, by simp [hl], fun i x hx => ?_⟩
    cases i with
    | zero =>
      rw [List.getElem?_cons_zero] at hx
      injection hx with hx
      rw [← hx]
      exact hq
    | succ i => exact ha i x (by simpa using hx)
theorem CsE_cons (p : En × Value) (ps : List (En × Value)) : CsE (p :: ps) = cE p ++ CsE ps := by simp [CsE]
theorem CsE_get : ∀ (ps : List (En × Value)) (i : Nat) (p : En × Value), ps[i]? = some p → ∀ (j : Nat) (u : Value), (cE p)[j]? = some u → (CsE ps)[i * 4 + j]? = some u
  | [], i, p, hp, _, _, _ => by simp at hp
  | q :: ps, i, p, hp, j, u, hu => by
    have hj : j < 4 := by
      have h1 := (List.getElem?_eq_some_iff.1 hu).1
      simpa [cE] using h1
    rw [CsE_cons]
    cases i with
    | zero =>
      rw [List.getElem?_cons_zero] at hp
      injection hp with hp
      rw [hp, List.getElem?_append_left (by simp [cE]; omega), Nat.zero_mul, Nat.zero_add]
      exact hu
    | succ i =>
      rw [List.getElem?_append_right (by simp [cE]; omega)]
      have := CsE_get ps i p (by simpa using hp) j u hu
      rw [show (i + 1) * 4 + j - (cE q).length = i * 4 + j by simp [cE]; omega]
      exact this
theorem CsE_at : ∀ (ps : List (En × Value)) (j : Nat) (u : Value), (CsE ps)[j]? = some u → ∃ i p r, ps[i]? = some p ∧ j = i * 4 + r ∧ (cE p)[r]? = some u
  | [], j, u, h => by simp [CsE] at h
  | q :: ps, j, u, h => by
    rw [CsE_cons] at h
    by_cases hj : j < 4
    · rw [List.getElem?_append_left (by simp [cE]; omega)] at h
      exact ⟨0, q, j, rfl, by omega, h⟩
    · rw [List.getElem?_append_right (by simp [cE]; omega)] at h
      obtain ⟨i, p, r, h1, h2, h3⟩ := CsE_at ps _ u h
      refine ⟨i + 1, p, r, by simpa using h1, ?_, h3⟩
      simp [cE] at h2
      omega
theorem cE_cell {w : World} {b o : Nat} {p : En × Value} (h : EnAt w b o p.1 p.2) {r : Nat} {u : Value} (hu : (cE p)[r]? = some u) : w.cell? ⟨b, o + r, none⟩ = some u := by
  have hr : r < 4 := by
    have h1 := (List.getElem?_eq_some_iff.1 hu).1
    simpa [cE] using h1
  rcases r with _ | _ | _ | _ | r
  · injection hu with hu; rw [← hu]; exact h.tm
  · injection hu with hu; rw [← hu]; exact h.ss
  · injection hu with hu; rw [← hu]; exact h.nm
  · injection hu with hu; rw [← hu]; exact h.cl
  · omega

/-- What replaced leaves: the old log's blocks, those of the new ones' bytes, and what is new. -/
def RpL (L : Nat → Prop) (ps : List (En × Value)) (w w' : World) : Nat → Prop := fun k => L k ∨ (∃ p ∈ ps, p.2.ownBlock = some k) ∨ (w.heap.size ≤ k ∧ k < w'.heap.size)

theorem rd_one {w : World} {v : Value} {l : List UInt8} (h : Rd w v l) : v.oneCell' = true := by
  rcases h with ⟨rfl, _⟩ | ⟨a, c, rfl, _⟩ <;> rfl

set_option maxRecDepth 100000 in
theorem app_keep {L : Nat → Prop} {w : World} {base : Nat} {lv m : Value} {l0 : List En} {ps : List (En × Value)} (keep : Nat) (hk : keep ≤ l0.length)
    (hcut : (lv = .slice none 0 0 ∧ keep = 0) ∨ ∃ b o, lv = .slice (some ⟨b, o, none⟩) keep keep ∧ ∀ i x, l0[i]? = some x → ∃ vx, EnAt w b (o + i * 4) x vx ∧ ∀ g, vx.ownBlock = some g → L g)
    (h : OwnL w base m ps) (hp : 0 < ps.length) (hl : ps.length ≤ 1000) (hl0 : l0.length ≤ 1000) :
    ∃ g c w', (Builtin.append_ #[28, 28] 28 #[lv, m]).run Try.prog w = .ok (.slice (some ⟨g, 0, none⟩) (keep + ps.length) c) w' ∧
      LogIn (RpL L ps w w') w' (.slice (some ⟨g, 0, none⟩) (keep + ps.length) c) (l0.take keep ++ ps.map Prod.fst) ∧ Below w.heap.size w w' := by
  obtain ⟨g0, c0, rfl, hg0, hgl, hcs⟩ := own_start h hp
  obtain ⟨i0, hi0, hz0, hz1, hz2⟩ := info_parts (show (Try.prog.info? 33).map (fun i => (i.zero, i.size, i.bytes)) = some (some (.agg #[.int .u64 0, .int .u64 0, .int .u64 0, .slice none 0 0]), 4, 48) by kernel_rfl)
  have hone : ∀ u ∈ CsE ps, u.oneCell' = true := fun u hu => by
    obtain ⟨p, hpm, hx⟩ := List.mem_flatMap.1 hu
    simp only [cE, List.mem_cons, List.not_mem_nil, or_false] at hx
    rcases hx with rfl | rfl | rfl | rfl
    · rfl
    · rfl
    · rfl
    · exact rd_one (Rd.of_own (h.cells p hpm))
  obtain ⟨qs, hql, hqm, hqe, bs, hbs, hold⟩ : ∃ qs : List (En × Value), qs.length = keep ∧ qs.map Prod.fst = l0.take keep ∧ (∀ q ∈ qs, Rd w q.2 q.1.cl ∧ ∀ g, q.2.ownBlock = some g → L g) ∧
      ∃ bs, lv = .slice bs keep keep ∧ (Builtin.firstCells i0.size keep (.slice bs keep keep)).run Try.prog w.drew = .ok (CsE qs).toArray w.drew := by
    rcases hcut with ⟨rfl, rfl⟩ | ⟨b, o, rfl, hall⟩
    · exact ⟨[], rfl, rfl, (fun q hq => (List.not_mem_nil hq).elim), none, rfl, run_firstCells_none w.drew i0.size 0 0 0⟩
    · obtain ⟨qs, hql, hqa⟩ := choose_l keep (fun i (q : En × Value) => l0[i]? = some q.1 ∧ EnAt w b (o + i * 4) q.1 q.2 ∧ ∀ g, q.2.ownBlock = some g → L g) (fun i hi => by
        have hx : l0[i]? = some l0[i] := List.getElem?_eq_getElem (by omega)
        obtain ⟨vx, he, hb⟩ := hall i _ hx
        exact ⟨(l0[i], vx), hx, he, hb⟩)
      refine ⟨qs, hql, ?_, fun q hq => ?_, some ⟨b, o, none⟩, rfl, ?_⟩
      · apply List.ext_getElem?
        intro i
        by_cases hi : i < keep
        · have hx : qs[i]? = some qs[i] := List.getElem?_eq_getElem (by omega)
          rw [List.getElem?_map, hx, List.getElem?_take, if_pos hi, (hqa i _ hx).1]
          rfl
        · rw [List.getElem?_eq_none (by rw [List.length_map]; omega), List.getElem?_eq_none (by rw [List.length_take]; omega)]
      · obtain ⟨i, hi⟩ := List.getElem?_of_mem hq
        exact ⟨(hqa i q hi).2.1.rd, (hqa i q hi).2.2⟩
      · rw [hz1]
        refine run_firstCells_some w.drew 4 keep ⟨b, o, none⟩ keep keep (CsE qs) (by rw [CsE_length, hql]) (fun j u hu => ?_)
        obtain ⟨i, q, r, h1, rfl, h3⟩ := CsE_at qs j u hu
        have := cE_cell (hqa i q h1).2.1 h3
        rw [add_none, show o + (i * 4 + r) = o + i * 4 + r by omega]
        exact this
  subst hbs
  have hsrc : Src Try.prog i0.size 28 (.slice (some ⟨g0, 0, none⟩) ps.length c0) ps.length (CsE ps) w := Src.ofSlice w Try.underlying28 ⟨g0, 0, none⟩ ps.length c0 (CsE ps) (by rw [CsE_length, hz1]) hcs hone
  have hrun := run_append_grow_src (P := Try.prog) w 28 28 28 33 i0 _ Try.underlying28 hi0 hz0 bs keep keep (CsE qs) hold (.slice (some ⟨g0, 0, none⟩) ps.length c0) ps.length (CsE ps) hsrc (by omega) (by omega) (growslice_fits (by omega) (by rw [hz2]; omega))
  have hge := grownCap_ge w (keep + ps.length) keep 33
  have hcm := grownCap_le_maxLen w (keep + ps.length) keep 33 (by unfold maxLen; omega)
  have hw' : Below w.heap.size w (w.drew.alloc (.cells ((CsE qs ++ CsE ps).toArray ++ Builtin.zeroCells (Value.agg #[.int .u64 0, .int .u64 0, .int .u64 0, .slice none 0 0]).cells (grownCap w (keep + ps.length) keep 33 - (keep + ps.length))) 33)) := ((Below.refl _ _).drew).alloc (Nat.le_refl _) _
  refine ⟨w.heap.size, _, _, hrun, ?_, hw'⟩
  have hcell : ∀ j u, (CsE (qs ++ ps))[j]? = some u → (w.drew.alloc (.cells ((CsE qs ++ CsE ps).toArray ++ Builtin.zeroCells (Value.agg #[.int .u64 0, .int .u64 0, .int .u64 0, .slice none 0 0]).cells (grownCap w (keep + ps.length) keep 33 - (keep + ps.length))) 33)).cell? ⟨w.heap.size, j, none⟩ = some u := by
    intro j u hu
    have e1 : (w.drew.alloc (.cells ((CsE qs ++ CsE ps).toArray ++ Builtin.zeroCells (Value.agg #[.int .u64 0, .int .u64 0, .int .u64 0, .slice none 0 0]).cells (grownCap w (keep + ps.length) keep 33 - (keep + ps.length))) 33)).cell? ⟨w.heap.size, j, none⟩ = _ := World.cell?_alloc_new w.drew _ _ j
    have e2 : CsE (qs ++ ps) = CsE qs ++ CsE ps := by simp [CsE]
    rw [e2] at hu
    rw [e1, Array.getElem?_append_left (by simp only [List.size_toArray]; exact (List.getElem?_eq_some_iff.1 hu).1), List.getElem?_toArray]
    exact hu
  have hlen : (l0.take keep ++ ps.map Prod.fst).length = keep + ps.length := by rw [List.length_append, List.length_take, List.length_map]; omega
  refine .inr ⟨w.heap.size, 0, _, by rw [hlen], by rw [hlen]; exact hge, hcm, ⟨by rw [hlen]; omega, .inr (.inr ⟨Nat.le_refl _, by simp⟩)⟩, fun i x hx => ?_⟩
  rw [← hqm, ← List.map_append, List.getElem?_map] at hx
  obtain ⟨q, hq, rfl⟩ : ∃ q, (qs ++ ps)[i]? = some q ∧ q.1 = x := by simpa using hx
  have hc := fun r u hu => hcell (i * 4 + r) u (CsE_get (qs ++ ps) i q hq r u hu)
  rw [Nat.zero_add]
  have hqmem := List.mem_of_getElem? hq
  have hrq : Rd w q.2 q.1.cl ∧ ∀ g, q.2.ownBlock = some g → L g ∨ (∃ p ∈ ps, p.2.ownBlock = some g) := by
    rcases List.mem_append.1 hqmem with hm | hm
    · exact ⟨(hqe q hm).1, fun g hg => .inl ((hqe q hm).2 g hg)⟩
    · exact ⟨Rd.of_own (h.cells q hm), fun g hg => .inr ⟨q, hm, hg⟩⟩
  refine ⟨q.2, ⟨hc 0 _ rfl, hc 1 _ rfl, hc 2 _ rfl, hc 3 _ rfl, hrq.1.below hw'⟩, fun g hg => ?_⟩
  rcases hrq.2 g hg with h1 | h1
  · exact .inl h1
  · exact .inr (.inl h1)

set_option maxHeartbeats 4000000 in
set_option maxRecDepth 100000 in
/-- The old log, or none: what is kept of it. -/
theorem replaced_any {L : Nat → Prop} {base : Nat} (w : World) (lv m : Value) (l0 : List En) (ps : List (En × Value)) (keep : Nat) (hlog : LogIn L w lv l0) (hk : keep < l0.length ∨ (l0 = [] ∧ keep = 0)) (h : OwnL w base m ps) (hp : 0 < ps.length) (hl : ps.length ≤ 1000) (hl0 : l0.length ≤ 1000) :
    Calls Try.prog 18 #[lv, .int .i64 (keep : Int), m] w fun e w' => ∃ v2, e = .returned v2 ∧ LogIn (RpL L ps w w') w' v2 (l0.take keep ++ ps.map Prod.fst) ∧ Below w.heap.size w w' := by
  obtain ⟨gm, cm, hm, -⟩ := own_start h hp
  rcases hk with hk | ⟨rfl, rfl⟩
  · obtain ⟨b, o, c, rfl, hc1, hc2, hb, hall⟩ : ∃ b o c, lv = .slice (some ⟨b, o, none⟩) l0.length c ∧ l0.length ≤ c ∧ c ≤ maxLen ∧ (0 < l0.length ∧ L b) ∧ ∀ i x, l0[i]? = some x → ∃ vx, EnAt w b (o + i * 4) x vx ∧ ∀ g, vx.ownBlock = some g → L g := by
      rcases hlog with ⟨_, rfl⟩ | h1
      · simp at hk
      · exact h1
    obtain ⟨g, c', w2, hr, hlg, hb2⟩ := app_keep (lv := .slice (some ⟨b, o, none⟩) keep keep) keep (by omega) (.inr ⟨b, o, rfl, hall⟩) h hp hl hl0
    have HLG := Lib.hid hlg
    have HB2 := Lib.hid hb2
    subst hm
    have hkI : (keep : Int) < (l0.length : Int) := by omega
    have hkc : keep ≤ c := by omega
    clear hlg hb2 hall hlog h hb
    unfold maxLen at hc2
    go_enter Try.func18, Try.ntmps18
    go_wp2_with (at_builtin; refine wpList_append_known rfl _ _ _ _ rfl _ _ _ rfl rfl hr ?_)
    go_ret
    exact ⟨_, rfl, HLG.out, HB2.out⟩
  · obtain rfl := hlog.nil
    obtain ⟨g, c', w2, hr, hlg, hb2⟩ := app_keep (L := L) (l0 := []) (lv := .slice none 0 0) 0 (Nat.le_refl _) (.inl ⟨rfl, rfl⟩) h hp hl hl0
    rw [Nat.zero_add] at hr hlg
    have HLG := Lib.hid hlg
    have HB2 := Lib.hid hb2
    subst hm
    clear hlg hb2 hlog h
    go_enter Try.func18, Try.ntmps18
    go_wp2_with (at_builtin; refine wpList_append_known rfl _ _ _ _ rfl _ _ _ rfl rfl hr ?_)
    go_ret
    exact ⟨_, rfl, HLG.out, HB2.out⟩
end Go.Proofs.Ytdckcjcddibglaa

namespace Go.Proofs.Ytdckcjcddibglaa
open Go.RowKit OctM

theorem row_kept (W : World) (b : Nat) (cs : Array Value) : Kept (fun g => g = b) W (W.setRow b cs) :=
  ⟨rfl, rfl, rfl, by simp, fun k _ hk => setRow_other W b k cs hk⟩
/-- A store of a whole struct, as a step of a region that draws. -/
theorem step_store_row {P : Program} {ops : Array Oper} {o : Oper} {a : Act} {w : World} {K : Act → World → Prop} {Q : Exit → Act → World → Prop} {E : Prop} (hgd : o.guard = none) (ty : TypeId) (x y : Operand) (ho : o.op = .store ty x y)
    (g : Nat) (cells : Array Value) (hx : a.eval x = .pointer (some ⟨g, 0, none⟩)) (hy : a.eval y = .agg cells)
    (t : TypeId) (old : Array Value) (hg : w.heap[g]? = some (.cells old t (0, 0))) (hi : (P.info? ty).map (·.size) = some cells.size)
    (hold : old.size = cells.size) (h1 : cells.all (·.oneCell') = true)
    (h : K (a.put o.dst undef) (w.setRow g cells)) : if Region.wanted o (yielded ops a.tmps) = true then Oper.wp P o a w K Q else E := by
  have hw : Region.wanted o (yielded ops a.tmps) = true := by simp [Region.wanted, hgd]
  rw [if_pos hw]
  exact wp_store_row ty x y ho g cells hx hy t old hg hi hold h1 h

/-- The next state in a box. -/
def stC4 (tm : Nat) (vt : Int) (bs : Nat) (v : Value) : List Value := [.int .u64 (tm : Int), .int .i64 vt, .int .u64 (bs : Int), v]
def zsC4 : List Value := [.int .u64 0, .int .i64 0, .int .u64 0, .slice none 0 0]
def SvB (w wx : World) (L : Nat → Prop) (bx : Nat) (n : Wst) (v2 : Value) : Prop :=
  Below w.heap.size w wx ∧ w.heap.size ≤ bx ∧ wx.heap[bx]? = some (.cells (stC4 n.tm n.vt n.bs v2).toArray 36 (0, 0)) ∧ LogIn (fun k => k ≠ bx ∧ (L k ∨ (w.heap.size ≤ k ∧ k < wx.heap.size))) wx v2 n.lg
theorem svB_fin {w wz : World} {L N : Nat → Prop} {bx : Nat} {n : Wst} {v2 : Value} (hlog : LogIn N wz v2 n.lg) (hN : ∀ k, N k → k ≠ bx ∧ (L k ∨ (w.heap.size ≤ k ∧ k < wz.heap.size))) (hb : Below w.heap.size w wz) (hbx : wz.heap[bx]? = some (.cells zsC4.toArray 36 (0, 0))) (hge : w.heap.size ≤ bx) :
    SvB w (wz.setRow bx (stC4 n.tm n.vt n.bs v2).toArray) L bx n v2 := by
  refine ⟨hb.trans ((row_kept wz bx _).below hb.size (fun k hk => by omega)), hge, setRow_heap _ _ _ _ _ _ hbx, hlog.block (fun g hg => setRow_other wz bx g _ (hN g hg).1) (fun g hg => ?_)⟩
  have hs : (wz.setRow bx (stC4 n.tm n.vt n.bs v2).toArray).heap.size = wz.heap.size := by simp
  rw [hs]
  exact hN g hg

theorem WlX.low {w w' : World} {R X L : Nat → Prop} {v : Value} {B D T : Nat} {s : Wl} (h : WlX w R X L v B D T s) {R' : Nat → Prop} (hb : Below w.heap.size w w') (hR : ∀ k, R k → R' k) (hl : ∀ k, R' k → k < w'.heap.size) : WlX w' R' X L v B D T s :=
  ⟨h.dt.block (fun g _ hl => hb.block g hl) (fun _ h => h), (hb.block _ (lt_of_block h.cell)).trans h.cell, h.log.block (fun g hg => hb.block g (h.lt g (h.sL g hg).1)) (fun _ h => h), fun k hk => hR k (h.sX k hk), fun k hk => ⟨hR k (h.sL k hk).1, (h.sL k hk).2⟩, hR _ h.rB, h.nB, hl, h.ok, h.lim⟩

set_option maxHeartbeats 8000000 in
set_option maxRecDepth 100000 in
theorem save_any (tm : Nat) (vt : Int) (fr : Nat) (l : List En) (lv : Value) (w : World) {R : Nat → Prop} {B D T : Nat} {s r : Wl} {d1 d2 : Dr} (h0 : WlAt w R B D T s) (hr : RdL w lv l) (hok : ∀ x ∈ l, x.Ok) (hl : l.length ≤ 1000) (hpos : 0 < l.length)
    (htm : tm < 18446744073709551616) (hvt : -1 ≤ vt ∧ vt < 7) (keep : Nat) (hfr : fr = s.st.bs + 1 + keep) (hkeep : keep < s.st.lg.length ∨ (s.st.lg = [] ∧ keep = 0)) (hf64 : fr < 18446744073709551616)
    (hlen : (s.st.lg.take keep ++ l).length ≤ 1000) (ht : s.turn < 1000000) (hops : s.d.ops ≤ 900000) (hops1 : d1.ops ≤ 900000)
    (hcase : (s.shut = true ∧ writeS s.d s.sp (wholeB (s.turn + 1) ⟨tm, vt, s.st.bs, s.st.lg.take keep ++ l⟩) = (0, d1) ∧ syncS d1 s.sp = (0, d2) ∧ r = ⟨d2, s.sp, s.now, s.turn + 1, false, ⟨tm, vt, s.st.bs, s.st.lg.take keep ++ l⟩⟩) ∨
      (s.shut = false ∧ appS s.d s.now (saveB tm vt fr l) = (0, d1) ∧ syncS d1 s.now = (0, d2) ∧ (saveB tm vt fr l).length ≤ 100000000 ∧ r = ⟨d2, s.now, s.sp, s.turn, s.shut, ⟨tm, vt, s.st.bs, s.st.lg.take keep ++ l⟩⟩)) :
    Calls Try.prog 7 #[.pointer (some ⟨B, 0, none⟩), .int .u64 (tm : Int), .int .i64 vt, .int .u64 (fr : Int), lv] w fun e w' => e = .returned (.int .i64 0) ∧ WlAt w' (Fr R w w') B D T r ∧ Kept R w w' := by
  obtain ⟨X, L, v, h⟩ := h0
  obtain ⟨o, c, hvf⟩ := h.log.rd.form
  subst hvf
  obtain ⟨ol, cl, hlf⟩ := hr.form
  subst hlf
  have HB := lt_of_block h.cell
  have HH := Lib.hid h
  have HLw : Hid (∀ k, L k → k < w.heap.size) := fun k hk => h.lt k (h.sL k hk).1
  have HREP : Hid (∀ (W : World) (m : Value) (ps : List (En × Value)) (b0 : Nat), Below w.heap.size w W → OwnL W b0 m ps → ps.map Prod.fst = l → Calls Try.prog 18 #[.slice o s.st.lg.length c, .int .i64 (keep : Int), m] W fun e w' => ∃ v2, e = .returned v2 ∧ LogIn (RpL L ps W w') w' v2 (s.st.lg.take keep ++ l) ∧ Below W.heap.size W w') :=
    Lib.hid (fun W m ps b0 hb hom hps => by
      have hpl : ps.length = l.length := by rw [← hps, List.length_map]
      rw [← hps]
      exact replaced_any W _ m s.st.lg ps keep (h.log.block (fun g hg => hb.block g (h.lt g (h.sL g hg).1)) (fun _ h => h)) hkeep hom (by omega) (by omega) h.ok.len)
  have hkl : keep ≤ s.st.lg.length := by
    rcases hkeep with h1 | ⟨_, h1⟩
    · omega
    · omega
  have HCASE := Lib.hid hcase
  have hlim := h.lim
  have hbs := h.ok.bs
  have hlgl := h.ok.len
  have x7 := cellk (i := 7) h.cell rfl
  have x8 := cellk (i := 8) h.cell rfl
  have HCN := Lib.hid (contains_any l _ w hr hok hl)
  have HRL := Lib.hid hr
  have HOK := Lib.hid hok
  have HNO : Hid (Wst.Ok ⟨tm, vt, s.st.bs, s.st.lg.take keep ++ l⟩) := ⟨htm, hvt.1, hvt.2, hbs, fun x hx => by
    rcases List.mem_append.1 hx with hx | hx
    · exact h.ok.lg x (List.mem_of_mem_take hx)
    · exact hok x hx, hlen⟩
  obtain ⟨NL, hNL⟩ : ∃ NL, s.st.lg.take keep ++ l = NL := ⟨_, rfl⟩
  rw [hNL] at HREP HCASE HNO
  obtain ⟨k1, hk1⟩ : ∃ k1 : Nat, k1 = keep + 1 := ⟨_, rfl⟩
  have w1 : IntKind.u64.wrap ((fr : Int) - (s.st.bs : Int)) = (k1 : Int) := by rw [IntKind.wrap_u64]; omega
  have w2 : IntKind.u64.wrap ((k1 : Int) - 1) = (keep : Int) := by rw [IntKind.wrap_u64]; omega
  have wl : IntKind.u64.wrap (s.st.lg.length : Int) = (s.st.lg.length : Int) := by rw [IntKind.wrap_u64]; omega
  have wk : IntKind.i64.wrap (keep : Int) = (keep : Int) := IntWalk.i64_in _ (by omega)
  have c1 : ¬ (vt < -1) := by omega
  have c2 : ¬ (7 ≤ vt) := by omega
  have c3 : ¬ ((s.st.lg.length : Int) < (keep : Int)) := by omega
  have HVT := Lib.hid hvt
  clear h hr hok hk1 hfr hkeep hcase hlen hNL
  go_enter Try.func7, Try.ntmps7
  go_wp2_with fail
  refine HCN.out.mono ?_
  rintro e wa ⟨rfl, hba⟩
  have hsa := hba.size
  have hca := (hba.block B HB).trans HH.out.cell
  have x7 := cellk (i := 7) hca rfl
  have x8 := cellk (i := 8) hca rfl
  have HBA := Lib.hid hba
  have HCA := Lib.hid (show wa.drew.heap[B]? = _ from hca)
  have hsd : wa.drew.heap.size = wa.heap.size := rfl
  clear hba hca HCN
  go_upto_region 8 with fail
  go_cut [12] from 43 (fun v12 wx => ∃ wy bx v2, wy = wx ∧ v12 = .pointer (some ⟨bx, 0, none⟩) ∧ Hid (SvB w wy L bx ⟨tm, vt, s.st.bs, NL⟩ v2))
  case first =>
    as_aux_lemma =>
    rename_i JJ KK hJJ hMJ
    refine wp_region_held_drew (S := fun w' => w'.cell? ⟨B, 7, none⟩ = some (.int .u64 (s.st.bs : Int)) ∧ w'.cell? ⟨B, 8, none⟩ = some (.slice o s.st.lg.length c)) (by kernel_rfl) ⟨x7, x8⟩ ?_
    intro hHeld
    refine wpAnyH_take (i := 0) (v := ?_) (by simp only [List.getElem?_toArray, List.getElem?_cons_zero]; rfl) (by kernel_rfl) (by kernel_rfl) (by kernel_rfl) (by intro _ _ _ h; exact h) (Or.inl ⟨by rfl, ?_⟩) (by assumption) ?_
    rotate_left
    · (intro w hSw; (try dsimp only at hSw); go_simp; try with_reducible rfl)
    try simp only [Act.put, List.setIfInBounds_toArray, List.set_cons_zero, List.set_cons_succ]
    refine wpAnyH_take (i := 1) (v := ?_) (by simp only [List.getElem?_toArray, List.getElem?_cons_succ, List.getElem?_cons_zero]; rfl) (by kernel_rfl) (by kernel_rfl) (by kernel_rfl) (by intro _ _ _ h; exact h) (Or.inl ⟨by rfl, ?_⟩) (by assumption) ?_
    rotate_left
    · (intro w hSw; (try dsimp only at hSw); go_simp; try with_reducible rfl)
    try simp only [Act.put, List.setIfInBounds_toArray, List.set_cons_zero, List.set_cons_succ]
    refine wpAnyH_take (i := 2) (v := ?_) (by simp only [List.getElem?_toArray, List.getElem?_cons_succ, List.getElem?_cons_zero]; rfl) (by kernel_rfl) (by kernel_rfl) (by kernel_rfl) (by intro _ _ _ h; exact h) (Or.inl ⟨by rfl, ?_⟩) (by assumption) ?_
    rotate_left
    · (intro w hSw; (try dsimp only at hSw); go_simp; try with_reducible rfl)
    try simp only [Act.put, List.setIfInBounds_toArray, List.set_cons_zero, List.set_cons_succ]
    refine wpAnyH_take (i := 3) (v := ?_) (by simp only [List.getElem?_toArray, List.getElem?_cons_succ, List.getElem?_cons_zero]; rfl) (by kernel_rfl) (by kernel_rfl) (by kernel_rfl) (by intro _ _ _ h; exact h) (Or.inl ⟨by rfl, ?_⟩) (by assumption) ?_
    rotate_left
    · (intro w hSw; (try dsimp only at hSw); go_simp; try with_reducible rfl)
    try simp only [Act.put, List.setIfInBounds_toArray, List.set_cons_zero, List.set_cons_succ]
    refine wpAnyH_take (i := 4) (v := ?_) (by simp only [List.getElem?_toArray, List.getElem?_cons_succ, List.getElem?_cons_zero]; rfl) (by kernel_rfl) (by kernel_rfl) (by kernel_rfl) (by intro _ _ _ h; exact h) (Or.inl ⟨by rfl, ?_⟩) (by assumption) ?_
    rotate_left
    · (intro w hSw; (try dsimp only at hSw); go_simp; try with_reducible rfl)
    try simp only [Act.put, List.setIfInBounds_toArray, List.set_cons_zero, List.set_cons_succ]
    refine wpAnyH_take (i := 5) (v := ?_) (by simp only [List.getElem?_toArray, List.getElem?_cons_succ, List.getElem?_cons_zero]; rfl) (by kernel_rfl) (by kernel_rfl) (by kernel_rfl) (by intro _ _ _ h; exact h) (Or.inl ⟨by rfl, ?_⟩) (by assumption) ?_
    rotate_left
    · (intro w hSw; (try dsimp only at hSw); go_simp; try with_reducible rfl)
    try simp only [Act.put, List.setIfInBounds_toArray, List.set_cons_zero, List.set_cons_succ]
    refine wpAnyH_take (i := 6) (v := ?_) (by simp only [List.getElem?_toArray, List.getElem?_cons_succ, List.getElem?_cons_zero]; rfl) (by kernel_rfl) (by kernel_rfl) (by kernel_rfl) (by intro _ _ _ h; exact h) (Or.inl ⟨by rfl, ?_⟩) (by assumption) ?_
    rotate_left
    · (intro w hSw; (try dsimp only at hSw); go_simp; try with_reducible rfl)
    try simp only [Act.put, List.setIfInBounds_toArray, List.set_cons_zero, List.set_cons_succ]
    refine wpAnyH_take (i := 7) (v := ?_) (by simp only [List.getElem?_toArray, List.getElem?_cons_succ, List.getElem?_cons_zero]; rfl) (by kernel_rfl) (by kernel_rfl) (by kernel_rfl) (by intro _ _ _ h; exact h) (Or.inl ⟨by rfl, ?_⟩) (by assumption) ?_
    rotate_left
    · (intro w hSw; (try dsimp only at hSw); go_simp; try with_reducible rfl)
    try simp only [Act.put, List.setIfInBounds_toArray, List.set_cons_zero, List.set_cons_succ]
    refine wpAnyH_take (i := 8) (v := ?_) (by simp only [List.getElem?_toArray, List.getElem?_cons_succ, List.getElem?_cons_zero]; rfl) (by kernel_rfl) (by kernel_rfl) (by kernel_rfl) (by intro _ _ _ h; exact h) (Or.inl ⟨by rfl, ?_⟩) (by assumption) ?_
    rotate_left
    · (intro w hSw; (try dsimp only at hSw); go_simp; try with_reducible rfl)
    try simp only [Act.put, List.setIfInBounds_toArray, List.set_cons_zero, List.set_cons_succ]
    refine wpAnyH_take (i := 9) (v := ?_) (by simp only [List.getElem?_toArray, List.getElem?_cons_succ, List.getElem?_cons_zero]; rfl) (by kernel_rfl) (by kernel_rfl) (by kernel_rfl) (by intro _ _ _ h; exact h) (Or.inl ⟨by rfl, ?_⟩) (by assumption) ?_
    rotate_left
    · (intro w hSw; (try dsimp only at hSw); go_simp; try with_reducible rfl)
    try simp only [Act.put, List.setIfInBounds_toArray, List.set_cons_zero, List.set_cons_succ]
    refine wpAnyH_take (i := 10) (v := ?_) (by simp only [List.getElem?_toArray, List.getElem?_cons_succ, List.getElem?_cons_zero]; rfl) (by kernel_rfl) (by kernel_rfl) (by kernel_rfl) (by intro _ _ _ h; exact h) (Or.inl ⟨by rfl, ?_⟩) (by assumption) ?_
    rotate_left
    · (intro w hSw; (try dsimp only at hSw); go_simp; try with_reducible rfl)
    try simp only [Act.put, List.setIfInBounds_toArray, List.set_cons_zero, List.set_cons_succ]
    refine wpAnyH_take (i := 11) (v := ?_) (by simp only [List.getElem?_toArray, List.getElem?_cons_succ, List.getElem?_cons_zero]; rfl) (by kernel_rfl) (by kernel_rfl) (by kernel_rfl) (by intro _ _ _ h; exact h) (Or.inl ⟨by rfl, ?_⟩) (by assumption) ?_
    rotate_left
    · (intro w hSw; (try dsimp only at hSw); go_simp; try with_reducible rfl)
    try simp only [Act.put, List.setIfInBounds_toArray, List.set_cons_zero, List.set_cons_succ]
    refine wpAnyH_take (i := 12) (v := ?_) (by simp only [List.getElem?_toArray, List.getElem?_cons_succ, List.getElem?_cons_zero]; rfl) (by kernel_rfl) (by kernel_rfl) (by kernel_rfl) (by intro _ _ _ h; exact h) (Or.inl ⟨by rfl, ?_⟩) (by assumption) ?_
    rotate_left
    · (intro w hSw; (try dsimp only at hSw); go_simp; try with_reducible rfl)
    try simp only [Act.put, List.setIfInBounds_toArray, List.set_cons_zero, List.set_cons_succ]
    refine wpAnyH_take (i := 13) (v := ?_) (by simp only [List.getElem?_toArray, List.getElem?_cons_succ, List.getElem?_cons_zero]; rfl) (by kernel_rfl) (by kernel_rfl) (by kernel_rfl) (by intro _ _ _ h; exact h) (Or.inl ⟨by rfl, ?_⟩) (by assumption) ?_
    rotate_left
    · (intro w hSw; (try dsimp only at hSw); go_simp; try with_reducible rfl)
    try simp only [Act.put, List.setIfInBounds_toArray, List.set_cons_zero, List.set_cons_succ]
    refine wpAnyH_take (i := 14) (v := ?_) (by simp only [List.getElem?_toArray, List.getElem?_cons_succ, List.getElem?_cons_zero]; rfl) (by kernel_rfl) (by kernel_rfl) (by kernel_rfl) (by intro _ _ _ h; exact h) (Or.inl ⟨by rfl, ?_⟩) (by assumption) ?_
    rotate_left
    · (intro w hSw; (try dsimp only at hSw); go_simp; try with_reducible rfl)
    try simp only [Act.put, List.setIfInBounds_toArray, List.set_cons_zero, List.set_cons_succ]
    have HBD := Lib.hid HBA.out.drew
    refine wpAnyH_ready (rs := [15, 18]) (by kernel_rfl) (by simp) ?_
    refine AllReadyH.cons (by simp only [List.getElem?_toArray, List.getElem?_cons_succ, List.getElem?_cons_zero]; rfl) (fun K hK => ?_) (AllReadyH.cons (by simp only [List.getElem?_toArray, List.getElem?_cons_succ, List.getElem?_cons_zero]; rfl) (fun K hK => ?_) AllReadyH.nil)
    · go_simp
      refine (copies_any l _ wa.drew (HRL.out.below HBD.out) HOK.out hl).mono ?_
      rintro e wb ⟨m, ps, rfl, hps, hom, hbb⟩
      have hzz := HBD.out.size
      have hcb := (hbb.block B (by omega)).trans HCA.out
      have q7 := cellk (i := 7) hcb rfl
      have q8 := cellk (i := 8) hcb rfl
      have HBB := Lib.hid (HBD.out.trans (hbb.mono (by omega)))
      have HCB := Lib.hid hcb
      have hsb := hbb.size
      have HOM := Lib.hid hom
      have HPS := Lib.hid hps
      have HPB : Hid (∀ p ∈ ps, ∀ g, p.2.ownBlock = some g → wa.drew.heap.size ≤ g ∧ g < wb.heap.size) := fun p hp g hg => (hom.cells p hp).lt g hg
      clear hcb hom hps hbb
      dsimp only
      refine hK.out _ _ ⟨q7, q8⟩ (fun hHeld => ?_)
      clear hK K
      try simp only [Act.put, List.setIfInBounds_toArray, List.set_cons_zero, List.set_cons_succ]
      refine wpAnyH_ready (rs := [16, 18]) (by kernel_rfl) (by simp) ?_
      refine AllReadyH.cons (by simp only [List.getElem?_toArray, List.getElem?_cons_succ, List.getElem?_cons_zero]; rfl) (fun K hK => ?_) (AllReadyH.cons (by simp only [List.getElem?_toArray, List.getElem?_cons_succ, List.getElem?_cons_zero]; rfl) (fun K hK => ?_) AllReadyH.nil)
      · go_simp
        refine (HREP.out wb m ps _ HBB.out (HOM.out) HPS.out).mono ?_
        rintro e wc ⟨v2, rfl, hlog, hbc⟩
        have hzz2 := HBB.out.size
        have hcc := (hbc.block B (by omega)).trans HCB.out
        have r7 := cellk (i := 7) hcc rfl
        have r8 := cellk (i := 8) hcc rfl
        have HBC := Lib.hid (HBB.out.trans (hbc.mono (by omega)))
        have HLOG := Lib.hid hlog
        have HCC := Lib.hid hcc
        have hsc := hbc.size
        obtain ⟨o2, c2', rfl⟩ := hlog.rd.form
        clear hcc hlog hbc
        dsimp only
        refine hK.out _ _ ⟨r7, r8⟩ (fun hHeld => ?_)
        clear hK K
        try simp only [Act.put, List.setIfInBounds_toArray, List.set_cons_zero, List.set_cons_succ]
        refine wpAnyH_take (i := 17) (v := ?_) (by simp only [List.getElem?_toArray, List.getElem?_cons_succ, List.getElem?_cons_zero]; rfl) (by kernel_rfl) (by kernel_rfl) (by kernel_rfl) (by intro _ _ _ h; exact h) (Or.inl ⟨by rfl, ?_⟩) (by assumption) ?_
        rotate_left
        · (intro w hSw; (try dsimp only at hSw); go_simp; try with_reducible rfl)
        try simp only [Act.put, List.setIfInBounds_toArray, List.set_cons_zero, List.set_cons_succ]
        refine wpAnyH_ready (rs := [18]) (by kernel_rfl) (by simp) ?_
        refine AllReadyH.cons (by simp only [List.getElem?_toArray, List.getElem?_cons_succ, List.getElem?_cons_zero]; rfl) (fun K hK => ?_) AllReadyH.nil
        · go_simp
          have hal : Below wc.heap.size wc (wc.alloc (.cells #[.int .u64 0, .int .i64 0, .int .u64 0, .slice none 0 0] 36)) := (Below.refl _ wc).alloc (Nat.le_refl _) (.cells #[.int .u64 0, .int .i64 0, .int .u64 0, .slice none 0 0] 36)
          have hnx : (wc.alloc (.cells #[.int .u64 0, .int .i64 0, .int .u64 0, .slice none 0 0] 36)).heap[wc.heap.size]? = some (.cells #[.int .u64 0, .int .i64 0, .int .u64 0, .slice none 0 0] 36 (0, 0)) := heap_alloc_new wc (.cells #[.int .u64 0, .int .i64 0, .int .u64 0, .slice none 0 0] 36)
          have hzz := HBC.out.size
          have hcx := (hal.block B (by omega)).trans HCC.out
          have q7 := cellk (i := 7) hcx rfl
          have q8 := cellk (i := 8) hcx rfl
          have HBX := Lib.hid (HBC.out.trans (hal.mono (by omega)))
          have HCX := Lib.hid hcx
          have HXX := Lib.hid hnx
          have HAL := Lib.hid hal
          have hsx : (wc.alloc (.cells #[.int .u64 0, .int .i64 0, .int .u64 0, .slice none 0 0] 36)).heap.size = wc.heap.size + 1 := by simp
          generalize wc.alloc (.cells #[.int .u64 0, .int .i64 0, .int .u64 0, .slice none 0 0] 36) = wx at *
          obtain ⟨bx, hbx⟩ : ∃ bx, wc.heap.size = bx := ⟨_, rfl⟩
          have HBXE := Lib.hid hbx
          rw [hbx] at HXX
          try rw [hbx] at hsx
          rw [hbx]
          clear hnx hcx hal hbx
          refine hK.out _ _ ⟨q7, q8⟩ (fun hHeld => ?_)
          clear hK K
          try simp only [Act.put, List.setIfInBounds_toArray, List.set_cons_zero, List.set_cons_succ]
          have hfin := svB_fin (L := L) (n := ⟨tm, vt, s.st.bs, NL⟩) (HLOG.out.block (fun g hg => HAL.out.block g (by
          have h2 := HBA.out.size
          have h3 := HBB.out.size
          rcases hg with hg | ⟨p, hp, hg⟩ | hg
          · have := HLw.out g hg; omega
          · have := HPB.out p hp g hg; omega
          · omega)) (fun _ h => h)) (fun k hk => by
          have h1 := HBXE.out
          have h2 := HBA.out.size
          have h3 := HBB.out.size
          rcases hk with hk | ⟨p, hp, hk⟩ | hk
          · have := HLw.out k hk; exact ⟨by omega, .inl hk⟩
          · have := HPB.out p hp k hk; exact ⟨by omega, .inr (by omega)⟩
          · exact ⟨by omega, .inr (by omega)⟩) HBX.out HXX.out (by have := HBXE.out; have := HBA.out.size; omega)
          have HFIN := Lib.hid hfin
          have HQ := Lib.hid hHeld
          clear hfin
          refine wpAnyH_ready (rs := [19]) (by kernel_rfl) (by simp) ?_
          refine AllReadyH.cons (by simp only [List.getElem?_toArray, List.getElem?_cons_succ, List.getElem?_cons_zero]; rfl) (fun K hK => ?_) AllReadyH.nil
          refine step_store_row rfl 36 (.tmp 12) (.tmp 60) rfl bx (stC4 tm vt s.st.bs (.slice o2 NL.length c2')).toArray rfl rfl 36 zsC4.toArray HXX.out (by kernel_rfl) rfl (by simp [stC4, Value.oneCell']) ?_
          refine hK.out _ _ ⟨(cell_setRow_other _ _ _ ⟨B, 7, none⟩ (by show B ≠ bx; have := HBXE.out; omega)).trans HQ.out.1, (cell_setRow_other _ _ _ ⟨B, 8, none⟩ (by show B ≠ bx; have := HBXE.out; omega)).trans HQ.out.2⟩ (fun hHeld => ?_)
          clear hK K
          try simp only [Act.put]
          refine wpAnyH_done (by kernel_rfl) ?_ _
          go_wp2_with fail
          go_meet
          exact ⟨_, bx, _, rfl, rfl, HFIN⟩
      · go_simp
        have hal : Below wb.heap.size wb (wb.alloc (.cells #[.int .u64 0, .int .i64 0, .int .u64 0, .slice none 0 0] 36)) := (Below.refl _ wb).alloc (Nat.le_refl _) (.cells #[.int .u64 0, .int .i64 0, .int .u64 0, .slice none 0 0] 36)
        have hnx : (wb.alloc (.cells #[.int .u64 0, .int .i64 0, .int .u64 0, .slice none 0 0] 36)).heap[wb.heap.size]? = some (.cells #[.int .u64 0, .int .i64 0, .int .u64 0, .slice none 0 0] 36 (0, 0)) := heap_alloc_new wb (.cells #[.int .u64 0, .int .i64 0, .int .u64 0, .slice none 0 0] 36)
        have hzz := HBB.out.size
        have hcx := (hal.block B (by omega)).trans HCB.out
        have q7 := cellk (i := 7) hcx rfl
        have q8 := cellk (i := 8) hcx rfl
        have HBX := Lib.hid (HBB.out.trans (hal.mono (by omega)))
        have HCX := Lib.hid hcx
        have HXX := Lib.hid hnx
        have HAL := Lib.hid hal
        have hsx : (wb.alloc (.cells #[.int .u64 0, .int .i64 0, .int .u64 0, .slice none 0 0] 36)).heap.size = wb.heap.size + 1 := by simp
        generalize wb.alloc (.cells #[.int .u64 0, .int .i64 0, .int .u64 0, .slice none 0 0] 36) = wx at *
        obtain ⟨bx, hbx⟩ : ∃ bx, wb.heap.size = bx := ⟨_, rfl⟩
        have HBXE := Lib.hid hbx
        rw [hbx] at HXX
        try rw [hbx] at hsx
        rw [hbx]
        clear hnx hcx hal hbx
        refine hK.out _ _ ⟨q7, q8⟩ (fun hHeld => ?_)
        clear hK K
        try simp only [Act.put, List.setIfInBounds_toArray, List.set_cons_zero, List.set_cons_succ]
        refine wpAnyH_ready (rs := [16]) (by kernel_rfl) (by simp) ?_
        refine AllReadyH.cons (by simp only [List.getElem?_toArray, List.getElem?_cons_succ, List.getElem?_cons_zero]; rfl) (fun K hK => ?_) AllReadyH.nil
        · go_simp
          refine (HREP.out wx m ps _ HBX.out (HOM.out.below HAL.out (Nat.le_refl _)) HPS.out).mono ?_
          rintro e wc ⟨v2, rfl, hlog, hbc⟩
          have hzz2 := HBX.out.size
          have hcc := (hbc.block B (by omega)).trans HCX.out
          have r7 := cellk (i := 7) hcc rfl
          have r8 := cellk (i := 8) hcc rfl
          have HBC := Lib.hid (HBX.out.trans (hbc.mono (by omega)))
          have HLOG := Lib.hid hlog
          have HCC := Lib.hid hcc
          have hsc := hbc.size
          have HXC := Lib.hid ((hbc.block bx (lt_of_block HXX.out)).trans HXX.out)
          have hxc := lt_of_block HXX.out
          obtain ⟨o2, c2', rfl⟩ := hlog.rd.form
          clear hcc hlog hbc
          dsimp only
          refine hK.out _ _ ⟨r7, r8⟩ (fun hHeld => ?_)
          clear hK K
          try simp only [Act.put, List.setIfInBounds_toArray, List.set_cons_zero, List.set_cons_succ]
          refine wpAnyH_take (i := 17) (v := ?_) (by simp only [List.getElem?_toArray, List.getElem?_cons_succ, List.getElem?_cons_zero]; rfl) (by kernel_rfl) (by kernel_rfl) (by kernel_rfl) (by intro _ _ _ h; exact h) (Or.inl ⟨by rfl, ?_⟩) (by assumption) ?_
          rotate_left
          · (intro w hSw; (try dsimp only at hSw); go_simp; try with_reducible rfl)
          try simp only [Act.put, List.setIfInBounds_toArray, List.set_cons_zero, List.set_cons_succ]
          have hfin := svB_fin (L := L) (n := ⟨tm, vt, s.st.bs, NL⟩) HLOG.out (fun k hk => by
          have h1 := HBXE.out
          have h2 := HBA.out.size
          have h3 := HBB.out.size
          rcases hk with hk | ⟨p, hp, hk⟩ | hk
          · have := HLw.out k hk; exact ⟨by omega, .inl hk⟩
          · have := HPB.out p hp k hk; exact ⟨by omega, .inr (by omega)⟩
          · exact ⟨by omega, .inr (by omega)⟩) HBC.out HXC.out (by have := HBXE.out; have := HBA.out.size; omega)
          have HFIN := Lib.hid hfin
          have HQ := Lib.hid hHeld
          clear hfin
          refine wpAnyH_ready (rs := [19]) (by kernel_rfl) (by simp) ?_
          refine AllReadyH.cons (by simp only [List.getElem?_toArray, List.getElem?_cons_succ, List.getElem?_cons_zero]; rfl) (fun K hK => ?_) AllReadyH.nil
          refine step_store_row rfl 36 (.tmp 12) (.tmp 60) rfl bx (stC4 tm vt s.st.bs (.slice o2 NL.length c2')).toArray rfl rfl 36 zsC4.toArray HXC.out (by kernel_rfl) rfl (by simp [stC4, Value.oneCell']) ?_
          refine hK.out _ _ ⟨(cell_setRow_other _ _ _ ⟨B, 7, none⟩ (by show B ≠ bx; have := HBXE.out; omega)).trans HQ.out.1, (cell_setRow_other _ _ _ ⟨B, 8, none⟩ (by show B ≠ bx; have := HBXE.out; omega)).trans HQ.out.2⟩ (fun hHeld => ?_)
          clear hK K
          try simp only [Act.put]
          refine wpAnyH_done (by kernel_rfl) ?_ _
          go_wp2_with fail
          go_meet
          exact ⟨_, bx, _, rfl, rfl, HFIN⟩
    · go_simp
      have hal : Below wa.drew.heap.size wa.drew ((wa.alloc (.cells #[.int .u64 0, .int .i64 0, .int .u64 0, .slice none 0 0] 36)).drew) := (Below.refl _ wa.drew).alloc (Nat.le_refl _) (.cells #[.int .u64 0, .int .i64 0, .int .u64 0, .slice none 0 0] 36)
      have hnx : ((wa.alloc (.cells #[.int .u64 0, .int .i64 0, .int .u64 0, .slice none 0 0] 36)).drew).heap[wa.heap.size]? = some (.cells #[.int .u64 0, .int .i64 0, .int .u64 0, .slice none 0 0] 36 (0, 0)) := heap_alloc_new wa.drew (.cells #[.int .u64 0, .int .i64 0, .int .u64 0, .slice none 0 0] 36)
      have hzz := HBD.out.size
      have hcx := (hal.block B (by omega)).trans HCA.out
      have q7 := cellk (i := 7) hcx rfl
      have q8 := cellk (i := 8) hcx rfl
      have HBX := Lib.hid (HBD.out.trans (hal.mono (by omega)))
      have HCX := Lib.hid hcx
      have HXX := Lib.hid hnx
      have HAL := Lib.hid hal
      have hsx : ((wa.alloc (.cells #[.int .u64 0, .int .i64 0, .int .u64 0, .slice none 0 0] 36)).drew).heap.size = wa.heap.size + 1 := by simp
      generalize (wa.alloc (.cells #[.int .u64 0, .int .i64 0, .int .u64 0, .slice none 0 0] 36)).drew = wx at *
      obtain ⟨bx, hbx⟩ : ∃ bx, wa.heap.size = bx := ⟨_, rfl⟩
      have HBXE := Lib.hid hbx
      rw [hbx] at HXX
      try rw [hbx] at hsx
      rw [hbx]
      clear hnx hcx hal hbx
      refine hK.out _ _ ⟨q7, q8⟩ (fun hHeld => ?_)
      clear hK K
      try simp only [Act.put, List.setIfInBounds_toArray, List.set_cons_zero, List.set_cons_succ]
      refine wpAnyH_ready (rs := [15]) (by kernel_rfl) (by simp) ?_
      refine AllReadyH.cons (by simp only [List.getElem?_toArray, List.getElem?_cons_succ, List.getElem?_cons_zero]; rfl) (fun K hK => ?_) AllReadyH.nil
      · go_simp
        refine (copies_any l _ wx (HRL.out.below HBX.out) HOK.out hl).mono ?_
        rintro e wb ⟨m, ps, rfl, hps, hom, hbb⟩
        have hzz := HBX.out.size
        have hcb := (hbb.block B (by omega)).trans HCX.out
        have q7 := cellk (i := 7) hcb rfl
        have q8 := cellk (i := 8) hcb rfl
        have HBB := Lib.hid (HBX.out.trans (hbb.mono (by omega)))
        have HCB := Lib.hid hcb
        have hsb := hbb.size
        have HOM := Lib.hid hom
        have HPS := Lib.hid hps
        have HPB : Hid (∀ p ∈ ps, ∀ g, p.2.ownBlock = some g → wx.heap.size ≤ g ∧ g < wb.heap.size) := fun p hp g hg => (hom.cells p hp).lt g hg
        have HXB := Lib.hid ((hbb.block bx (lt_of_block HXX.out)).trans HXX.out)
        have hxb := lt_of_block HXX.out
        clear hcb hom hps hbb
        dsimp only
        refine hK.out _ _ ⟨q7, q8⟩ (fun hHeld => ?_)
        clear hK K
        try simp only [Act.put, List.setIfInBounds_toArray, List.set_cons_zero, List.set_cons_succ]
        refine wpAnyH_ready (rs := [16]) (by kernel_rfl) (by simp) ?_
        refine AllReadyH.cons (by simp only [List.getElem?_toArray, List.getElem?_cons_succ, List.getElem?_cons_zero]; rfl) (fun K hK => ?_) AllReadyH.nil
        · go_simp
          refine (HREP.out wb m ps _ HBB.out (HOM.out) HPS.out).mono ?_
          rintro e wc ⟨v2, rfl, hlog, hbc⟩
          have hzz2 := HBB.out.size
          have hcc := (hbc.block B (by omega)).trans HCB.out
          have r7 := cellk (i := 7) hcc rfl
          have r8 := cellk (i := 8) hcc rfl
          have HBC := Lib.hid (HBB.out.trans (hbc.mono (by omega)))
          have HLOG := Lib.hid hlog
          have HCC := Lib.hid hcc
          have hsc := hbc.size
          have HXC := Lib.hid ((hbc.block bx (lt_of_block HXB.out)).trans HXB.out)
          have hxc := lt_of_block HXB.out
          obtain ⟨o2, c2', rfl⟩ := hlog.rd.form
          clear hcc hlog hbc
          dsimp only
          refine hK.out _ _ ⟨r7, r8⟩ (fun hHeld => ?_)
          clear hK K
          try simp only [Act.put, List.setIfInBounds_toArray, List.set_cons_zero, List.set_cons_succ]
          refine wpAnyH_take (i := 17) (v := ?_) (by simp only [List.getElem?_toArray, List.getElem?_cons_succ, List.getElem?_cons_zero]; rfl) (by kernel_rfl) (by kernel_rfl) (by kernel_rfl) (by intro _ _ _ h; exact h) (Or.inl ⟨by rfl, ?_⟩) (by assumption) ?_
          rotate_left
          · (intro w hSw; (try dsimp only at hSw); go_simp; try with_reducible rfl)
          try simp only [Act.put, List.setIfInBounds_toArray, List.set_cons_zero, List.set_cons_succ]
          have hfin := svB_fin (L := L) (n := ⟨tm, vt, s.st.bs, NL⟩) HLOG.out (fun k hk => by
          have h1 := HBXE.out
          have h2 := HBA.out.size
          have h3 := HBB.out.size
          rcases hk with hk | ⟨p, hp, hk⟩ | hk
          · have := HLw.out k hk; exact ⟨by omega, .inl hk⟩
          · have := HPB.out p hp k hk; exact ⟨by omega, .inr (by omega)⟩
          · exact ⟨by omega, .inr (by omega)⟩) HBC.out HXC.out (by have := HBXE.out; have := HBA.out.size; omega)
          have HFIN := Lib.hid hfin
          have HQ := Lib.hid hHeld
          clear hfin
          refine wpAnyH_ready (rs := [19]) (by kernel_rfl) (by simp) ?_
          refine AllReadyH.cons (by simp only [List.getElem?_toArray, List.getElem?_cons_succ, List.getElem?_cons_zero]; rfl) (fun K hK => ?_) AllReadyH.nil
          refine step_store_row rfl 36 (.tmp 12) (.tmp 60) rfl bx (stC4 tm vt s.st.bs (.slice o2 NL.length c2')).toArray rfl rfl 36 zsC4.toArray HXC.out (by kernel_rfl) rfl (by simp [stC4, Value.oneCell']) ?_
          refine hK.out _ _ ⟨(cell_setRow_other _ _ _ ⟨B, 7, none⟩ (by show B ≠ bx; have := HBXE.out; omega)).trans HQ.out.1, (cell_setRow_other _ _ _ ⟨B, 8, none⟩ (by show B ≠ bx; have := HBXE.out; omega)).trans HQ.out.2⟩ (fun hHeld => ?_)
          clear hK K
          try simp only [Act.put]
          refine wpAnyH_done (by kernel_rfl) ?_ _
          go_wp2_with fail
          go_meet
          exact ⟨_, bx, _, rfl, rfl, HFIN⟩
  case rest =>
    obtain ⟨wy, bx, v2, hwy, hv12, HSV⟩ := hcut
    subst hwy
    subst hv12
    obtain ⟨hbel, hge, hbx, hlog⟩ := HSV.out
    obtain ⟨o2, c2', hv2⟩ := hlog.rd.form
    subst hv2
    have hzy := hbel.size
    have hbxl := lt_of_block hbx
    have hcy := (hbel.block B HB).trans HH.out.cell
    have y4 : wy.cell? ⟨B, 4, none⟩ = some (.bool s.shut) := cellk hcy rfl
    have z0 : wy.cell? ⟨bx, 0, none⟩ = some (.int .u64 (tm : Int)) := cellk hbx rfl
    have z1 : wy.cell? ⟨bx, 1, none⟩ = some (.int .i64 vt) := cellk hbx rfl
    have z2 : wy.cell? ⟨bx, 2, none⟩ = some (.int .u64 (s.st.bs : Int)) := cellk hbx rfl
    have z3 : wy.cell? ⟨bx, 3, none⟩ = some (.slice o2 NL.length c2') := cellk hbx rfl
    have HBEL := Lib.hid hbel
    have HLOG := Lib.hid hlog
    have HBX := Lib.hid hbx
    have hnX : Hid (∀ k, w.heap.size ≤ k → ¬ X k ∧ k ≠ B) := fun k hk => ⟨fun hx => by have := HH.out.lt k (HH.out.sX k hx); omega, by omega⟩
    rcases HCASE.out with ⟨hsh, e1, e2, hr⟩ | ⟨hsh, e1, e2, hsl, hr⟩
    · as_aux_lemma =>
      have hY : WlX wy (Fr R w wy) X L (.slice o s.st.lg.length c) B D T s := HH.out.low hbel (fun k hk => .inl hk) (fun k hk => by
        rcases hk with hk | hk
        · have := HH.out.lt k hk; omega
        · exact hk.2)
      have hN2 : ∀ k, (k ≠ bx ∧ (L k ∨ (w.heap.size ≤ k ∧ k < wy.heap.size))) → Fr R w wy k ∧ ¬ X k ∧ k ≠ B := by
        rintro k ⟨_, hk | hk⟩
        · have := HH.out.sL k hk
          exact ⟨.inl this.1, this.2⟩
        · exact ⟨.inr hk, hnX.out k hk.1⟩
      have H4 := Lib.hid (rewrite_ok ⟨tm, vt, s.st.bs, NL⟩ (.slice o2 NL.length c2') wy hY hlog hN2 HNO.out ht e1 e2 hops hops1)
      unfold wstV at H4
      dsimp only at H4
      have y4' : wy.cell? ⟨B, 4, none⟩ = some (.bool true) := by
        have h4 := y4
        rw [hsh] at h4
        exact h4
      have HR := Lib.hid hr
      clear hY hN2 hlog hbx hcy y4 e1 e2 hr hsh hbel
      go_wp2_with fail
      refine H4.out.mono ?_
      rintro e wz ⟨rfl, hat, hk⟩
      have hzz := hk.size
      have HF := Lib.hid (hat.block (R' := Fr R w wz) (fun _ _ => rfl) (fun k hk => by
        rcases hk with (hk | hk) | hk
        · exact .inl hk
        · exact .inr (by omega)
        · exact .inr (by omega)) (fun k hk => by
        rcases hk with hk | hk
        · have := HH.out.lt k hk; omega
        · exact hk.2))
      have HK : Hid (Kept R w wz) := Lib.hid ((kept_of_below HBEL.out).step hk (fun k hk => by
        rcases hk with hk | hk
        · exact .inl hk
        · exact .inr hk.1))
      clear hat hk
      go_wp2_with fail
      go_ret
      exact ⟨rfl, by rw [HR.out]; exact HF.out, HK.out⟩
    · as_aux_lemma =>
      have y4' : wy.cell? ⟨B, 4, none⟩ = some (.bool false) := by
        have h4 := y4
        rw [hsh] at h4
        exact h4
      have HR := Lib.hid hr
      have HE1 := Lib.hid e1
      have HE2 := Lib.hid e2
      have HSL := Lib.hid hsl
      clear hlog hbx hcy y4 e1 e2 hr hsh hbel hsl
      go_upto_region 10 with fail
      refine wp_region_held_drew (S := fun w' => w'.cell? ⟨bx, 0, none⟩ = some (.int .u64 (tm : Int)) ∧ w'.cell? ⟨bx, 1, none⟩ = some (.int .i64 vt) ∧ w'.cell? ⟨bx, 2, none⟩ = some (.int .u64 (s.st.bs : Int)) ∧ w'.cell? ⟨bx, 3, none⟩ = some (.slice o2 NL.length c2')) (by kernel_rfl) ⟨z0, z1, z2, z3⟩ ?_
      intro hHeld
      refine wpAnyH_take (i := 0) (v := ?_) (by simp only [List.getElem?_toArray, List.getElem?_cons_zero]; rfl) (by kernel_rfl) (by kernel_rfl) (by kernel_rfl) (by intro _ _ _ h; exact h) (Or.inl ⟨by rfl, ?_⟩) (by assumption) ?_
      rotate_left
      · (intro w hSw; (try dsimp only at hSw); go_simp; try with_reducible rfl)
      try simp only [Act.put, List.setIfInBounds_toArray, List.set_cons_zero, List.set_cons_succ]
      refine wpAnyH_take (i := 1) (v := ?_) (by simp only [List.getElem?_toArray, List.getElem?_cons_succ, List.getElem?_cons_zero]; rfl) (by kernel_rfl) (by kernel_rfl) (by kernel_rfl) (by intro _ _ _ h; exact h) (Or.inl ⟨by rfl, ?_⟩) (by assumption) ?_
      rotate_left
      · (intro w hSw; (try dsimp only at hSw); go_simp; try with_reducible rfl)
      try simp only [Act.put, List.setIfInBounds_toArray, List.set_cons_zero, List.set_cons_succ]
      refine wpAnyH_take (i := 2) (v := ?_) (by simp only [List.getElem?_toArray, List.getElem?_cons_succ, List.getElem?_cons_zero]; rfl) (by kernel_rfl) (by kernel_rfl) (by kernel_rfl) (by intro _ _ _ h; exact h) (Or.inl ⟨by rfl, ?_⟩) (by assumption) ?_
      rotate_left
      · (intro w hSw; (try dsimp only at hSw); go_simp; try with_reducible rfl)
      try simp only [Act.put, List.setIfInBounds_toArray, List.set_cons_zero, List.set_cons_succ]
      refine wpAnyH_take (i := 3) (v := ?_) (by simp only [List.getElem?_toArray, List.getElem?_cons_succ, List.getElem?_cons_zero]; rfl) (by kernel_rfl) (by kernel_rfl) (by kernel_rfl) (by intro _ _ _ h; exact h) (Or.inl ⟨by rfl, ?_⟩) (by assumption) ?_
      rotate_left
      · (intro w hSw; (try dsimp only at hSw); go_simp; try with_reducible rfl)
      try simp only [Act.put, List.setIfInBounds_toArray, List.set_cons_zero, List.set_cons_succ]
      refine wpAnyH_take (i := 4) (v := ?_) (by simp only [List.getElem?_toArray, List.getElem?_cons_succ, List.getElem?_cons_zero]; rfl) (by kernel_rfl) (by kernel_rfl) (by kernel_rfl) (by intro _ _ _ h; exact h) (Or.inl ⟨by rfl, ?_⟩) (by assumption) ?_
      rotate_left
      · (intro w hSw; (try dsimp only at hSw); go_simp; try with_reducible rfl)
      try simp only [Act.put, List.setIfInBounds_toArray, List.set_cons_zero, List.set_cons_succ]
      refine wpAnyH_take (i := 6) (v := ?_) (by simp only [List.getElem?_toArray, List.getElem?_cons_succ, List.getElem?_cons_zero]; rfl) (by kernel_rfl) (by kernel_rfl) (by kernel_rfl) (by intro _ _ _ h; exact h) (Or.inl ⟨by rfl, ?_⟩) (by assumption) ?_
      rotate_left
      · (intro w hSw; (try dsimp only at hSw); go_simp; try with_reducible rfl)
      try simp only [Act.put, List.setIfInBounds_toArray, List.set_cons_zero, List.set_cons_succ]
      refine wpAnyH_ready (rs := [5]) (by kernel_rfl) (by simp) ?_
      refine AllReadyH.cons (by simp only [List.getElem?_toArray, List.getElem?_cons_succ, List.getElem?_cons_zero]; rfl) (fun K hK => ?_) AllReadyH.nil
      go_simp
      refine (sbytes_any tm vt fr l (.slice ol l.length cl) _ (HRL.out.below HBEL.out.drew) htm HVT.out hf64 HOK.out hl).mono ?_
      rintro e w5 ⟨p5, rfl, ho5, hb5⟩
      have hx5 := (hb5.block bx hbxl).trans HBX.out
      have q0 : w5.cell? ⟨bx, 0, none⟩ = some (.int .u64 (tm : Int)) := cellk hx5 rfl
      have q1 : w5.cell? ⟨bx, 1, none⟩ = some (.int .i64 vt) := cellk hx5 rfl
      have q2 : w5.cell? ⟨bx, 2, none⟩ = some (.int .u64 (s.st.bs : Int)) := cellk hx5 rfl
      have q3 : w5.cell? ⟨bx, 3, none⟩ = some (.slice o2 NL.length c2') := cellk hx5 rfl
      have hs5 := hb5.size
      have hzd : wy.drew.heap.size = wy.heap.size := rfl
      have HB5 : Hid (Below w.heap.size w w5) := Lib.hid (HBEL.out.drew.trans (hb5.mono (by omega)))
      have HX5 := Lib.hid hx5
      have HO5 := Lib.hid ho5
      have HL5 := Lib.hid (HLOG.out.block (w' := w5) (fun g hg => hb5.block g (by rcases hg with ⟨_, hg | hg⟩; (have := HLw.out g hg; omega); omega)) (fun _ h => h))
      clear hx5 ho5 hb5
      dsimp only
      refine hK.out _ _ ⟨q0, q1, q2, q3⟩ (fun hHeld => ?_)
      clear hK K
      try simp only [Act.put, List.setIfInBounds_toArray, List.set_cons_zero, List.set_cons_succ]
      refine wpAnyH_ready (rs := [7]) (by kernel_rfl) (by simp) ?_
      refine AllReadyH.cons (by simp only [List.getElem?_toArray, List.getElem?_cons_succ, List.getElem?_cons_zero]; rfl) (fun K hK => ?_) AllReadyH.nil
      go_simp
      have hY : WlX w5 (fun k => R k ∨ (w.heap.size ≤ k ∧ k < w5.heap.size ∧ k ≠ bx)) X L (.slice o s.st.lg.length c) B D T s := HH.out.low HB5.out (fun k hk => .inl hk) (fun k hk => by
        rcases hk with hk | hk
        · have := HH.out.lt k hk; omega
        · exact hk.2.1)
      have hN2 : ∀ k, (k ≠ bx ∧ (L k ∨ (w.heap.size ≤ k ∧ k < wy.heap.size))) → (R k ∨ (w.heap.size ≤ k ∧ k < w5.heap.size ∧ k ≠ bx)) ∧ ¬ X k ∧ k ≠ B := by
        rintro k ⟨hne, hk | hk⟩
        · have := HH.out.sL k hk
          exact ⟨.inl this.1, this.2⟩
        · exact ⟨.inr ⟨hk.1, by omega, hne⟩, hnX.out k hk.1⟩
      have H4 := add_ok p5 (saveB tm vt fr l) ⟨tm, vt, s.st.bs, NL⟩ (.slice o2 NL.length c2') w5 hY (Rd.of_own HO5.out) HSL.out HL5.out hN2 HNO.out HE1.out HE2.out hops hops1
      unfold wstV at H4
      dsimp only at H4
      refine H4.mono ?_
      rintro e wz ⟨rfl, hat, hk⟩
      have hzz := hk.size
      have hx6 := (hk.block bx (lt_of_block HX5.out) (by
        rintro (h1 | h1)
        · have := HH.out.lt bx h1; omega
        · exact h1.2.2 rfl)).trans HX5.out
      have r0 : wz.cell? ⟨bx, 0, none⟩ = some (.int .u64 (tm : Int)) := cellk hx6 rfl
      have r1 : wz.cell? ⟨bx, 1, none⟩ = some (.int .i64 vt) := cellk hx6 rfl
      have r2 : wz.cell? ⟨bx, 2, none⟩ = some (.int .u64 (s.st.bs : Int)) := cellk hx6 rfl
      have r3 : wz.cell? ⟨bx, 3, none⟩ = some (.slice o2 NL.length c2') := cellk hx6 rfl
      have HF := Lib.hid (hat.block (R' := Fr R w wz) (fun _ _ => rfl) (fun k hk => by
        rcases hk with (hk | hk) | hk
        · exact .inl hk
        · exact .inr (by omega)
        · exact .inr (by omega)) (fun k hk => by
        rcases hk with hk | hk
        · have := HH.out.lt k hk; omega
        · exact hk.2))
      have HK : Hid (Kept R w wz) := Lib.hid ((kept_of_below HB5.out).step hk (fun k hk => by
        rcases hk with hk | hk
        · exact .inl hk
        · exact .inr hk.1))
      clear hat hk hY hN2 H4 hx6
      dsimp only
      refine hK.out _ _ ⟨r0, r1, r2, r3⟩ (fun hHeld => ?_)
      clear hK K
      try simp only [Act.put, List.setIfInBounds_toArray, List.set_cons_zero, List.set_cons_succ]
      refine wpAnyH_take (i := 8) (v := ?_) (by simp only [List.getElem?_toArray, List.getElem?_cons_succ, List.getElem?_cons_zero]; rfl) (by kernel_rfl) (by kernel_rfl) (by kernel_rfl) (by intro _ _ _ h; exact h) (Or.inl ⟨by rfl, ?_⟩) (by assumption) ?_
      rotate_left
      · (intro w hSw; (try dsimp only at hSw); go_simp; try with_reducible rfl)
      try simp only [Act.put, List.setIfInBounds_toArray, List.set_cons_zero, List.set_cons_succ]
      refine wpAnyH_done (by kernel_rfl) ?_ _
      go_wp2_with fail
      go_ret
      exact ⟨rfl, by rw [HR.out]; exact HF.out, HK.out⟩
end Go.Proofs.Ytdckcjcddibglaa
