/- A function begins, and ends. -/
import Derived.Test.YtpmbdncackneoaaDoorMacD
namespace Go.Proofs.YtpmbdncackneoaaDoor
open Go.RowKit HeaM Ma

theorem append_k {w : World} {base k n bytes : Nat} {e t ty : TypeId} {z v : Value} {xs cs : List Value} {a : Addr} (hinf : (Tryd.prog.info? e).map (fun i => (i.zero, i.size, i.bytes)) = some (some z, k, bytes)) (ht : Tryd.prog.underlying t = some (.slice e)) (hz : z.cells.size = k) (hk : 0 < k)
    (hown : w.ownsRow base e k v n xs) (hl : cs.length = k) (hc : ∀ j u, cs[j]? = some u → w.cell? (a.add j) = some u) (h1 : ∀ u ∈ cs, u.oneCell' = true) (hb : (n + 1) * bytes ≤ 140737488355328) (hm : n ≤ 1000000000) (hbase : base ≤ w.heap.size) :
    ∃ v' w', (Builtin.append_ #[t, t] ty #[v, .slice (some a) 1 1]).run Tryd.prog w = .ok v' w' ∧ w'.ownsRow base e k v' (n + 1) (xs ++ cs) ∧ w.grownBy w' v.ownBlock ∧ (v'.ownBlock = v.ownBlock ∨ v'.ownBlock = some w.heap.size) := by
  obtain ⟨i0, hi0, hz0, hz1, hz2⟩ := info_parts hinf
  obtain ⟨v', w', hr, h2, h3, _, h5⟩ := run_append_own_at (P := Tryd.prog) w base t ty e i0 z k bytes ht hi0 hz0 hz1 hz2 hz hk v n xs hown a 1 1 cs (by rw [hl, Nat.one_mul]) hc h1 (by unfold maxLen; omega) hb hbase
  exact ⟨v', w', hr, h2, h3, h5⟩
theorem cells_new (w : World) (cs : List Value) (t : TypeId) : ∀ j u, cs[j]? = some u → (w.alloc (.cells cs.toArray t)).cell? ((⟨w.heap.size, 0, none⟩ : Addr).add j) = some u := by
  intro j u hu
  rw [add_none, Nat.zero_add, cell_of_row _ w.heap.size j _ _ (0, 0) (heap_alloc_new w _)]
  simpa using hu

/-- An append whose run is known, as a step of a region that draws. -/
theorem step_append_known {P : Program} {w w' : World} {ops : Array Oper} {o : Oper} {a : Act} {K : Act → World → Prop} {Q : Exit → Act → World → Prop} {E : Prop} (hgd : o.guard = none) (s x : Operand) (t u : TypeId)
    (ho : o.op = .call { callee := .builtin .append, args := #[s, x], argTypes := #[t, u] }) (v y v' : Value) (hs : a.eval s = v) (hx : a.eval x = y)
    (hr : (Builtin.append_ #[t, u] o.type #[v, y]).run P w = .ok v' w') (h : K (a.put o.dst v') w') : if Region.wanted o (yielded ops a.tmps) = true then Oper.wp P o a w K Q else E := by
  have hw : Region.wanted o (yielded ops a.tmps) = true := by simp [Region.wanted, hgd]
  rw [if_pos hw]
  unfold Oper.wp execOp
  simp only [ho, resolve, invoke, builtin, Sem.run_bind, Sem.run_pure, Result.andThen_ok, List.map_toArray, List.map_cons, List.map_nil, hs, hx, hr]
  exact h

theorem enter_mem {C : Cx} {s : Ms} {fn : Nat} {self : V} {x : Nat} {w : World} {vfr vst vtr vout vdn v1 v2 : Value} (h : RunF C w s vfr vst vtr vout vdn v1 v2) (hs : Rep s.W s.F self) (hx : self.word = x) (hf : s.frs.length ≤ 1000000000) :
    ∃ o c w2, (Builtin.append_ #[62, 62] 62 #[vfr, .slice (some ⟨w.heap.size, 0, none⟩) 1 1]).run Tryd.prog (w.alloc (.cells #[Value.int .i64 (fn : Int), .int .u64 (x : Int), .int .i64 (s.stk.length : Int), .int .i64 0] 84)) = .ok (.slice o (s.frs.length + 1) c) w2 ∧
      w2.cell? ⟨C.lo, 1, none⟩ = some vfr ∧ w2.frozen? ⟨C.lo, 1, none⟩ = false ∧ RunE C (w2.setCell ⟨C.lo, 1, none⟩ (.slice o (s.frs.length + 1) c)) { s with frs := ⟨fn, self, s.stk.length, 0⟩ :: s.frs } := by
  obtain ⟨v', w2, r2, o2, g2, a2⟩ := append_k (ty := 62) (t := 62) frInfo Tryd.underlying62 rfl (by decide) (h.g.fr.alloc (.cells [Value.int .i64 (fn : Int), .int .u64 (x : Int), .int .i64 (s.stk.length : Int), .int .i64 0].toArray 84)) rfl (cells_new w [Value.int .i64 (fn : Int), .int .u64 (x : Int), .int .i64 (s.stk.length : Int), .int .i64 0] 84) (by intro u hu; simp at hu; rcases hu with rfl | rfl | rfl | rfl <;> rfl) (by omega) (by omega) (by have := h.g.lt; simp; omega)
  have hk : Kept (fun k => vfr.ownBlock = some k) w w2 := ((Kept.refl _ _).alloc _).grown g2 fun j hj => .inl hj
  have hlo : w2.heap[C.lo]? = w.heap[C.lo]? := hk.block _ h.g.lt (fun a => (own_tag h.g.fr _ a).ne h.g.rtag (by decide))
  have hG := h.g.frames (frs' := ⟨fn, self, s.stk.length, 0⟩ :: s.frs) hk (by
    have e : CsFr (Fr.mk fn self s.stk.length 0 :: s.frs).reverse = CsFr s.frs.reverse ++ [Value.int .i64 (fn : Int), .int .u64 (x : Int), .int .i64 (s.stk.length : Int), .int .i64 0] := by
      rw [CsFr_top, ← hx]; rfl
    rw [e]; exact o2) (fun f hf => by
    rcases List.mem_cons.1 hf with rfl | hf
    · exact hs
    · exact h.g.rfrs f hf)
  have hF : RunE C (w2.setCell ⟨C.lo, 1, none⟩ v') { s with frs := ⟨fn, self, s.stk.length, 0⟩ :: s.frs } := ⟨_, _, _, _, _, _, _, RunF.setR h.fit ⟨s, _, _, _, _, _, hlo.trans h.cell, rfl⟩ hG⟩
  obtain ⟨o, c, rfl, _⟩ := own_slice o2
  exact ⟨o, c, w2, r2, (World.cell?_of_block hlo).trans h.cells.2.1, (World.frozen?_of_block hlo).trans (h.free 1), hF⟩

set_option maxHeartbeats 2000000 in
set_option maxRecDepth 100000 in
theorem enter_t {C : Cx} {s : Ms} {fn : Nat} {self v : V} {x y : Nat} {w : World} (h : RunE C w s) (hs : Rep s.W s.F self) (hv : Rep s.W s.F v) (hx : Hid (self.word = x)) (hy : Hid (v.word = y)) (hn : s.stk.length + 3 * s.trs.length ≤ 67108864) (hf : s.frs.length ≤ 1000000000) :
    Calls Tryd.prog 19 #[.pointer (some ⟨C.lo, 0, none⟩), .int .i64 (fn : Int), .int .u64 (x : Int), .int .u64 (y : Int)] w (OkRun C { s with frs := ⟨fn, self, s.stk.length, 0⟩ :: s.frs, stk := v :: s.stk } 0) := by
  obtain ⟨vfr, vst, vtr, vout, vdn, v1, v2, h⟩ := h
  have hmem : ∀ W, Below w.heap.size w W → W.cell? ⟨C.lo, 1, none⟩ = some vfr ∧ W.cell? ⟨C.lo, 2, none⟩ = some vst ∧ ∃ o c w2, (Builtin.append_ #[62, 62] 62 #[vfr, .slice (some ⟨W.heap.size, 0, none⟩) 1 1]).run Tryd.prog (W.alloc (.cells #[Value.int .i64 (fn : Int), .int .u64 (x : Int), .int .i64 (s.stk.length : Int), .int .i64 0] 84)) = .ok (.slice o (s.frs.length + 1) c) w2 ∧
      w2.cell? ⟨C.lo, 1, none⟩ = some vfr ∧ w2.frozen? ⟨C.lo, 1, none⟩ = false ∧ Calls Tryd.prog 30 #[.pointer (some ⟨C.lo, 0, none⟩), .int .u64 (y : Int)] (w2.setCell ⟨C.lo, 1, none⟩ (.slice o (s.frs.length + 1) c)) (VoidRun C { s with frs := ⟨fn, self, s.stk.length, 0⟩ :: s.frs, stk := v :: s.stk }) := by
    intro W hb
    have h1 := h.below hb
    obtain ⟨o, c, w2, r2, d1, f1, hE⟩ := enter_mem (fn := fn) h1 hs hx.out hf
    exact ⟨h1.cells.2.1, h1.cells.2.2.1, o, c, w2, r2, d1, f1, push_t (v := v) hE hv hy (by show s.stk.length ≤ _; omega)⟩
  have HM := Lib.hid hmem
  have c2 := h.cells.2.2.1
  have c3 := h.cells.2.2.2.1
  obtain ⟨o', c', rfl, _⟩ := own_slice h.g.fr
  obtain ⟨o3, c3', rfl, _⟩ := own_slice h.g.st
  obtain ⟨o4, c4', rfl, _⟩ := own_slice h.g.tr
  have h0 : (s.stk.length : Int) + 3 * (s.trs.length : Int) ≤ 67108864 := by omega
  have h1 : (s.trs.length : Int) ≤ 67108864 := by omega
  have h2 : (s.stk.length : Int) ≤ 67108864 := by omega
  clear h hx hs hv hmem
  generalize s.stk.length = A at *
  generalize s.trs.length = B at *
  generalize s.frs.length = D at *
  go_enter Tryd.func19, Tryd.ntmps19
  go_wp2_with fail
  go_quiet (fail)
  have HB := Lib.hid (below_drewN w.heap.size nq w)
  clear c2 c3
  generalize w.drewN nq = w1 at *
  go_wp2_with fail
  obtain ⟨q1, q2, _⟩ := HM.out w1 HB.out
  have hlt : C.lo < w1.heap.size := World.block_lt_of_cell? w1 ⟨C.lo, 1, none⟩ q1
  obtain ⟨q3, q4, _⟩ := HM.out _ (HB.out.drew.alloc (by have := HB.out.size; simpa using this) (.cells #[.int .i64 (fn : Int), .int .u64 (x : Int), .int .i64 (A : Int), .int .i64 0] 84))
  obtain ⟨_, _, o, c, w2, r2, d1, f1, hP⟩ := HM.out w1.drew HB.out.drew
  have R2 := Lib.hid r2
  have HP := Lib.hid hP
  clear r2 hP HM HB
  go_region_law ((refine step_append_known rfl (.tmp 26) (.tmp 35) 62 62 rfl _ _ _ rfl rfl R2.out ?_))
  all_goals
    go_wp2_with fail
    refine HP.out.mono ?_
    rintro e w' ⟨rfl, hw⟩
    have HW := Lib.hid hw
    clear hw
    go_wp2
    go_ret
    exact ⟨rfl, HW.out⟩
end Go.Proofs.YtpmbdncackneoaaDoor
