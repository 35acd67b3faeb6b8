/- MacBE, MacBF, MacBG, MacBH, MacBI, in one text. -/
import Derived.Test.YtpmbdncackneoaaDoorGMb
import Derived.Test.YtpmbdncackneoaaDoorGMk
import Derived.Lib.AppendStr
import Derived.Laws.Slices
import Derived.Laws.Small
import Derived.IntWalk
import Derived.BigRegion
import Derived.Test.YtpmbdncackneoaaDoorGMz
import Derived.Test.YtpmbdncackneoaaDoorMacBT

namespace Go.Proofs.YtpmbdncackneoaaDoor
open Go.RowKit HeaM Ma

set_option maxHeartbeats 2000000 in
set_option maxRecDepth 100000 in
theorem call_prim {C : Cx} {s s' : Ms} {v : V} {t : List V} {i p m : Nat} {w : World} (h : RunE C w s) (hs : s.stk = v :: .prim i p :: t) (hl : s.stk.length ≤ 1000000000) (hf : s.fuel ≠ 0)
    (hP : ∀ W, RunE C W { s with stk := t, fuel := s.fuel - 1 } → Calls Tryd.prog 57 #[.pointer (some ⟨C.lo, 0, none⟩), .int .i64 (p : Int), .int .u64 (v.word : Int)] W (OkRun C s' m)) :
    Calls Tryd.prog 37 #[.pointer (some ⟨C.lo, 0, none⟩)] w (OkRun C s' m) := by
  have hrep : Rep s.W s.F (.prim i p) := by
    obtain ⟨_, _, _, _, _, _, _, h⟩ := h
    exact h.g.rstk _ (by rw [hs]; simp)
  have H1 := Lib.hid (pop_t h hs hl)
  have H2 := Lib.hid fun (w : World) (h : RunE C w { s with stk := .prim i p :: t }) => pop_t h rfl (by show (V.prim i p :: t).length ≤ _; rw [hs] at hl; simp only [List.length_cons] at hl ⊢; omega)
  have H3 := Lib.hid fun (w : World) (h : RunE C w { s with stk := t }) => step_yes h hf
  have hpart : ∀ w1, RunE C w1 { s with stk := t, fuel := s.fuel - 1 } → Calls Tryd.prog 51 #[.pointer (some ⟨C.H, 0, none⟩), .int .u64 ((2 * i : Nat) : Int), .int .i64 0] w1 fun e w' => e = .returned (.tuple #[.int .u64 ((numW (p : Int) : Nat) : Int), .int .i64 0]) ∧ ∃ nq, w' = w1.drewN nq := by
    rintro w1 ⟨_, _, _, _, _, _, _, h1⟩
    exact part_ob w1 h1.g.heap h1.g.len (Nat.le_trans h1.g.wl h1.fit.q) hrep.1 (by decide) hrep.2.1
  have hkind : ∀ w1, RunE C w1 { s with stk := t, fuel := s.fuel - 1 } → Calls Tryd.prog 54 #[.pointer (some ⟨C.H, 0, none⟩), .int .u64 ((2 * i : Nat) : Int)] w1 fun e w' => e = .returned (.int .u8 6) ∧ ∃ nq, w' = w1.drewN nq := fun w1 h1 => h1.kind (v := .prim i p) hrep (Lib.hid rfl) 0
  have HPT := Lib.hid hpart
  have HKD := Lib.hid hkind
  have HP := Lib.hid hP
  have hni : p ≤ 1000000 := hrep.2.2
  have HNN : Hid (∀ w : World, Calls Tryd.prog 55 #[.int .u64 ((numW (p : Int) : Nat) : Int)] w fun e w' => e = .returned (.int .i64 (p : Int)) ∧ w = w') := fun w => n_v (p : Int) (numW (p : Int)) w rfl (by omega) (by omega)
  have HNI : Hid (∀ w : World, Calls Tryd.prog 52 #[.int .u64 ((numW (p : Int) : Nat) : Int)] w fun e w' => e = .returned (.bool true) ∧ w = w') := fun w => isnum_v (.num (p : Int)) (numW (p : Int)) w rfl (numW_lt _)
  have hwf : (V.prim i p).word = 2 * i := rfl
  rw [hwf] at H2
  clear h hs hpart hkind hrep hwf hf hP
  generalize numW (p : Int) = X at *
  generalize v.word = Y at *
  go_enter Tryd.func37, Tryd.ntmps37
  go_wp2_with fail
  refine H1.out.mono ?_
  rintro e w1 ⟨rfl, h1⟩
  have H4 := Lib.hid (H2.out _ h1)
  clear h1
  go_wp2_with fail
  refine H4.out.mono ?_
  rintro e w2 ⟨rfl, h2⟩
  have H5 := Lib.hid (H3.out _ h2)
  clear h2
  go_wp2_with fail
  refine H5.out.mono ?_
  rintro e w3 ⟨rfl, h3⟩
  have HE3 := Lib.hid h3
  clear h3
  obtain ⟨x0, x1⟩ := HE3.out.at
  go_wp2_with fail
  refine (HPT.out _ HE3.out).mono ?_
  rintro e w4 ⟨rfl, nq, rfl⟩
  have HE4 : Hid (RunE C (w3.drewN nq) { s with stk := t, fuel := s.fuel - 1 }) := HE3.out.drewN nq
  clear x0 x1 HE3
  generalize w3.drewN nq = w4 at *
  obtain ⟨x0, x1⟩ := HE4.out.at
  go_wp2_with fail
  refine (HNI.out _).mono ?_
  rintro e w5 ⟨rfl, rfl⟩
  go_wp2_with fail
  refine (HKD.out _ HE4.out).mono ?_
  rintro e w5 ⟨rfl, nq5, rfl⟩
  have HE5 : Hid (RunE C (w4.drewN nq5) { s with stk := t, fuel := s.fuel - 1 }) := HE4.out.drewN nq5
  clear x0 x1 HE4
  generalize w4.drewN nq5 = w5 at *
  go_wp2_with fail
  refine (HNN.out _).mono ?_
  rintro e w7 ⟨rfl, rfl⟩
  go_wp2_with fail
  refine (HP.out _ HE5.out).mono ?_
  rintro e w' ⟨rfl, hw⟩
  have HW := Lib.hid hw
  clear hw
  go_wp2
  go_ret
  exact ⟨rfl, HW.out⟩

set_option maxHeartbeats 2000000 in
set_option maxRecDepth 100000 in
/-- How long a text is. -/
theorem predef_size {C : Cx} {s : Ms} {i : Nat} {l : List UInt8} {x : Nat} {w : World} (h : RunE C w s) (hr : Rep s.W s.F (.txt i l)) (hx : Hid ((V.txt i l).word = x)) (hn : s.stk.length ≤ 1000000000) :
    Calls Tryd.prog 57 #[.pointer (some ⟨C.lo, 0, none⟩), .int .i64 6, .int .u64 (x : Int)] w (OkRun C (Ma.push s (.num (cut (l.length : Int)))) 0) := by
  have KD : Hid (Calls Tryd.prog 54 #[.pointer (some ⟨C.H, 0, none⟩), .int .u64 (x : Int)] w fun e w' => e = .returned (.int .u8 3) ∧ ∃ mq, w' = w.drewN mq) := h.kind hr hx 0
  have HL : Hid (∀ W, RunE C W s → Calls Tryd.prog 56 #[.pointer (some ⟨C.H, 0, none⟩), .int .u64 (x : Int)] W fun e w' => e = .returned (.int .i64 (l.length : Int)) ∧ ∃ mq, w' = W.drewN mq) := fun W hW => hW.len hr hx rfl 0
  have HA := Lib.hid fun (W : World) (hW : RunE C W s) => answer_t (l.length : Int) hW hn
  have H := Lib.hid h
  clear h hr
  obtain ⟨x0, x1⟩ := H.out.at
  go_enter Tryd.func57, Tryd.ntmps57
  go_wp2_with fail
  refine KD.out.mono ?_
  rintro e w' ⟨rfl, nq, rfl⟩
  have H2 : Hid (RunE C (w.drewN nq) s) := H.out.drewN nq
  clear x0 x1 H KD
  generalize w.drewN nq = w2 at *
  obtain ⟨x0, x1⟩ := H2.out.at
  go_wp2_with fail
  refine (HL.out _ H2.out).mono ?_
  rintro e w' ⟨rfl, nq, rfl⟩
  have H3 : Hid (RunE C (w2.drewN nq) s) := H2.out.drewN nq
  clear x0 x1 H2
  generalize w2.drewN nq = w3 at *
  go_wp2_with fail
  refine (HA.out _ H3.out).mono ?_
  rintro e w' ⟨rfl, hw⟩
  have HW := Lib.hid hw
  clear hw
  go_wp2
  go_ret
  exact ⟨rfl, HW.out⟩
end Go.Proofs.YtpmbdncackneoaaDoor

namespace Go.Proofs.YtpmbdncackneoaaDoor
open Go.RowKit HeaM Ma

theorem strCells_eq (l : List UInt8) : Lib.strCells ⟨l.toArray⟩ = Bs l := by rfl
theorem byteInfo : (Tryd.prog.info? 5).map (fun i => (i.zero, i.size, i.bytes)) = some (some (.int .u8 0), 1, 1) := by kernel_rfl
theorem min_at (P : Program) (x y z : Int) (h : z = if y < x then y else x) (W : World) (ts : Array TypeId) (t : TypeId) : (Builtin.min_ ts t #[.int .i64 x, .int .i64 y]).run P W = .ok (.int .i64 z) W := by
  rw [run_min_int2, h]
theorem cutT (l : List UInt8) (k : Nat) (hk : k ≤ l.length) (W : World) :
    (Instr.slice 9 (.string ⟨l.toArray⟩) none (some (.int .i64 (k : Int))) none).run Tryd.prog W = .ok (.string ⟨(l.take k).toArray⟩) W := by
  rw [run_slice_string_h (P := Tryd.prog) W 9 ⟨l.toArray⟩ Tryd.underlying9 .i64 (k : Int) (by omega) (by simp [ByteArray.size]; omega)]
  congr 2
  apply ByteArray.ext
  rw [ByteArray.data_extract]
  simp

set_option maxHeartbeats 2000000 in
set_option maxRecDepth 100000 in
theorem print_t {C : Cx} {s : Ms} {l : List UInt8} {w : World} (h : RunE C w s) (hl : l.length ≤ 1000000) (hn : s.stk.length ≤ 1000000000) (ho : s.out.length ≤ 100000000) :
    Calls Tryd.prog 77 #[.pointer (some ⟨C.lo, 0, none⟩), .string ⟨l.toArray⟩] w (OkRun C (Ma.push { s with out := s.out ++ l.take s.room, room := s.room - (l.take s.room).length } (.num 0)) 0) := by
  obtain ⟨vfr, vst, vtr, vout, vdn, v1, v2, h⟩ := h
  obtain ⟨i0, hi0, hz0, hz1, hz2⟩ := info_parts byteInfo
  obtain ⟨k, hk⟩ : ∃ k, (l.take s.room).length = k := ⟨_, rfl⟩
  have hk' : k = min s.room l.length := by rw [← hk, List.length_take]
  have hks : (⟨(l.take s.room).toArray⟩ : ByteArray).size = k := by simp only [ByteArray.size, List.size_toArray]; exact hk
  have hroom := h.g.room
  obtain ⟨v', w2, r2, o2, g2, _⟩ := Lib.run_append_own_string (P := Tryd.prog) w C.lo 64 9 64 5 i0 Tryd.underlying64 Tryd.underlying9 hi0 hz0 hz1 hz2 vout s.out.length (Bs s.out) h.g.out ⟨(l.take s.room).toArray⟩ (by rw [hks]; unfold maxLen; omega) (by rw [hks]; omega) (by have := h.g.lt; omega)
  rw [hks, strCells_eq] at o2
  have hkp : Kept (fun k => vout.ownBlock = some k) w w2 := (Kept.refl _ _).grown g2 fun j hj => .inl hj
  have hlo : w2.heap[C.lo]? = w.heap[C.lo]? := hkp.block _ h.g.lt (fun a => (own_tag h.g.out _ a).ne h.g.rtag (by decide))
  have hlen : (s.out ++ l.take s.room).length = s.out.length + k := by rw [List.length_append, hk]
  have hBs : Bs (s.out ++ l.take s.room) = Bs s.out ++ Bs (l.take s.room) := by simp [Bs]
  have hG := h.g.prints (out' := s.out ++ l.take s.room) (vout' := v') hkp (by rw [hlen, hBs]; exact o2)
  have hF1 : RunF C (w2.setCell ⟨C.lo, 7, none⟩ v') { s with out := s.out ++ l.take s.room } _ _ _ _ _ _ _ := RunF.setR h.fit ⟨s, _, _, _, _, _, hlo.trans h.cell, rfl⟩ hG
  have hG2 : RunG C (w2.setCell ⟨C.lo, 7, none⟩ v') { s with out := s.out ++ l.take s.room, room := s.room - k } _ _ _ _ _ _ _ := { hF1.g with room := by show s.room - k ≤ _; omega }
  have hF2 : RunE C ((w2.setCell ⟨C.lo, 7, none⟩ v').setCell ⟨C.lo, 6, none⟩ (.int .i64 ((s.room - k : Nat) : Int))) { s with out := s.out ++ l.take s.room, room := s.room - k } := ⟨_, _, _, _, _, _, _, RunF.setR h.fit ⟨_, _, _, _, _, _, hF1.cell, rfl⟩ hG2⟩
  have HF := Lib.hid hF2
  have HAN := Lib.hid fun (W : World) (hW : RunE C W { s with out := s.out ++ l.take s.room, room := s.room - k }) => answer_t 0 hW hn
  have c6 := h.cells.2.2.2.2.2.2.1
  have c7 := h.cells.2.2.2.2.2.2.2.1
  have d6 : w2.cell? ⟨C.lo, 6, none⟩ = some (.int .i64 (s.room : Int)) := (World.cell?_of_block hlo).trans c6
  have d7 : w2.cell? ⟨C.lo, 7, none⟩ = some vout := (World.cell?_of_block hlo).trans c7
  have f7 : w2.frozen? ⟨C.lo, 7, none⟩ = false := (World.frozen?_of_block hlo).trans (h.free 7)
  have f6 : w2.frozen? ⟨C.lo, 6, none⟩ = false := (World.frozen?_of_block hlo).trans (h.free 6)
  obtain ⟨o, c, rfl, _⟩ := own_slice o2
  obtain ⟨o', c', rfl, _⟩ := own_slice h.g.out
  have hmn := min_at Tryd.prog (l.length : Int) (s.room : Int) (k : Int) (by split <;> omega)
  have hcut := cutT l k (by omega)
  have htk : l.take k = l.take s.room := by
    rcases Nat.le_total s.room l.length with h1 | h1
    · rw [show k = s.room by omega]
    · rw [show k = l.length by omega, List.take_length, List.take_of_length_le h1]
  rw [htk] at hcut
  have e6 : ((s.room : Int) - (k : Int)) = ((s.room - k : Nat) : Int) := by omega
  have hri : (s.room : Int) ≤ 1000000000 := by omega
  have hli : (l.length : Int) ≤ 1000000 := by omega
  have hki : (k : Int) ≤ (s.room : Int) := by omega
  have hkl : k ≤ l.length := by omega
  have R2 := Lib.hid r2
  rw [hk]
  clear h r2 o2 g2 hkp hG hF1 hG2 hF2 hlo hlen
  generalize hLL : l.take s.room = L2 at *
  generalize s.room - k = RK at *
  clear hLL htk hk'
  generalize s.room = RR at *
  go_enter Tryd.func77, Tryd.ntmps77
  go_wp2_with (at_builtin; refine wpList_append_known rfl (.tmp 18) (.tmp 19) 64 9 (by rfl) _ _ _ (by rfl) (by rfl) R2.out ?_)
  refine (HAN.out _ HF.out).mono ?_
  rintro e w' ⟨rfl, hw⟩
  have HW := Lib.hid hw
  clear hw
  go_wp2
  go_ret
  exact ⟨rfl, HW.out⟩
end Go.Proofs.YtpmbdncackneoaaDoor

namespace Go.Proofs.YtpmbdncackneoaaDoor
open Go.RowKit HeaM Ma

theorem move_mem {C : Cx} {s : Ms} {tn : Bool} {n : Int} {w : World} {vfr vst vtr vout vdn v1 v2 : Value} (h : RunF C w s vfr vst vtr vout vdn v1 v2) (hf : s.done.length ≤ 1000000000) :
    ∃ o c w2, (Builtin.append_ #[22, 22] 22 #[vdn, .slice (some ⟨w.heap.size, 0, none⟩) 1 1]).run Tryd.prog (w.alloc (.cells #[Value.bool tn, .int .i64 n] 26)) = .ok (.slice o (s.done.length + 1) c) w2 ∧
      w2.cell? ⟨C.lo, 8, none⟩ = some vdn ∧ w2.frozen? ⟨C.lo, 8, none⟩ = false ∧ RunE C (w2.setCell ⟨C.lo, 8, none⟩ (.slice o (s.done.length + 1) c)) { s with done := s.done ++ [(tn, n)] } := by
  obtain ⟨v', w2, r2, o2, g2, a2⟩ := append_k (ty := 22) (t := 22) mvInfo Tryd.underlying22 rfl (by decide) (h.g.dn.alloc (.cells [Value.bool tn, .int .i64 n].toArray 26)) rfl (cells_new w [Value.bool tn, .int .i64 n] 26) (by intro u hu; simp at hu; rcases hu with rfl | rfl <;> rfl) (by omega) (by omega) (by have := h.g.lt; simp; omega)
  have hk : Kept (fun k => vdn.ownBlock = some k) w w2 := ((Kept.refl _ _).alloc _).grown g2 fun j hj => .inl hj
  have hlo : w2.heap[C.lo]? = w.heap[C.lo]? := hk.block _ h.g.lt (fun a => (own_tag h.g.dn _ a).ne h.g.rtag (by decide))
  have hG := h.g.moves (done' := s.done ++ [(tn, n)]) hk (by
    have e : CsMv (s.done ++ [(tn, n)]) = CsMv s.done ++ [Value.bool tn, .int .i64 n] := by simp [CsMv, mvC]
    rw [e, List.length_append]; exact o2)
  have hF : RunE C (w2.setCell ⟨C.lo, 8, none⟩ v') { s with done := s.done ++ [(tn, n)] } := ⟨_, _, _, _, _, _, _, RunF.setR h.fit ⟨s, _, _, _, _, _, hlo.trans h.cell, rfl⟩ hG⟩
  obtain ⟨o, c, rfl, _⟩ := own_slice o2
  exact ⟨o, c, w2, r2, (World.cell?_of_block hlo).trans h.cells.2.2.2.2.2.2.2.2.1, (World.frozen?_of_block hlo).trans (h.free 8), hF⟩

def moveS (c : Mc) (s : Ms) (tn : Bool) (n : Int) : Ans :=
  if c.moves ≤ s.done.length then Ma.raise c s [109, 111, 118, 101, 115] else Ma.answer { s with done := s.done ++ [(tn, n)] } 0

set_option maxHeartbeats 4000000 in
set_option maxRecDepth 100000 in
theorem move_t {C : Cx} {s s' : Ms} {m : Nat} {tn : Bool} {n : Int} {w : World} (h : RunE C w s) (hr : moveS C.m s tn n = some (m, s')) (hn : s.stk.length ≤ 1000000000) (hf : s.frs.length ≤ 1000000000) (htn : s.trs.length ≤ 1000000000) (hdn : s.done.length ≤ 100000000) :
    Calls Tryd.prog 79 #[.pointer (some ⟨C.lo, 0, none⟩), .agg #[.bool tn, .int .i64 n]] w (OkRun C s' m) := by
  have h1 : RunE C (w.alloc (.cells #[.bool tn, .int .i64 n] 26)) s := h.below ((Below.refl _ _).alloc (Nat.le_refl _) _)
  have hbox := fun j => cell_of_row _ w.heap.size j _ _ (0, 0) (heap_alloc_new w (.cells #[.bool tn, .int .i64 n] 26))
  have b0 := hbox 0
  have b1 := hbox 1
  simp only [List.getElem?_toArray, List.getElem?_cons_succ, List.getElem?_cons_zero] at b0 b1
  have hmv : (C.m.moves : Int) ≤ 9223372036854775807 := by
    obtain ⟨_, _, _, _, _, _, _, h3⟩ := h
    have := h3.fit.mv
    omega
  have hdi : (s.done.length : Int) ≤ 100000000 := by omega
  unfold moveS at hr
  by_cases hfull : C.m.moves ≤ s.done.length
  · rw [if_pos hfull] at hr
    have HR := Lib.hid fun (W : World) (hW : RunE C W s) => raise_t ⟨#[109, 111, 118, 101, 115]⟩ hW rfl hr hn hf htn
    have hc : ∃ o c, (w.alloc (.cells #[.bool tn, .int .i64 n] 26)).cell? ⟨C.lo, 8, none⟩ = some (.slice o s.done.length c) ∧ (w.alloc (.cells #[.bool tn, .int .i64 n] 26)).cell? ⟨C.lo, 5, none⟩ = some (.int .i64 (C.m.moves : Int)) := by
      obtain ⟨_, _, _, _, _, _, _, h3⟩ := h1
      obtain ⟨o, c, rfl, _⟩ := own_slice h3.g.dn
      exact ⟨o, c, h3.cells.2.2.2.2.2.2.2.2.1, h3.cells.2.2.2.2.2.1⟩
    obtain ⟨o, c, c8, c5⟩ := hc
    have H1 := Lib.hid h1
    have hge : (C.m.moves : Int) ≤ (s.done.length : Int) := by omega
    have hge2 : decide (C.m.moves ≤ s.done.length) = true := by simpa using hfull
    clear h h1 hr hfull hbox
    generalize s.done.length = DL at *
    generalize C.m.moves = MV at *
    go_enter Tryd.func79, Tryd.ntmps79
    go_wp2_with fail
    generalize (w.alloc (.cells #[.bool tn, .int .i64 n] 26)) = w1 at *
    go_quiet (fail)
    have H2 : Hid (RunE C (w1.drewN nq) s) := H1.out.drewN nq
    generalize w1.drewN nq = w2 at *
    go_wp2_with fail
    refine (HR.out _ H2.out).mono ?_
    rintro e w' ⟨rfl, hw⟩
    have HW := Lib.hid hw
    clear hw
    go_wp2
    go_ret
    exact ⟨rfl, HW.out⟩
  · rw [if_neg hfull] at hr
    simp only [Ma.answer, ok, Option.some.injEq, Prod.mk.injEq] at hr
    obtain ⟨rfl, rfl⟩ := hr
    have HAN := Lib.hid fun (W : World) (hW : RunE C W { s with done := s.done ++ [(tn, n)] }) => answer_t 0 hW hn
    obtain ⟨vfr, vst, vtr, vout, vdn, v1, v2, h3⟩ := h1
    have hmem : ∀ W, Below (w.alloc (.cells #[.bool tn, .int .i64 n] 26)).heap.size (w.alloc (.cells #[.bool tn, .int .i64 n] 26)) W → W.cell? ⟨C.lo, 8, none⟩ = some vdn ∧ W.cell? ⟨C.lo, 5, none⟩ = some (.int .i64 (C.m.moves : Int)) ∧ W.cell? ⟨w.heap.size, 0, none⟩ = some (.bool tn) ∧ W.cell? ⟨w.heap.size, 1, none⟩ = some (.int .i64 n) ∧
        ∃ o c w2, (Builtin.append_ #[22, 22] 22 #[vdn, .slice (some ⟨W.heap.size, 0, none⟩) 1 1]).run Tryd.prog (W.alloc (.cells #[Value.bool tn, .int .i64 n] 26)) = .ok (.slice o (s.done.length + 1) c) w2 ∧
        w2.cell? ⟨C.lo, 8, none⟩ = some vdn ∧ w2.frozen? ⟨C.lo, 8, none⟩ = false ∧ RunE C (w2.setCell ⟨C.lo, 8, none⟩ (.slice o (s.done.length + 1) c)) { s with done := s.done ++ [(tn, n)] } := by
      intro W hb
      have h4 := h3.below hb
      exact ⟨h4.cells.2.2.2.2.2.2.2.2.1, h4.cells.2.2.2.2.2.1, (hb.cell (World.block_lt_of_cell? _ _ b0)).trans b0, (hb.cell (World.block_lt_of_cell? _ _ b1)).trans b1, move_mem h4 (by omega)⟩
    have HM := Lib.hid hmem
    obtain ⟨o8, c8', rfl, _⟩ := own_slice h3.g.dn
    have hlt : (s.done.length : Int) < (C.m.moves : Int) := by omega
    have hlt2 : decide (C.m.moves ≤ s.done.length) = false := by simpa using hfull
    clear h h3 hmem hbox hfull b0 b1
    generalize hDL : s.done.length = DL at *
    clear hDL
    generalize C.m.moves = MV at *
    go_enter Tryd.func79, Tryd.ntmps79
    go_wp2_with fail
    generalize (w.alloc (.cells #[.bool tn, .int .i64 n] 26)) = w1 at *
    obtain ⟨q8, q5, -⟩ := HM.out w1 (Below.refl _ _)
    go_quiet (fail)
    have HM2 : Hid (∀ W, Below (w1.drewN nq).heap.size (w1.drewN nq) W → Below w1.heap.size w1 W) := fun W hb => (below_drewN _ _ _).trans hb
    clear q8 q5
    generalize w1.drewN nq = w2 at *
    obtain ⟨q8, q5, q0, q1, -⟩ := HM.out w2 (HM2.out _ (Below.refl _ _))
    obtain ⟨_, _, _, _, o, c, w3, r3, d8, f8, hE⟩ := HM.out w2.drew (HM2.out _ (Below.refl _ _).drew)
    obtain ⟨z8, z5, z0, z1, -⟩ := HM.out _ (HM2.out _ ((Below.refl w2.heap.size w2).alloc (Nat.le_refl _) (.cells #[.bool tn, .int .i64 n] 26)))
    have R3 := Lib.hid r3
    have HE := Lib.hid hE
    clear r3 hE HM HM2
    go_wp2_with fail
    go_region_law ((refine step_append_known rfl (.tmp 21) (.tmp 23) 22 22 rfl _ _ _ rfl rfl R3.out ?_))
    all_goals
      go_wp2_with fail
      refine (HAN.out _ HE.out).mono ?_
      rintro e w' ⟨rfl, hw⟩
      have HW := Lib.hid hw
      clear hw
      go_wp2
      go_ret
      exact ⟨rfl, HW.out⟩
end Go.Proofs.YtpmbdncackneoaaDoor

namespace Go.Proofs.YtpmbdncackneoaaDoor
open Go.RowKit HeaM Ma

set_option maxHeartbeats 2000000 in
set_option maxRecDepth 100000 in
theorem predef_print {C : Cx} {s : Ms} {i : Nat} {l : List UInt8} {x : Nat} {w : World} (h : RunE C w s) (hr : Rep s.W s.F (.txt i l)) (hx : Hid ((V.txt i l).word = x)) (hn : s.stk.length ≤ 1000000000) (ho : s.out.length ≤ 100000000) :
    Calls Tryd.prog 57 #[.pointer (some ⟨C.lo, 0, none⟩), .int .i64 4, .int .u64 (x : Int)] w (OkRun C (Ma.push { s with out := s.out ++ l.take s.room, room := s.room - (l.take s.room).length } (.num 0)) 0) := by
  have KD : Hid (Calls Tryd.prog 54 #[.pointer (some ⟨C.H, 0, none⟩), .int .u64 (x : Int)] w fun e w' => e = .returned (.int .u8 3) ∧ ∃ mq, w' = w.drewN mq) := h.kind hr hx 0
  have HT := Lib.hid fun (W : World) (hW : RunE C W s) => hW.text hr hx
  have HP := Lib.hid fun (W : World) (hW : RunE C W s) => print_t hW hr.2.2 hn ho
  have H := Lib.hid h
  clear h hr
  obtain ⟨x0, x1⟩ := H.out.at
  go_enter Tryd.func57, Tryd.ntmps57
  go_wp2_with fail
  refine KD.out.mono ?_
  rintro e w' ⟨rfl, nq, rfl⟩
  have H2 : Hid (RunE C (w.drewN nq) s) := H.out.drewN nq
  clear x0 x1 H KD
  generalize w.drewN nq = w2 at *
  obtain ⟨x0, x1⟩ := H2.out.at
  go_wp2_with fail
  refine (HT.out _ H2.out).mono ?_
  rintro e w3 ⟨rfl, h3⟩
  have H3 := Lib.hid h3
  clear h3 x0 x1 H2
  go_wp2_with fail
  refine (HP.out _ H3.out).mono ?_
  rintro e w' ⟨rfl, hw⟩
  have HW := Lib.hid hw
  clear hw
  go_wp2
  go_ret
  exact ⟨rfl, HW.out⟩

set_option maxHeartbeats 2000000 in
set_option maxRecDepth 100000 in
theorem predef_move {C : Cx} {s s' : Ms} {m : Nat} {n p : Int} {x : Nat} {w : World} (hp : p = 2 ∨ p = 7) (h : RunE C w s) (hr : Rep s.W s.F (.num n)) (hx : Hid ((V.num n).word = x)) (hm : moveS C.m s (decide (p = 7)) n = some (m, s')) (hn : s.stk.length ≤ 1000000000) (hf : s.frs.length ≤ 1000000000) (htn : s.trs.length ≤ 1000000000) (hdn : s.done.length ≤ 100000000) :
    Calls Tryd.prog 57 #[.pointer (some ⟨C.lo, 0, none⟩), .int .i64 p, .int .u64 (x : Int)] w (OkRun C s' m) := by
  have KD : Hid (Calls Tryd.prog 54 #[.pointer (some ⟨C.H, 0, none⟩), .int .u64 (x : Int)] w fun e w' => e = .returned (.int .u8 0) ∧ ∃ mq, w' = w.drewN mq) := h.kind hr hx 0
  have hlt : x < 18446744073709551616 := by rw [← hx.out]; exact h.wlt hr
  have HI : Hid (∀ w, Calls Tryd.prog 52 #[.int .u64 (x : Int)] w fun e w' => e = .returned (.bool true) ∧ w = w') := fun w => isnum_v (.num n) x w hx hlt
  have HN := Lib.hid fun (w : World) => n_v n x w hx hr.1 hr.2
  have H := Lib.hid h
  obtain ⟨x0, x1⟩ := h.at
  rcases hp with rfl | rfl
  · have HM : Hid (∀ W, RunE C W s → Calls Tryd.prog 79 #[.pointer (some ⟨C.lo, 0, none⟩), .agg #[.bool false, .int .i64 n]] W (OkRun C s' m)) := fun W hW => move_t hW hm hn hf htn hdn
    clear h hr hm
    go_enter Tryd.func57, Tryd.ntmps57
    go_wp2_with fail
    refine KD.out.mono ?_
    rintro e w' ⟨rfl, nq, rfl⟩
    have H2 : Hid (RunE C (w.drewN nq) s) := H.out.drewN nq
    clear x0 x1 H KD
    generalize w.drewN nq = w2 at *
    go_wp2_with fail
    refine (HI.out _).mono ?_
    rintro e w' ⟨rfl, rfl⟩
    go_wp2_with fail
    refine (HN.out _).mono ?_
    rintro e w' ⟨rfl, rfl⟩
    go_wp2_with fail
    refine (HM.out _ H2.out).mono ?_
    rintro e w' ⟨rfl, hw⟩
    have HW := Lib.hid hw
    clear hw
    go_wp2
    go_ret
    exact ⟨rfl, HW.out⟩
  · have HM : Hid (∀ W, RunE C W s → Calls Tryd.prog 79 #[.pointer (some ⟨C.lo, 0, none⟩), .agg #[.bool true, .int .i64 n]] W (OkRun C s' m)) := fun W hW => move_t hW hm hn hf htn hdn
    clear h hr hm
    go_enter Tryd.func57, Tryd.ntmps57
    go_wp2_with fail
    refine KD.out.mono ?_
    rintro e w' ⟨rfl, nq, rfl⟩
    have H2 : Hid (RunE C (w.drewN nq) s) := H.out.drewN nq
    clear x0 x1 H KD
    generalize w.drewN nq = w2 at *
    go_wp2_with fail
    refine (HI.out _).mono ?_
    rintro e w' ⟨rfl, rfl⟩
    go_wp2_with fail
    refine (HN.out _).mono ?_
    rintro e w' ⟨rfl, rfl⟩
    go_wp2_with fail
    refine (HM.out _ H2.out).mono ?_
    rintro e w' ⟨rfl, hw⟩
    have HW := Lib.hid hw
    clear hw
    go_wp2
    go_ret
    exact ⟨rfl, HW.out⟩

theorem dc_call (C : Cx) (n a : Int) (str : ByteArray) : DoC C ⟨7, n, a, str⟩ := by
  intro w s s' m f fs h hf hw hd
  have hd' : Ma.call C.m s = some (m, s') := hd
  unfold Ma.call at hd'
  refine do_call n a str h fun w h => ?_
  rcases hs : s.stk with _ | ⟨v, _ | ⟨g, t⟩⟩
  · rw [hs] at hd'; cases hd'
  · rw [hs] at hd'; cases hd'
  · rw [hs] at hd'
    have hl := hw.1
    have hl' := hw.1
    rw [hs] at hl
    simp only [List.length_cons] at hl
    have hrv : Rep s.W s.F v := by
      obtain ⟨_, _, _, _, _, _, _, h3⟩ := h
      exact h3.g.rstk v (by rw [hs]; simp)
    by_cases h0 : s.fuel = 0
    · simp only [h0, if_true, Option.some.injEq, Prod.mk.injEq] at hd'
      obtain ⟨rfl, rfl⟩ := hd'
      have := call_spent h hs (by rw [hs]; simp only [List.length_cons]; omega) h0
      rw [h0] at this
      exact this
    · simp only [if_neg h0] at hd'
      rcases g with x | ⟨i, l⟩ | ⟨i, k⟩ | ⟨i, p⟩
      · cases hd'
      · cases hd'
      · simp only at hd'
        rcases hg : C.m.funs[k]? with _ | gf
        · rw [hg] at hd'; cases hd'
        · rw [hg] at hd'
          simp only at hd'
          by_cases hc : gf.caps = 0
          · rw [if_pos hc] at hd'
            unfold Ma.enter at hd'
            by_cases hb : 67108864 < t.length + 3 * s.trs.length
            · simp only [if_pos hb] at hd'; cases hd'
            · simp only [if_neg hb, ok, Option.some.injEq, Prod.mk.injEq] at hd'
              obtain ⟨rfl, rfl⟩ := hd'
              exact call_fn h hs (by omega) (by have := hw.2.1; omega) h0 hg hc
          · rw [if_neg hc] at hd'; cases hd'
      · simp only at hd'
        refine call_prim h hs (by omega) h0 fun W hW => ?_
        have hw2 := hw.2.1
        have hw3 := hw.2.2.1
        have hw4 := hw.2.2.2.1
        have hw5 := hw.2.2.2.2
        unfold Ma.predefined at hd'
        rcases v with x | ⟨i2, l⟩ | ⟨i2, k⟩ | ⟨i2, q⟩
        · simp only at hd'
          by_cases h27 : p = 2 ∨ p = 7
          · rw [if_pos h27] at hd'
            refine predef_move (n := x) (s := { s with stk := t, fuel := s.fuel - 1 }) (by omega) hW hrv (Lib.hid rfl) ?_ (by show t.length ≤ _; omega) (by show s.frs.length ≤ _; omega) (by show s.trs.length ≤ _; omega) hw5
            have e : decide ((p : Int) = 7) = decide (p = 7) := by
              rw [decide_eq_decide]; omega
            rw [e]
            exact hd'
          · rw [if_neg h27] at hd'; cases hd'
        · simp only at hd'
          by_cases h4 : p = 4
          · subst h4
            rw [if_pos rfl] at hd'
            simp only [Ma.answer, ok, Option.some.injEq, Prod.mk.injEq] at hd'
            obtain ⟨rfl, rfl⟩ := hd'
            exact predef_print (s := { s with stk := t, fuel := s.fuel - 1 }) hW hrv (Lib.hid rfl) (by show t.length ≤ _; omega) hw4
          · rw [if_neg h4] at hd'
            by_cases h6 : p = 6
            · subst h6
              rw [if_pos rfl] at hd'
              simp only [Ma.answer, ok, Option.some.injEq, Prod.mk.injEq] at hd'
              obtain ⟨rfl, rfl⟩ := hd'
              exact predef_size (s := { s with stk := t, fuel := s.fuel - 1 }) hW hrv (Lib.hid rfl) (by show t.length ≤ _; omega)
            · rw [if_neg h6] at hd'; cases hd'
        · cases hd'
        · cases hd'
end Go.Proofs.YtpmbdncackneoaaDoor

namespace Go.Proofs.YtpmbdncackneoaaDoor
open Go.RowKit HeaM Ma

/-- A state for each place: all of them allowed. -/
theorem chk_line (ins : List CodM.Ins) (st : Nat → Int × Int) (hn : 0 < ins.length) (h0 : st 0 = (1, 0))
    (h : ∀ i x, ins[i]? = some x → CodM.alw [⟨0, ins⟩] 0 8 x (st i).1 (st i).2 = true ∧ ∀ s ∈ CodM.succ x i (st i).1 (st i).2, (i : Int) < s.1 ∧ s.1 < (ins.length : Int) ∧ st s.1.toNat = s.2) : CodM.chk [⟨0, ins⟩] 8 = true := by
  refine CodM.chk_true fun f hf => ?_
  obtain rfl := List.mem_singleton.1 hf
  refine ⟨by show (0 : Int) ≤ 0; omega, fun i => if i < ins.length then some (st i) else none, ?_, fun i d t hi => ?_⟩
  · rw [if_pos hn, h0]
  · by_cases hl : i < ins.length
    · rw [if_pos hl] at hi
      injection hi with hi
      have hx : ins[i]? = some ins[i] := List.getElem?_eq_getElem hl
      obtain ⟨h1, h2⟩ := h i _ hx
      rw [hi] at h1 h2
      refine ⟨_, hx, h1, fun s hs => ?_⟩
      obtain ⟨h3, h4, h5⟩ := h2 s hs
      exact ⟨h3, by rw [if_pos (by omega), h5]⟩
    · rw [if_neg hl] at hi; cases hi

def okop (n : Nat) : Prop := n = 0 ∨ n = 1 ∨ n = 5 ∨ n = 7 ∨ n = 8 ∨ n = 15 ∨ n = 18 ∨ n = 19 ∨ n = 20 ∨ n = 24 ∨ n = 26
theorem dc_ok (C : Cx) (x : CodM.Ins) (h : okop x.op) : DoC C x := by
  obtain ⟨op, n, a, s⟩ := x
  simp only [okop] at h
  rcases h with rfl | rfl | rfl | rfl | rfl | rfl | rfl | rfl | rfl | rfl | rfl
  · exact dc_int C _ _ _
  · exact dc_text C _ _ _
  · exact dc_glob C _ _ _
  · exact dc_call C _ _ _
  · exact dc_ret C _ _ _
  · exact dc_istext C _ _ _
  · exact dc_slide C _ _ _
  · exact dc_pop C _ _ _
  · exact dc_op C _ _ _
  · exact dc_try C _ _ _
  · exact dc_fail C _ _ _

/-- What run leaves, of an execution that ends in s'. -/
def MPost (w : World) (E R Fu : Int) (ra ou : ByteArray) (s' : Ms) (e' : Ending) (w' : World) : Prop :=
  ∃ o c M, e' = .returned (.tuple #[.agg #[.int .i64 E, .int .u64 R, .string ra, .string ou, .slice o s'.done.length c, .int .i64 Fu], .pointer (some ⟨M, 0, none⟩)]) ∧ Below w.heap.size w w' ∧
    (∃ b0, w'.ownsRow b0 26 2 (.slice o s'.done.length c) s'.done.length (CsMv s'.done)) ∧
    (E = 0 → ∃ H base u1 u2 vf vg, HAt w' H base 4000 0 u1 u2 s'.W s'.F ∧ w'.heap[M]? = some (.cells #[.pointer (some ⟨H, 0, none⟩), vf, vg] 54 (0, 0)) ∧ s'.F.length = s'.W.length ∧ s'.W.length ≤ 4000 ∧ ∀ x ∈ s'.W, x < 18446744073709551616)

theorem lrun_l {w : World} {b off c k e fuel : Nat} {s' : Ms} {E R Fu : Int} {ra ou : ByteArray} (ins : List CodM.Ins) (h : Oc.InsC w b off ins) (h0 : 0 < ins.length) (hn : ins.length ≤ 100000) (hc : ins.length ≤ c) (hcm : c ≤ maxLen) (hk : CodM.chk [⟨0, ins⟩] 8 = true) (hfu : fuel ≤ 20000)
    (hd : ∀ x ∈ ins, okop x.op) (hr : Ma.runN (mcR ins) k (st0 fuel 50) = some (e, s')) (hE : (e : Int) = E) (hR : (s'.result : Int) = R) (hF : (s'.fuel : Int) = Fu) (hra : (⟨s'.raised.toArray⟩ : ByteArray) = ra) (hou : (⟨s'.out.toArray⟩ : ByteArray) = ou) :
    Calls Tryd.prog 5 #[.slice (some ⟨b, off, none⟩) ins.length c, .int .i64 (fuel : Int)] w (MPost w E R Fu ra ou s') := by
  refine (lrun_t ins h h0 hn hc hcm hk hfu (fun x hx C _ => dc_ok C x (hd x hx)) hr).mono ?_
  rintro e' w' ⟨vm, M, H, base, vg, vf, rfl, hb, ⟨b0, ho⟩, hz⟩
  obtain ⟨o, c, rfl, _⟩ := own_slice ho
  subst hE hR hF hra hou
  refine ⟨o, c, M, rfl, hb, ⟨b0, ho⟩, fun he => ?_⟩
  obtain ⟨u1, u2, z1, z2, z3⟩ := hz (by omega)
  exact ⟨H, base, u1, u2, vf, vg, z1, z2, z3⟩

/-- One step of a function alone. -/
theorem go1 {ins : List CodM.Ins} {k i : Nat} {s s' : Ms} {x : CodM.Ins} (hs : s.frs = [⟨0, .num 0, 0, (i : Int)⟩]) (hx : ins[i]? = some x) (hi : i ≤ 100000000) (hw : few s)
    (hd : doI (mcR ins) { s with frs := [⟨0, .num 0, 0, (i : Int) + 1⟩] } ⟨0, .num 0, 0, (i : Int) + 1⟩ [] x = some (0, s')) : Ma.runN (mcR ins) (k + 1) s = Ma.runN (mcR ins) k s' := by
  have hst : Ma.step (mcR ins) s = some (0, s') := by
    unfold Ma.step
    rw [if_pos hw, hs]
    show (if 0 ≤ (i : Int) ∧ (i : Int) ≤ 100000000 then _ else _) = _
    rw [if_pos (by omega)]
    show (match ins[(i : Int).toNat]? with | none => none | some x => _) = _
    rw [Int.toNat_natCast, hx]
    exact hd
  have e : Ma.runN (mcR ins) (k + 1) s = (if s.frs.length = 0 then some (0, s) else match Ma.step (mcR ins) s with
    | none => none
    | some (e, s') => if e = 0 then Ma.runN (mcR ins) k s' else some (e, s')) := rfl
  rw [e, if_neg (by rw [hs]; simp), hst]
  exact if_pos rfl
theorem go1e {ins : List CodM.Ins} {k i e : Nat} {s s' : Ms} {x : CodM.Ins} (hs : s.frs = [⟨0, .num 0, 0, (i : Int)⟩]) (hx : ins[i]? = some x) (hi : i ≤ 100000000) (hw : few s) (he : e ≠ 0)
    (hd : doI (mcR ins) { s with frs := [⟨0, .num 0, 0, (i : Int) + 1⟩] } ⟨0, .num 0, 0, (i : Int) + 1⟩ [] x = some (e, s')) : Ma.runN (mcR ins) (k + 1) s = some (e, s') := by
  have hst : Ma.step (mcR ins) s = some (e, s') := by
    unfold Ma.step
    rw [if_pos hw, hs]
    show (if 0 ≤ (i : Int) ∧ (i : Int) ≤ 100000000 then _ else _) = _
    rw [if_pos (by omega)]
    show (match ins[(i : Int).toNat]? with | none => none | some x => _) = _
    rw [Int.toNat_natCast, hx]
    exact hd
  have e1 : Ma.runN (mcR ins) (k + 1) s = (if s.frs.length = 0 then some (0, s) else match Ma.step (mcR ins) s with
    | none => none
    | some (e, s') => if e = 0 then Ma.runN (mcR ins) k s' else some (e, s')) := rfl
  rw [e1, if_neg (by rw [hs]; simp), hst]
  exact if_neg he
end Go.Proofs.YtpmbdncackneoaaDoor
