/- MachineFuel: MacAH, MacAJ. -/
import Derived.Test.YtbiebglnbkflmaaDoorMacO
import Derived.Test.YtbiebglnbkflmaaDoorMacS
import Derived.Deep.Upon
namespace Go.Proofs.YtbiebglnbkflmaaDoor
open Go.RowKit HeaM Ma

set_option maxRecDepth 100000 in
theorem append_no (w : World) (b : Nat) (o : Option Addr) (c : Nat) : (Builtin.append_ #[58, 58] 58 #[.slice (some ⟨b, 0, none⟩) 1 1, .slice o 0 c]).run Tryd.prog w = .ok (.slice (some ⟨b, 0, none⟩) 1 1) w := by
  obtain ⟨i, hi⟩ : ∃ i, Tryd.prog.info? 26 = some i := ⟨_, rfl⟩
  cases o <;> simp [Builtin.append_, run_underlying Tryd.underlying58, sizeOf, typeInfo, hi, loadCells, loadCellsFrom, storeCells, Builtin.lenOf, Builtin.firstCells]

set_option maxHeartbeats 2000000 in
set_option maxRecDepth 100000 in
theorem object_fn {C : Cx} {s : Ms} {w : World} {vfr vst vtr vout vdn v1 v2 : Value} (b n : Nat) (h : RunF C w s vfr vst vtr vout vdn v1 v2) (hn : s.stk.length ≤ 1000000000) (hb : w.cell? ⟨b, 0, none⟩ = some (.int .u64 ((numW (n : Int) : Nat) : Int))) (hne : ¬ three C.H v1 v2 b) (hbl : b ≠ C.lo) (hroom : s.W.length + 2 ≤ C.m.q) (hn1 : n ≤ 1000000) :
    Calls Tryd.prog 49 #[.pointer (some ⟨C.lo, 0, none⟩), .int .u8 5, .int .i64 0, .slice (some ⟨b, 0, none⟩) 1 1] w (OkRun C (push { s with W := s.W ++ [261, numW (n : Int)], F := s.F ++ [true, false] } (.fn s.W.length n)) 0) := by
  have hst : ∃ o k, vst = .slice o s.stk.length k ∧ s.stk.length ≤ k ∧ k ≤ maxLen ∧ (o = none → s.stk.length = 0 ∧ k = 0) := by
    rcases h.g.st.2 with ⟨rfl, h0⟩ | ⟨g, cap, cur, rfl, _, _, h1, h2, _⟩
    · exact ⟨none, 0, by rw [h0], by omega, by unfold maxLen; omega, fun _ => ⟨h0, rfl⟩⟩
    · exact ⟨_, cap, rfl, h1, h2, fun e => by cases e⟩
  obtain ⟨o2, k2, rfl, hk2, hm2, hnone⟩ := hst
  have hset : ∀ W, RunF C W s vfr (.slice o2 s.stk.length k2) vtr vout vdn v1 v2 → RunF C (W.setCell ⟨C.lo, 2, none⟩ (.slice o2 s.stk.length k2)) s vfr (.slice o2 s.stk.length k2) vtr vout vdn v1 v2 := fun W hW => RunF.setR hW.fit ⟨s, _, _, _, _, _, hW.cell, rfl⟩ hW.g
  have hput : ∀ W, RunF C W s vfr (.slice o2 s.stk.length k2) vtr vout vdn v1 v2 → W.cell? ⟨b, 0, none⟩ = some (.int .u64 ((numW (n : Int) : Nat) : Int)) → Calls Tryd.prog 25 #[.pointer (some ⟨C.H, 0, none⟩), .int .u8 5, .slice (some ⟨b, 0, none⟩) 1 1, .slice none 0 0] W fun e w' => e = .returned (.tuple #[.int .u64 ((2 * s.W.length : Nat) : Int), .int .i64 0]) ∧ RunE C w' { s with W := s.W ++ [261, numW (n : Int)], F := s.F ++ [true, false] } := by
    intro W h1 hx
    refine (put_room C.H C.base C.m.q C.c 5 v1 v2 s.W s.F [numW (n : Int)] (.slice (some ⟨b, 0, none⟩) 1 1) (.slice none 0 0) W h1.g.heap h1.fit.q (by have := h1.fit.base; have := h1.g.lt; omega) (by omega) h1.g.len (by simpa using hroom) ?_).mono ?_
    · intro w' hk
      refine .inr ⟨_, _, rfl, Nat.le_refl _, by unfold maxLen; omega, fun j x hj => ?_⟩
      have hj0 : j = 0 := by have := (List.getElem?_eq_some_iff.1 hj).1; simpa [Ws] using this
      subst hj0
      have hx' : x = .int .u64 ((numW (n : Int) : Nat) : Int) := by simpa [Ws, Wv] using hj.symm
      subst hx'
      exact (hk.cell (p := ⟨b, 0, none⟩) (World.block_lt_of_cell? W _ hx) hne).trans hx
    · rintro e w' ⟨rfl, u1, u2, hL⟩
      refine ⟨rfl, _, _, _, _, _, _, _, h1.laid hL rfl (by simpa using hroom) ?_⟩
      intro x hx
      simp only [List.mem_cons, List.mem_nil_iff, or_false] at hx
      rcases hx with rfl | rfl
      · decide
      · exact numW_lt _
  have hpush : ∀ W, RunE C W { s with W := s.W ++ [261, numW (n : Int)], F := s.F ++ [true, false] } → Calls Tryd.prog 43 #[.pointer (some ⟨C.lo, 0, none⟩), .int .u64 ((2 * s.W.length : Nat) : Int)] W (VoidRun C (push { s with W := s.W ++ [261, numW (n : Int)], F := s.F ++ [true, false] } (.fn s.W.length n))) := fun W hW =>
    push_t (v := .fn s.W.length n) hW (rep_fn h.g.len hn1) (Lib.hid rfl) hn
  have HR := Lib.hid fun (W : World) (hW : RunE C W s) => roots_t 2 hW hroom
  have HNE : Hid (∀ w, Calls Tryd.prog 24 #[.int .u8 5, .int .i64 1] w fun e w' => e = .returned (.int .i64 2) ∧ w = w') := fun w => (need_any 5 1 2 w (by omega) rfl).mono fun _ _ h => ⟨h.1, h.2.symm⟩
  have hap : (Builtin.append_ #[58, 58] 58 #[.slice (some ⟨b, 0, none⟩) 1 1, .slice (o2.map fun x => x.add s.stk.length) 0 (k2 - s.stk.length)]).run Tryd.prog w = .ok (.slice (some ⟨b, 0, none⟩) 1 1) w := append_no _ _ _ _
  have hc := h.cells.2.2.1
  have hf := h.free 2
  have HF := Lib.hid h
  have HP := Lib.hid hput
  have HPU := Lib.hid hpush
  have HS := Lib.hid hset
  have hsl : (s.stk.length : Int) ≤ 1000000000 := by omega
  clear hput hpush hset h hn
  generalize s.stk.length = L at *
  unfold maxLen at hm2
  have hkey : (o2 = none ∧ L = 0 ∧ k2 = 0) ∨ ∃ g2, o2 = some g2 ∧ (k2 = L ∨ L < k2) := by
    rcases o2 with _ | g2
    · exact .inl ⟨rfl, hnone rfl⟩
    · exact .inr ⟨g2, rfl, by omega⟩
  have HB : Hid ((w.setCell ⟨C.lo, 2, none⟩ (.slice o2 L k2)).cell? ⟨b, 0, none⟩ = some (.int .u64 ((numW (n : Int) : Nat) : Int))) := (World.cell?_setCell_far _ ⟨C.lo, 2, none⟩ ⟨b, 0, none⟩ _ (Ne.symm hbl)).trans hb
  clear hnone hb
  have HFS := Lib.hid (HS.out _ HF.out)
  clear HS HF
  rcases hkey with ⟨rfl, rfl, rfl⟩ | ⟨g2, rfl, rfl | hlt⟩
  all_goals
    go_enter Tryd.func49, Tryd.ntmps49
    go_wp2_with fail
  all_goals
    generalize (w.setCell ⟨C.lo, 2, none⟩ _) = W1 at *
    have hcells : ∀ nq, (W1.drewN nq).cell? ⟨C.lo, 0, none⟩ = some (.pointer (some ⟨C.M, 0, none⟩)) ∧ (W1.drewN nq).cell? ⟨C.M, 0, none⟩ = some (.pointer (some ⟨C.H, 0, none⟩)) ∧ RunE C (W1.drewN nq) s := fun nq => ⟨(HFS.out.drewN nq).cells.1, (HFS.out.drewN nq).mach.1, _, _, _, _, _, _, _, HFS.out.drewN nq⟩
    have q0 : W1.cell? _ = _ := (hcells 0).1
    have q1 : W1.cell? _ = _ := (hcells 0).2.1
    have HRQ : Hid (Calls Tryd.prog 64 #[.pointer (some ⟨C.lo, 0, none⟩), .int .i64 2] W1.drew fun e w' => e = .returned (.slice none 0 0) ∧ ∃ nq, w' = W1.drew.drewN nq) := HR.out _ (hcells 1).2.2
    have HPQ := Lib.hid fun nq => HP.out (W1.drewN nq) (HFS.out.drewN nq) HB.out
    clear hcells hap hc hf HR HP
    go_region_law (first
      | (go_simp; go_at_call 24; refine (HNE.out _).mono ?_; rintro e w' ⟨rfl, rfl⟩)
      | (go_simp; go_at_call 64; refine HRQ.out.mono ?_; rintro e w' ⟨rfl, nq, rfl⟩)
      | (go_simp; go_at_call 25; refine (HPQ.out (1 + nq)).mono ?_; rintro e w2 ⟨rfl, hw2⟩; have HW2 := Lib.hid hw2; clear hw2))
    all_goals
      go_wp2_with fail
      refine (HPU.out _ HW2.out).mono ?_
      rintro e w' ⟨rfl, hw⟩
      have HW := Lib.hid hw
      clear hw
      go_wp2
      go_ret
      exact ⟨rfl, HW.out⟩

set_option maxHeartbeats 2000000 in
set_option maxRecDepth 100000 in
theorem dc_clos (C : Cx) (n a : Int) (str : ByteArray) : DoC C ⟨6, n, a, str⟩ := by
  intro w s s' m f fs h hf hw hd
  have hd' : (if a = 0 ∧ 0 ≤ n ∧ n ≤ 1000000 then putFn C.m s n.toNat else none) = some (m, s') := hd
  by_cases hn : a = 0 ∧ 0 ≤ n ∧ n ≤ 1000000
  case neg => rw [if_neg hn] at hd'; cases hd'
  rw [if_pos hn] at hd'
  obtain ⟨rfl, hn1, hn2⟩ := hn
  obtain ⟨k, rfl⟩ : ∃ k : Nat, n = (k : Int) := ⟨n.toNat, by omega⟩
  have hps : s.W.length + 2 ≤ C.m.q ∧ m = 0 ∧ s' = push { s with W := s.W ++ [261, numW (k : Int)], F := s.F ++ [true, false] } (.fn s.W.length k) := by
    unfold putFn at hd'
    rw [Int.toNat_natCast] at hd'
    by_cases hr : s.W.length + 2 ≤ C.m.q
    · rw [if_pos hr] at hd'
      simp only [ok, Option.some.injEq, Prod.mk.injEq] at hd'
      exact ⟨hr, hd'.1.symm, hd'.2.symm⟩
    · rw [if_neg hr] at hd'; cases hd'
  obtain ⟨hr, rfl, rfl⟩ := hps
  have h0 := h.ins 6 (k : Int) 0 str
  have hblk := heap_alloc_new w (.cells #[.int .u8 6, .int .i64 (k : Int), .int .i64 0, .string str] 34)
  have hx1 : (w.alloc (.cells #[.int .u8 6, .int .i64 (k : Int), .int .i64 0, .string str] 34)).cell? ⟨w.heap.size, 1, none⟩ = some (.int .i64 (k : Int)) := (cell_of_row _ w.heap.size 1 _ _ (0, 0) hblk).trans rfl
  have hx2 : (w.alloc (.cells #[.int .u8 6, .int .i64 (k : Int), .int .i64 0, .string str] 34)).cell? ⟨w.heap.size, 2, none⟩ = some (.int .i64 0) := (cell_of_row _ w.heap.size 2 _ _ (0, 0) hblk).trans rfl
  have hX := Lib.hid hx1
  clear hx1
  obtain ⟨vfr, vst, vtr, vout, vdn, v1, v2, h1⟩ := h0
  have hki : (k : Int) ≤ 1000000 := by omega
  have HN : Hid (∀ W : World, Calls Tryd.prog 12 #[.int .i64 (k : Int)] W fun e w' => e = .returned (.int .u64 ((numW (k : Int) : Nat) : Int)) ∧ W = w') := fun W => (num_t (k : Int) W).mono fun e w' ⟨h1, h2⟩ => ⟨by rw [h1]; unfold numW; congr 1, h2⟩
  go_enter Tryd.func32, Tryd.ntmps32
  go_wp2_with fail
  generalize (w.alloc (.cells #[.int .u8 6, .int .i64 (k : Int), .int .i64 0, .string str] 34)) = W1 at *
  have hb1 : Below W1.heap.size W1 (W1.drew.alloc (.cells #[.int .u64 ((numW (k : Int) : Nat) : Int)] 26)) := (below_drewN _ 1 W1).trans ((Below.refl W1.drew.heap.size W1.drew).alloc (Nat.le_refl _) _)
  have h2 := h1.below hb1
  have HO : Hid (Calls Tryd.prog 49 #[.pointer (some ⟨C.lo, 0, none⟩), .int .u8 5, .int .i64 0, .slice (some ⟨W1.heap.size, 0, none⟩) 1 1] ((W1.alloc (.cells #[.int .u64 ((numW (k : Int) : Nat) : Int)] 26)).drew) (OkRun C (push { s with W := s.W ++ [261, numW (k : Int)], F := s.F ++ [true, false] } (.fn s.W.length k)) 0)) := by
    change Calls _ _ _ (W1.drew.alloc (.cells #[.int .u64 ((numW (k : Int) : Nat) : Int)] 26)) _
    refine object_fn W1.heap.size k h2 (by have := hw.1; omega) ((cell_of_row _ W1.heap.size 0 _ _ (0, 0) (heap_alloc_new W1.drew _)).trans rfl) ?_ ?_ hr (by omega)
    · intro e
      exact Nat.lt_irrefl _ (h1.g.heap.own_lt _ e)
    · have := h1.g.lt
      omega
  have hx3 : (W1.alloc (.cells #[.int .u64 ((numW (k : Int) : Nat) : Int)] 26)).cell? ⟨w.heap.size, 2, none⟩ = some (.int .i64 0) := (hb1.cell (p := ⟨w.heap.size, 2, none⟩) (World.block_lt_of_cell? W1 _ hx2)).trans hx2
  have hx1 := hX.out
  have hsz : W1.drew.heap.size = W1.heap.size := rfl
  clear h hf hw hd hd' h1 h2 hb1 hblk hr hX
  generalize numW (k : Int) = X at *
  go_region_law (first
    | (go_simp; go_at_call 12; refine (HN.out _).mono ?_; rintro e w' ⟨rfl, rfl⟩)
    | (go_simp; go_at_call 49; refine HO.out.mono ?_; rintro e w2 ⟨rfl, hw2⟩; have HW2 := Lib.hid hw2; clear hw2))
  all_goals
    go_wp2_with fail
    go_ret
    exact ⟨rfl, HW2.out⟩
end Go.Proofs.YtbiebglnbkflmaaDoor
