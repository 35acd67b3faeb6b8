/- A value of one's own stack; a number that is false. -/
import Derived.Test.YtpmbdncackneoaaDoorMacAA
namespace Go.Proofs.YtpmbdncackneoaaDoor
open Go.RowKit HeaM Ma

theorem RunE.insc {C : Cx} {w : World} {s : Ms} (h : RunE C w s) (op : Int) (n a : Int) (str : ByteArray) : C.lo < w.heap.size ∧ (w.alloc (.cells #[.int .u8 op, .int .i64 n, .int .i64 a, .string str] 28)).cell? ⟨w.heap.size, 1, none⟩ = some (.int .i64 n) :=
  ⟨h.lt, (cell_of_row _ w.heap.size 1 _ _ (0, 0) (heap_alloc_new w _)).trans rfl⟩

set_option maxHeartbeats 2000000 in
set_option maxRecDepth 100000 in
theorem dc_false (C : Cx) (n a : Int) (str : ByteArray) : DoC C ⟨13, n, a, str⟩ := by
  intro w s s' m f fs h hf hw hd
  have hd' : (match s.stk with | v :: t => if v.word = 1 then ok { s with stk := t, frs := { f with at_ := n } :: fs } else ok { s with stk := t } | [] => none) = some (m, s') := hd
  rcases hs : s.stk with _ | ⟨v, t⟩
  · rw [hs] at hd'; cases hd'
  rw [hs] at hd'
  have hm : m = 0 := by
    by_cases h1 : v.word = 1
    · simp only [h1, if_true, ok, Option.some.injEq, Prod.mk.injEq] at hd'; exact hd'.1.symm
    · simp only [if_neg h1, ok, Option.some.injEq, Prod.mk.injEq] at hd'; exact hd'.1.symm
  subst hm
  refine do_lead 13 n a str h (by omega) fun wa0 h1 => ?_
  clear h hd
  obtain ⟨hlt, hx⟩ := h1.insc 13 n a str
  have HP := Lib.hid (pop_k (h1.ins 13 n a str) hs (by have := hw.1; omega))
  have HN0 : Hid (∀ w : World, Calls Tryd.prog 7 #[.int .i64 0] w fun e w' => e = .returned (.int .u64 1) ∧ w = w') := fun w => num_t 0 w
  have hfr : (⟨s.W, s.F, t, s.frs, s.trs, s.fuel, s.room, s.out, s.done, s.raised, s.result⟩ : Ms).frs = f :: fs := hf
  have hfl : s.frs.length = fs.length + 1 := by rw [hf]; rfl
  have hfn : fs.length + 1 ≤ 100000000 := by have := hw.2.1; omega
  by_cases hv : v.word = 1
  · simp only [hv, if_true, ok, Option.some.injEq, Prod.mk.injEq, true_and] at hd'
    subst hd'
    rw [hv] at HP
    clear h1 hw
    go_enter Tryd.func44, Tryd.ntmps44
    go_wp2_with fail
    refine HP.out.mono ?_
    rintro e w1 ⟨rfl, h2, hk2⟩
    have hx2 := (hk2.cell (p := ⟨wa0.heap.size, 1, none⟩) (by simp) (by show wa0.heap.size ≠ C.lo; omega)).trans hx
    have H2 := Lib.hid h2
    clear h2 hk2 hx HP
    go_wp2_with fail
    refine (HN0.out _).mono ?_
    rintro e w' ⟨rfl, rfl⟩
    obtain ⟨vfr, vst, vtr, vout, vdn, v1, v2, h2⟩ := H2.out
    have ho := h2.g.fr
    simp only [hfl] at ho
    obtain ⟨g, cap, rfl, hcap, hmax, _⟩ := own_some ho (by omega)
    have hall : ∀ nq, (w1.drewN nq).cell? ⟨wa0.heap.size, 1, none⟩ = some (.int .i64 n) ∧ (w1.drewN nq).cell? ⟨g, fs.length * 4 + 3, none⟩ = some (.int .i64 f.at_) ∧ (w1.drewN nq).frozen? ⟨g, fs.length * 4 + 3, none⟩ = false ∧ RunE C ((w1.drewN nq).setCell ⟨g, fs.length * 4 + 3, none⟩ (.int .i64 n)) ⟨s.W, s.F, t, { f with at_ := n } :: fs, s.trs, s.fuel, s.room, s.out, s.done, s.raised, s.result⟩ := by
      intro nq
      have h6 := h2.drewN nq
      obtain ⟨_, _, _, q3, q4⟩ := h6.frame hfr
      exact ⟨hx2, q3, q4 _, _, _, _, _, _, _, _, h6.goto hfr n⟩
    have HA := Lib.hid hall
    have c1 := h2.cells.2.1
    have c1' : w1.drew.cell? ⟨C.lo, 1, none⟩ = some (.slice (some ⟨g, 0, none⟩) (fs.length + 1) cap) := c1
    have HT := Lib.hid (top_t C.lo g fs.length cap w1.drew c1' (by omega))
    clear hall H2 h2 ho c1 c1' hs hf hfr hfl HN0
    generalize fs.length = m at *
    go_wp2_with fail
    go_region_law ((go_simp; go_at_call 33; refine HT.out.mono ?_; rintro e w' ⟨rfl, nq, rfl⟩; obtain ⟨y1, y2, y3, y4⟩ := HA.out (1 + nq); have Y4 := Lib.hid y4; clear y4))
    all_goals
      go_wp2_with fail
      refine bodyPost_ret (results_none rfl _ _ _) rfl ?_
      exact ⟨rfl, Y4.out⟩
  · simp only [if_neg hv, ok, Option.some.injEq, Prod.mk.injEq, true_and] at hd'
    subst hd'
    have hvz : ((v.word : Int) == 1) = false := by rw [beq_eq_false_iff_ne]; omega
    clear h1 hw
    generalize v.word = x at *
    go_enter Tryd.func44, Tryd.ntmps44
    go_wp2_with fail
    refine HP.out.mono ?_
    rintro e w1 ⟨rfl, h2, hk2⟩
    have H2 := Lib.hid h2
    clear h2 hk2 hx HP
    go_wp2_with fail
    refine (HN0.out _).mono ?_
    rintro e w' ⟨rfl, rfl⟩
    go_wp2_with fail
    refine bodyPost_ret (results_none rfl _ _ _) rfl ?_
    exact ⟨rfl, H2.out⟩
end Go.Proofs.YtpmbdncackneoaaDoor
