/- Rows that are made: plain, several behind one another. -/
import Derived.Test.YtiimofdbconlhaaDoorPriG
import Derived.Lib.AppendZerosOnto
import Derived.Lib.SliceRun
import Derived.LoopN
import Derived.Maps.AppendAt
namespace Go.Proofs.YtiimofdbconlhaaDoor
open Go.RowKit PriM

theorem CellsP.flat {w : World} {b off : Nat} {l : List Pv} (h : CellsP w b off l) : ∀ j u, (Cs l)[j]? = some u → w.cell? ((⟨b, off, none⟩ : Addr).add j) = some u := by
  intro j u hj
  have hl : j < l.length * 2 := by have := (List.getElem?_eq_some_iff.1 hj).1; rw [Cs_length] at this; exact this
  have hp : l[j / 2]? = some l[j / 2] := List.getElem?_eq_getElem (by omega)
  obtain ⟨h1, h2⟩ := Cs_get l _ _ hp
  obtain ⟨c1, c2⟩ := h _ _ hp
  rw [add_none]
  rcases (show j % 2 = 0 ∨ j % 2 = 1 by omega) with h0 | h0
  · rw [show j / 2 * 2 = j by omega] at h1 c1
    rw [hj] at h1
    rw [c1]; exact h1.symm
  · rw [show j / 2 * 2 + 1 = j by omega] at h2
    rw [show off + j / 2 * 2 + 1 = off + j by omega] at c2
    rw [hj] at h2
    rw [c2]; exact h2.symm
theorem CellsP.below {w w' : World} {b off n : Nat} {l : List Pv} (h : CellsP w b off l) (hb : Below n w w') (hn : b < n) : CellsP w' b off l := fun j p hj =>
  ⟨(hb.cell hn).trans (h j p hj).1, (hb.cell hn).trans (h j p hj).2⟩

/-- A row that a literal lays. -/
theorem own_lit {w : World} {b base : Nat} {l : List Pv} (hb : w.heap[b]? = some (.cells (Cs l).toArray 51 (0, 0))) (hB : base ≤ b) (hl : l.length ≤ 1000) : OwnP w base (.slice (some ⟨b, 0, none⟩) l.length l.length) l :=
  ⟨Cs_length l, .inr ⟨b, l.length, _, rfl, hB, hb, Nat.le_refl _, by unfold maxLen; omega, by simp [Cs_length], by simp [← Cs_length]⟩⟩

theorem plain_any (s : ByteArray) (w : World) : Calls Tryd.prog 44 #[.string s] w fun e w' => e = .returned (.slice (some ⟨w.heap.size, 0, none⟩) 1 1) ∧ w' = w.alloc (.cells #[.string s, .nilFunc] 51) := by
  go_enter Tryd.func44, Tryd.ntmps44
  go_wp2
  go_ret
  exact ⟨rfl, rfl⟩

set_option maxRecDepth 100000 in
set_option maxHeartbeats 2000000 in
/-- slices.Grow of no slice: a new row with room, and nothing in it. -/
theorem grow_nil (n : Nat) (hn : 1 ≤ n) (hm : n ≤ 1000000000000) (w : World) : Calls Tryd.prog 88 #[.slice none 0 0, .int .i64 n] w fun e w' => ∃ v, e = .returned v ∧ OwnP w' w.heap.size v [] ∧ Below w.heap.size w w' ∧ v ≠ .slice none 0 0 := by
  obtain ⟨i0, hi, hz0, hz1, hz2⟩ := info_parts partInfo
  have hold : (Builtin.firstCells i0.size 0 (.slice none 0 0)).run Tryd.prog w.drew = .ok #[] w.drew := run_firstCells_none w.drew i0.size 0 0 0
  have hrz := fun ty => Lib.run_append_grow_zeros (P := Tryd.prog) w 53 3 ty 51 i0 _ .i64 .i64 Tryd.underlying53 Tryd.underlying3 hi hz0 none 0 0 [] hold n (by omega) (by omega) (by omega) (by omega) (by rw [hz2]; omega) (by rw [hz2]; exact growslice_fits (by omega) (by omega))
  rw [Nat.zero_add] at hrz
  have hG := grownCap_ge w n 0 51
  have hG2 := grownCap_le_maxLen w n 0 51 (by unfold maxLen; omega)
  generalize grownCap w n 0 51 = G at *
  have hst := World.ownsRow_made w.drew (size := 2) (base := w.heap.size) (e := 51) (Builtin.zeroCells #[Value.string ⟨#[]⟩, .nilFunc] n ++ Builtin.zeroCells #[Value.string ⟨#[]⟩, .nilFunc] (G - n)) G (Nat.le_refl _) hG2 (by
    simp only [Array.size_append, size_zeroCells]
    simp
    omega)
  have HF := Lib.hid hst
  clear hst hold
  have h1 : ¬ ((n : Int) < 0) := by omega
  have h4 : (n : Int) > 0 := by omega
  go_enter Tryd.func88, Tryd.ntmps88
  go_wp2_with (at_builtin; refine Lib.wpList_append_run _ rfl _ _ _ _ rfl _ _ rfl rfl _ _ (hrz _) ?_)
  all_goals
    go_ret
    refine ⟨_, rfl, ?_, ((Below.refl _ _).drew).alloc (by simp) _, by simp⟩
    exact HF.out

set_option maxRecDepth 100000 in
set_option maxHeartbeats 4000000 in
/-- slices.Concat of three rows that have something. -/
theorem concat3 (B b0 o0 k0 b1 o1 k1 b2 o2 k2 : Nat) (l0 l1 l2 : List Pv) (w : World)
    (h0 : w.cell? ⟨B, 0, none⟩ = some (.slice (some ⟨b0, o0, none⟩) l0.length k0)) (h1 : w.cell? ⟨B, 1, none⟩ = some (.slice (some ⟨b1, o1, none⟩) l1.length k1)) (h2 : w.cell? ⟨B, 2, none⟩ = some (.slice (some ⟨b2, o2, none⟩) l2.length k2))
    (c0 : CellsP w b0 o0 l0) (c1 : CellsP w b1 o1 l1) (c2 : CellsP w b2 o2 l2) (hb0 : b0 < w.heap.size) (hb1 : b1 < w.heap.size) (hb2 : b2 < w.heap.size) (hn : 1 ≤ l0.length) (hm : l0.length + l1.length + l2.length ≤ 1000000000000) :
    Calls Tryd.prog 77 #[.slice (some ⟨B, 0, none⟩) 3 3] w fun e w' => ∃ v, e = .returned v ∧ OwnP w' w.heap.size v (l0 ++ l1 ++ l2) ∧ Below w.heap.size w w' := by
  obtain ⟨i0, hi0, hz0, hz1, hz2⟩ := info_parts partInfo
  have HB : B < w.heap.size := World.block_lt_of_cell? w _ h0
  have hG := grow_nil (l0.length + l1.length + l2.length) (by omega) hm w
  rw [Int.natCast_add, Int.natCast_add] at hG
  have HG := Lib.hid hG
  clear hG
  have HC0 := Lib.hid c0
  have HC1 := Lib.hid c1
  have HC2 := Lib.hid c2
  have H0 := Lib.hid h0
  have H1 := Lib.hid h1
  have H2 := Lib.hid h2
  have HBlt := Lib.hid HB
  clear c0 c1 c2
  have p0 : decide ((l0.length : Int) < 0) = false := by simp
  have p1 : decide ((l0.length : Int) + (l1.length : Int) < 0) = false := by simp; omega
  have p2 : decide ((l0.length : Int) + (l1.length : Int) + (l2.length : Int) < 0) = false := by simp; omega
  go_enter Tryd.func77, Tryd.ntmps77
  go_wp2
  refine wp_loop_rounds 4 ?_
  rw [rounds_succ]; go_wp2_with fail
  rw [rounds_succ]; go_wp2_with fail
  rw [rounds_succ]; go_wp2_with fail
  rw [rounds_succ]
  go_wp2_with (go_at_call 88; refine (HG.out).mono ?_; rintro e w1 ⟨v0, rfl, hv, hb, _⟩; have q0 := (hb.cell (p := ⟨B, 0, none⟩) HBlt.out).trans H0.out; have q1 := (hb.cell (p := ⟨B, 1, none⟩) HBlt.out).trans H1.out; have q2 := (hb.cell (p := ⟨B, 2, none⟩) HBlt.out).trans H2.out; have HB0 := Lib.hid hb; have HV0 := Lib.hid (show w1.ownsRow w.heap.size 51 2 v0 0 [] from hv); clear hv hb)
  refine wp_loop_rounds 4 ?_
  rw [rounds_succ]
  go_wp2_with (at_builtin; refine wpList_append_own_at _ rfl _ _ 53 rfl w.heap.size 51 i0 _ 2 24 Tryd.underlying53 hi0 hz0 hz1 hz2 rfl (by decide) v0 _ _ rfl HV0.out ⟨b0, o0, none⟩ l0.length k0 (Cs l0) rfl (Cs_length _) (HC0.out.below HB0.out hb0).flat (Cs_one _) (by unfold maxLen; omega) (by omega) (Nat.le_trans (Nat.le_refl _) HB0.out.size) ?_; intro v1 w2 hown' hgrow _ _; have hb' := HB0.out.grown hgrow HB0.out.size (fun g e => (World.ownsRow.lt HV0.out g e).1); have HB1 := Lib.hid hb'; have HV1 := Lib.hid hown'; have q0 := (hb'.cell (p := ⟨B, 0, none⟩) HBlt.out).trans H0.out; have q1 := (hb'.cell (p := ⟨B, 1, none⟩) HBlt.out).trans H1.out; have q2 := (hb'.cell (p := ⟨B, 2, none⟩) HBlt.out).trans H2.out; clear hb' hown' hgrow)
  rw [rounds_succ]
  go_wp2_with (at_builtin; refine wpList_append_own_at _ rfl _ _ 53 rfl w.heap.size 51 i0 _ 2 24 Tryd.underlying53 hi0 hz0 hz1 hz2 rfl (by decide) v1 _ _ rfl HV1.out ⟨b1, o1, none⟩ l1.length k1 (Cs l1) rfl (Cs_length _) (HC1.out.below HB1.out hb1).flat (Cs_one _) (by unfold maxLen; omega) (by omega) (Nat.le_trans (Nat.le_refl _) HB1.out.size) ?_; intro v2 w3 hown' hgrow _ _; have hb' := HB1.out.grown hgrow HB1.out.size (fun g e => (World.ownsRow.lt HV1.out g e).1); have HB2 := Lib.hid hb'; have HV2 := Lib.hid hown'; have q0 := (hb'.cell (p := ⟨B, 0, none⟩) HBlt.out).trans H0.out; have q1 := (hb'.cell (p := ⟨B, 1, none⟩) HBlt.out).trans H1.out; have q2 := (hb'.cell (p := ⟨B, 2, none⟩) HBlt.out).trans H2.out; clear hb' hown' hgrow)
  rw [rounds_succ]
  go_wp2_with (at_builtin; refine wpList_append_own_at _ rfl _ _ 53 rfl w.heap.size 51 i0 _ 2 24 Tryd.underlying53 hi0 hz0 hz1 hz2 rfl (by decide) v2 _ _ rfl HV2.out ⟨b2, o2, none⟩ l2.length k2 (Cs l2) rfl (Cs_length _) (HC2.out.below HB2.out hb2).flat (Cs_one _) (by unfold maxLen; omega) (by omega) (Nat.le_trans (Nat.le_refl _) HB2.out.size) ?_; intro v3 w4 hown' hgrow _ _; have hb' := HB2.out.grown hgrow HB2.out.size (fun g e => (World.ownsRow.lt HV2.out g e).1); have HB3 := Lib.hid hb'; have HV3 := Lib.hid hown'; have q0 := (hb'.cell (p := ⟨B, 0, none⟩) HBlt.out).trans H0.out; have q1 := (hb'.cell (p := ⟨B, 1, none⟩) HBlt.out).trans H1.out; have q2 := (hb'.cell (p := ⟨B, 2, none⟩) HBlt.out).trans H2.out; clear hb' hown' hgrow)
  rw [rounds_succ]
  go_wp2
  go_ret
  refine ⟨v3, rfl, ?_, HB3.out⟩
  have := HV3.out
  unfold OwnP
  simpa [Cs_append, Nat.add_assoc] using this
end Go.Proofs.YtiimofdbconlhaaDoor
