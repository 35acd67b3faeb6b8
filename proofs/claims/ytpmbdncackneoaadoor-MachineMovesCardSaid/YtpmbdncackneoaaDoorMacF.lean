/- A function ends. -/
import Derived.Test.YtpmbdncackneoaaDoorMacE
namespace Go.Proofs.YtpmbdncackneoaaDoor
open Go.RowKit HeaM Ma

theorem own_cut' {w : World} {base : Nat} {e : TypeId} {size cap n m : Nat} {o : Option Addr} {xs ys : List Value} (h : w.ownsRow base e size (.slice o n cap) n xs) (hm : m ≤ n) (hy : xs.take (m * size) = ys) : w.ownsRow base e size (.slice o m cap) m ys := by
  rcases h.2 with ⟨h3, h4⟩ | ⟨g, cap', cur, hv, _⟩
  · simp only [Value.slice.injEq] at h3
    obtain ⟨rfl, rfl, rfl⟩ := h3
    obtain rfl : m = 0 := by omega
    have : xs = [] := List.eq_nil_of_length_eq_zero (by simpa using h.1)
    subst this
    subst hy
    simpa using h
  · simp only [Value.slice.injEq, true_and] at hv
    obtain ⟨rfl, rfl⟩ := hv
    exact own_cut h hm hy
theorem leave_mem {C : Cx} {s : Ms} {w : World} {vfr vtr vout vdn v1 v2 : Value} {o : Option Addr} {b k : Nat} (h : RunF C w s vfr (.slice o s.stk.length k) vtr vout vdn v1 v2) (hb : b ≤ s.stk.length) :
    RunF C (w.setCell ⟨C.lo, 2, none⟩ (.slice o b k)) { s with stk := s.stk.drop (s.stk.length - b) } vfr (.slice o b k) vtr vout vdn v1 v2 := by
  have hl : (s.stk.drop (s.stk.length - b)).length = b := by rw [List.length_drop]; omega
  have hG := h.g.stack (stk' := s.stk.drop (s.stk.length - b)) (vst' := .slice o b k) (Kept.refl _ _) (by rw [hl]; exact own_cut' h.g.st hb (by rw [Nat.mul_one, stkW_drop])) (fun k hk => .inl (by cases o <;> exact hk)) (fun u hu => h.g.rstk u (List.mem_of_mem_drop hu))
  exact RunF.setR h.fit ⟨s, _, _, _, _, _, h.cell, rfl⟩ hG
theorem frames_mem {C : Cx} {s : Ms} {w : World} {vst vtr vout vdn v1 v2 : Value} {g n k b : Nat} (h : RunF C w s (.slice (some ⟨g, 0, none⟩) n k) vst vtr vout vdn v1 v2) (hn : s.frs.length = n) (hb : b ≤ n) :
    RunF C (w.setCell ⟨C.lo, 1, none⟩ (.slice (some ⟨g, 0, none⟩) b k)) { s with frs := s.frs.drop (n - b) } (.slice (some ⟨g, 0, none⟩) b k) vst vtr vout vdn v1 v2 := by
  subst hn
  have hl : (s.frs.drop (s.frs.length - b)).length = b := by rw [List.length_drop]; omega
  have hG := h.g.frames (frs' := s.frs.drop (s.frs.length - b)) (vfr' := .slice (some ⟨g, 0, none⟩) b k) (Kept.refl _ _) (by
    rw [hl]
    exact own_cut h.g.fr hb (by unfold CsFr; rw [← flat_take frC 4 (fun _ => rfl), List.take_reverse])) (fun u hu => h.g.rfrs u (List.mem_of_mem_drop hu))
  exact RunF.setR h.fit ⟨s, _, _, _, _, _, h.cell, rfl⟩ hG

set_option maxHeartbeats 2000000 in
set_option maxRecDepth 100000 in
theorem leave_t {C : Cx} {s s' : Ms} {v : V} {t : List V} {f : Fr} {fs : List Fr} {w : World} (h : RunE C w s) (hs : s.stk = v :: t) (hf : s.frs = f :: fs) (hn : s.stk.length ≤ 1000000000) (hfn : s.frs.length ≤ 1000000000) (hl : leave s = some (0, s')) :
    Calls Tryd.prog 63 #[.pointer (some ⟨C.lo, 0, none⟩)] w (VoidRun C s') := by
  have HP := Lib.hid (pop_t h hs hn)
  have hrv : Hid (Rep s.W s.F v) := by
    obtain ⟨_, _, _, _, _, _, _, h⟩ := h
    exact h.g.rstk v (by rw [hs]; exact List.mem_cons_self)
  clear h
  go_enter Tryd.func63, Tryd.ntmps63
  go_wp2_with fail
  refine HP.out.mono ?_
  rintro e w1 ⟨rfl, h⟩
  obtain ⟨vfr, vst, vtr, vout, vdn, v1, v2, h⟩ := h
  obtain ⟨g, cap, hvfr, hcap, hmax, hlg, hgl⟩ := own_some h.g.fr (by show 0 < s.frs.length; rw [hf]; simp)
  subst hvfr
  have hlen : s.frs.length = fs.length + 1 := by rw [hf]; rfl
  have h' := h
  simp only [hlen] at h' hmax hcap hfn
  obtain ⟨q0, q1, q2, q3, q4⟩ := h'.frame hf
  obtain ⟨c0, c1, c2, _⟩ := h'.cells
  have hni : (fs.length : Int) ≤ 1000000000 := by omega
  unfold maxLen at hmax
  have htl : t.length ≤ 1000000000 := by rw [hs] at hn; simp only [List.length_cons] at hn; omega
  have f2 := h'.free 2
  have hcells : ∀ W : World, W.heap = w1.heap → W.cell? ⟨C.lo, 2, none⟩ = some vst ∧ W.frozen? ⟨C.lo, 2, none⟩ = false ∧ W.cell? ⟨g, fs.length * 4 + 2, none⟩ = some (.int .i64 (f.base : Int)) := by
    intro W hW
    exact ⟨by rw [← c2]; simp [World.cell?, hW], by rw [← f2]; simp [World.frozen?, hW], by rw [← q2]; simp [World.cell?, hW]⟩
  have HT := Lib.hid (fun (W : World) (hW : W.heap = w1.heap) => top_t C.lo g fs.length cap W (by rw [← c1]; simp [World.cell?, hW]) (by omega))
  have H := Lib.hid h'
  clear h h'
  have hb : f.base ≤ t.length := by
    unfold leave at hl
    rw [hs, hf] at hl
    dsimp only at hl
    by_cases hb : f.base ≤ t.length
    · exact hb
    · rw [if_neg hb] at hl; cases hl
  have hbi : (f.base : Int) ≤ (t.length : Int) := by omega
  have hti : (t.length : Int) ≤ 1000000000 := by omega
  obtain ⟨o2, k2, hv2, hk1, hk2⟩ := own_slice H.out.g.st
  obtain rfl := hv2
  simp only at hk1
  unfold maxLen at hk2
  have hbk : f.base ≤ k2 := by omega
  go_wp2_with fail
  go_region_law ((go_simp; go_at_call 33; refine (HT.out w1.drew rfl).mono ?_; rintro e w' ⟨rfl, nq, rfl⟩; obtain ⟨y1, y2, y3⟩ := hcells (w1.drew.drewN nq) rfl))
  all_goals
    have h2 := leave_mem (b := f.base) (H.out.drewN (1 + nq)) hb
    generalize (w1.drewN (1 + nq)).setCell ⟨C.lo, 2, none⟩ (.slice o2 f.base k2) = w2 at *
    obtain ⟨z0, z1, z2, _⟩ := h2.cells
    have zf := h2.free 1
    have H2 := Lib.hid h2
    clear h2 HT hcells H
    go_wp2_with fail
    have e1 : IntKind.i64.wrap (fs.length : Int) = (fs.length : Int) := IntWalk.i64_in _ (by omega)
    have hbk2 : fs.length ≤ cap := by omega
    refine wp_region_still_tail 12 (by kernel_rfl) (by kernel_rfl) ?_
    simp only [List.take_succ_cons, List.take_zero, List.drop_succ_cons, List.drop_zero]
    repeat still_step
    refine wpStill_nil ?_
    change wpList _ _ _ _ _ w2.drew
    have h3 := frames_mem (b := fs.length) (H2.out.drewN 1) hlen (by omega)
    change RunF C (w2.drew.setCell _ _) _ _ _ _ _ _ _ _ at h3
    have z0 : w2.drew.cell? ⟨C.lo, 1, none⟩ = some (.slice (some ⟨g, 0, none⟩) (fs.length + 1) cap) := z1
    have zf : w2.drew.frozen? ⟨C.lo, 1, none⟩ = false := zf
    obtain ⟨_, _, _, _, _, _, _, _, _, _, z10⟩ := (H2.out.drewN 1).cells
    have z10 : w2.drew.cell? ⟨C.lo, 10, none⟩ = some (.int .u64 (s.result : Int)) := z10
    have zf10 : w2.drew.frozen? ⟨C.lo, 10, none⟩ = false := (H2.out.drewN 1).free 10
    clear z1 z2 H2
    generalize w2.drew = w3 at *
    have H3 := Lib.hid h3
    clear h3
    by_cases hfs : fs = []
    · subst hfs
      simp only [leave, hs, hf, if_pos hb, ok, Option.some.injEq, Prod.mk.injEq, true_and] at hl
      subst hl
      have h4 := RunF.setR (j := 10) (u := .int .u64 (v.word : Int)) (s := { s with stk := t.drop (t.length - f.base), frs := [], result := v.word }) H3.out.fit ⟨_, _, _, _, _, _, H3.out.cell, rfl⟩ (by
        have hG := H3.out.g
        have e : s.frs.drop (([] : List Fr).length + 1 - ([] : List Fr).length) = [] := by rw [hf]; rfl
        simp only [e] at hG
        exact { hG with })
      have H4 := Lib.hid h4
      clear h4 H3
      generalize v.word = x at *
      go_wp2_with fail
      refine bodyPost_ret (results_none rfl _ _ _) rfl ?_
      exact ⟨rfl, _, _, _, _, _, _, _, H4.out⟩
    · have hn0 : fs.length ≠ 0 := fun e => hfs (List.eq_nil_of_length_eq_zero e)
      have hn1 : ((fs.length : Int) == 0) = false := by rw [beq_eq_false_iff_ne]; omega
      have hs' : s' = push { s with stk := t.drop (t.length - f.base), frs := fs } v := by
        obtain ⟨f2, fs2, hfs2⟩ := List.exists_cons_of_ne_nil hfs
        simp only [leave, hs, hf, if_pos hb, ok, hfs2, Option.some.injEq, Prod.mk.injEq, true_and] at hl
        rw [← hl, hfs2]
        rfl
      have h4 := push_t (v := v) ⟨_, _, _, _, _, _, _, H3.out⟩ hrv.out (Lib.hid rfl) (by show (t.drop (t.length - f.base)).length ≤ _; rw [List.length_drop]; omega)
      have e : s.frs.drop (fs.length + 1 - fs.length) = fs := by rw [hf, Nat.add_sub_cancel_left]; rfl
      simp only [e] at h4
      have HS := Lib.hid hs'
      have H4 := Lib.hid h4
      clear h4 H3 e hs' hfs
      generalize v.word = x at *
      generalize fs.length = n at *
      go_wp2_with fail
      refine H4.out.mono ?_
      rintro e w' ⟨rfl, hw⟩
      have HW := Lib.hid hw
      clear hw
      go_wp2
      refine bodyPost_ret (results_none rfl _ _ _) rfl ?_
      exact ⟨rfl, by rw [HS.out]; exact HW.out⟩
end Go.Proofs.YtpmbdncackneoaaDoor
