/- What a save comes to, in the plain: done, or cut by the power's failing. -/
import Derived.Test.YtonahfpnlaolpaaStoK
namespace Go.Proofs.Ytonahfpnlaolpaa
open Go.RowKit OctM

theorem cnt_cases (d : Dr) (hoff : d.off = false) :
    ((cnt d).1 = 0 ∧ (cnt d).2.off = false ∨ (cnt d).1 = 12 ∧ (cnt d).2.off = true) ∧ (d.fuse = 0 → (cnt d).1 = 0 ∧ (cnt d).2.fuse = 0) ∧ (cnt d).2.n = d.n ∧ (cnt d).2.tr = d.tr ∧ (cnt d).2.most = d.most ∧ (cnt d).2.fuse ≤ d.fuse := by
  unfold cnt
  by_cases h0 : d.fuse = 0
  · rw [if_pos h0]
    exact ⟨.inl ⟨rfl, hoff⟩, fun _ => ⟨rfl, h0⟩, rfl, rfl, rfl, Nat.le_refl _⟩
  · rw [if_neg h0]
    by_cases h1 : 1 < d.fuse
    · rw [if_pos h1]
      exact ⟨.inl ⟨rfl, hoff⟩, fun h => absurd h h0, rfl, rfl, rfl, by simp⟩
    · rw [if_neg h1]
      exact ⟨.inr ⟨rfl, rfl⟩, fun h => absurd h h0, rfl, rfl, rfl, by simp⟩

/-- While a save is written: k pieces are there, or the power failed. -/
structure WG (d : Dr) (sp : Nat) (q : List UInt8) (m : Nat) (r : Int × Dr) : Prop where
  n : r.2.n = d.n
  most : r.2.most = d.most
  oth : ∀ j, j ≠ sp → r.2.tr j = d.tr j
  dur : (r.2.tr sp).dur = (d.tr sp).dur
  wr : (r.2.tr sp).wr = true
  now : (r.2.tr sp).now <+: q
  code : (r.1 = 0 ∧ r.2.off = false ∧ (r.2.tr sp).now = q.take m) ∨ (r.1 = 12 ∧ r.2.off = true)
  fuse : d.fuse = 0 → r.1 = 0 ∧ r.2.fuse = 0
  fle : r.2.fuse ≤ d.fuse

theorem wg_write (d : Dr) (sp : Nat) (q : List UInt8) (hn : sp < d.n) (hoff : d.off = false) : WG d sp q 0 (writeS d sp []) := by
  have hc : chk d sp = 0 := by unfold chk; rw [if_neg (by omega), if_neg (by rw [hoff]; simp)]
  have e : writeS d sp [] = cnt (d.set sp ⟨[], (d.tr sp).dur, true⟩) := by
    unfold writeS
    rw [if_neg (by rw [hc]; simp), if_neg (by simp)]
    rfl
  rw [e]
  obtain ⟨h1, h2, h3, h4, h5, h6⟩ := cnt_cases (d.set sp ⟨[], (d.tr sp).dur, true⟩) hoff
  have ht : (cnt (d.set sp ⟨[], (d.tr sp).dur, true⟩)).2.tr sp = ⟨[], (d.tr sp).dur, true⟩ := by rw [h4]; exact upd_same _ _ _
  refine ⟨h3, h5, fun j hj => by rw [h4]; exact upd_other _ _ hj, by rw [ht], by rw [ht], by rw [ht]; exact List.nil_prefix, ?_, h2, h6⟩
  rcases h1 with h1 | h1
  · exact .inl ⟨h1.1, h1.2, by rw [ht]; simp⟩
  · exact .inr h1

theorem wg_step (d : Dr) (sp : Nat) (q : List UInt8) (k : Nat) (r : Int × Dr) (hn : sp < d.n) (hm : q.length ≤ d.most) (h : WG d sp q (500 * k) r) : WG d sp q (500 * (k + 1)) (wrN sp q r k) := by
  unfold wrN
  by_cases h0 : r.1 = 0
  · rw [if_pos h0]
    obtain ⟨c1, c2, c3⟩ : r.1 = 0 ∧ r.2.off = false ∧ (r.2.tr sp).now = q.take (500 * k) := by
      rcases h.code with hc | hc
      · exact hc
      · rw [hc.1] at h0; cases h0
    have hc : chk r.2 sp = 0 := by unfold chk; rw [if_neg (by rw [h.n]; omega), if_neg (by rw [c2]; simp)]
    have hcat : q.take (500 * k) ++ pcS q k = q.take (500 * (k + 1)) := by
      unfold pcS
      rw [show 500 * (k + 1) = 500 * k + 500 by omega, List.take_add]
    have e : appS r.2 sp (pcS q k) = cnt (r.2.set sp ⟨q.take (500 * (k + 1)), (d.tr sp).dur, true⟩) := by
      unfold appS
      have hlen : ¬ r.2.most < ((r.2.tr (sp : Int).toNat).now).length + (pcS q k).length := by
        rw [Int.toNat_natCast, c3, h.most, ← List.length_append, hcat]
        simp
        omega
      rw [if_neg (by rw [hc]; simp), if_neg hlen, Int.toNat_natCast, c3, hcat, h.dur, h.wr]
    rw [e]
    obtain ⟨h1, h2, h3, h4, h5, h6⟩ := cnt_cases (r.2.set sp ⟨q.take (500 * (k + 1)), (d.tr sp).dur, true⟩) c2
    have ht : (cnt (r.2.set sp ⟨q.take (500 * (k + 1)), (d.tr sp).dur, true⟩)).2.tr sp = ⟨q.take (500 * (k + 1)), (d.tr sp).dur, true⟩ := by rw [h4]; exact upd_same _ _ _
    refine ⟨h3.trans h.n, h5.trans h.most, fun j hj => by rw [h4]; exact (upd_other _ _ hj).trans (h.oth j hj), by rw [ht], by rw [ht], by rw [ht]; exact List.take_prefix _ _, ?_, fun hf => h2 (h.fuse hf).2, Nat.le_trans h6 h.fle⟩
    rcases h1 with h1 | h1
    · exact .inl ⟨h1.1, h1.2, by rw [ht]⟩
    · exact .inr h1
  · rw [if_neg h0]
    refine ⟨h.n, h.most, h.oth, h.dur, h.wr, h.now, ?_, h.fuse, h.fle⟩
    rcases h.code with hc | hc
    · exact absurd hc.1 h0
    · exact .inr hc

theorem wg_all (d : Dr) (sp : Nat) (q : List UInt8) (hn : sp < d.n) (hoff : d.off = false) (hm : q.length ≤ d.most) (k : Nat) : WG d sp q (500 * k) (wrL d sp q (List.range k)) := by
  induction k with
  | zero => exact wg_write d sp q hn hoff
  | succ k ih =>
    rw [List.range_succ, wrL_snoc]
    exact wg_step d sp q k _ hn hm ih

/-- A save of bytes: done; or the power failed. -/
inductive WZ (d : Dr) (sp : Nat) (q : List UInt8) (r : Int × Dr) : Prop
  | done : r.1 = 0 → r.2.off = false → r.2.n = d.n → r.2.most = d.most → (∀ j, j ≠ sp → r.2.tr j = d.tr j) → r.2.tr sp = ⟨q, q, false⟩ → (d.fuse = 0 → r.2.fuse = 0) → r.2.fuse ≤ d.fuse → WZ d sp q r
  | cut : r.1 = 12 → r.2.off = true → r.2.n = d.n → r.2.most = d.most → (∀ j, j ≠ sp → r.2.tr j = d.tr j) → (r.2.tr sp).dur = (d.tr sp).dur → (r.2.tr sp).wr = true → (r.2.tr sp).now <+: q → d.fuse ≠ 0 → r.2.fuse ≤ d.fuse → WZ d sp q r

theorem wrS_cases (d : Dr) (sp : Nat) (q : List UInt8) (hn : sp < d.n) (hoff : d.off = false) (hm : q.length ≤ d.most) : WZ d sp q (wrS d sp q) := by
  have h := wg_all d sp q hn hoff hm (pcs q.length)
  unfold wrS wrZ
  generalize wrL d sp q (List.range (pcs q.length)) = r at *
  have hall : q.take (500 * pcs q.length) = q := List.take_of_length_le (by unfold pcs; omega)
  by_cases h0 : r.1 = 0
  · rw [if_pos h0]
    obtain ⟨c1, c2, c3⟩ : r.1 = 0 ∧ r.2.off = false ∧ (r.2.tr sp).now = q.take (500 * pcs q.length) := by
      rcases h.code with hc | hc
      · exact hc
      · rw [hc.1] at h0; cases h0
    rw [hall] at c3
    have hc : chk r.2 sp = 0 := by unfold chk; rw [if_neg (by rw [h.n]; omega), if_neg (by rw [c2]; simp)]
    obtain ⟨h1, h2, h3, h4, h5, h6⟩ := cnt_cases r.2 c2
    unfold syncS
    rw [if_neg (by rw [hc]; simp)]
    rcases h1 with h1 | h1
    · rw [if_pos h1.1, Int.toNat_natCast, c3]
      refine .done rfl h1.2 (h3.trans h.n) (h5.trans h.most) (fun j hj => ?_) (upd_same _ _ _) (fun hf => (h2 (h.fuse hf).2).2) (Nat.le_trans h6 h.fle)
      show upd (cnt r.2).2.tr sp _ j = _
      rw [upd_other _ _ hj, h4, h.oth j hj]
    · rw [if_neg (by rw [h1.1]; simp)]
      refine .cut h1.1 h1.2 (h3.trans h.n) (h5.trans h.most) (fun j hj => by rw [h4]; exact h.oth j hj) (by rw [h4]; exact h.dur) (by rw [h4]; exact h.wr) (by rw [h4]; exact h.now) (fun hf => ?_) (Nat.le_trans h6 h.fle)
      have := (h2 (h.fuse hf).2).1
      rw [h1.1] at this
      cases this
  · rw [if_neg h0]
    rcases h.code with hc | hc
    · exact absurd hc.1 h0
    · exact .cut hc.1 hc.2 h.n h.most h.oth h.dur h.wr h.now (fun hf => h0 (h.fuse hf).1) h.fle

/-- A store that is at rest: what counts, and the other track. -/
structure SG (most : Nat) (s : Ss) : Prop where
  n : s.d.n = 3
  most : s.d.most = most
  off : s.d.off = false
  ns : (s.now = 1 ∧ s.sp = 2) ∨ (s.now = 2 ∧ s.sp = 1)
  set : ∀ i, i < 3 → (s.d.tr i).wr = false ∧ (s.d.tr i).dur = (s.d.tr i).now
  rd : rdS (s.d.tr s.now).now = s.sn
  less : (rdS (s.d.tr s.sp).now).ix < s.sn.ix ∨ (s.now = 1 ∧ (rdS (s.d.tr s.sp).now).ix = 0 ∧ s.sn.ix = 0)
  fits : Fits s.sn

theorem SG.op {most : Nat} {s : Ss} (h : SG most s) : opened s.d = s := by
  obtain ⟨d, now, sp, sn⟩ := s
  have h1 := h.rd
  have h2 := h.less
  have h3 := h.ns
  dsimp only at h1 h2 h3
  unfold opened
  dsimp only
  rcases h3 with ⟨rfl, rfl⟩ | ⟨rfl, rfl⟩
  · rw [h1, if_neg (by omega)]
  · rw [h1, if_pos (by omega)]

theorem sg_new (most : Nat) : SG most ⟨new 3 most, 1, 2, zs⟩ where
  n := rfl
  most := rfl
  off := rfl
  ns := .inl ⟨rfl, rfl⟩
  set i _ := ⟨rfl, rfl⟩
  rd := rdS_nil
  less := .inr ⟨rfl, by show (rdS []).ix = 0; rw [rdS_nil]; rfl, rfl⟩
  fits := zs_fits

/-- A save that is refused, or done, or cut. -/
inductive SZ (most : Nat) (s : Ss) (n : Sn) (r : Int × Ss) : Prop
  | stale : n.ix ≤ s.sn.ix → r = (16, s) → SZ most s n r
  | full : ¬ n.ix ≤ s.sn.ix → most < (snB n).length → r = (13, s) → SZ most s n r
  | done : ¬ n.ix ≤ s.sn.ix → ¬ most < (snB n).length → r.1 = 0 → SG most r.2 → r.2.sn = n → (s.d.fuse = 0 → r.2.d.fuse = 0) → r.2.d.fuse ≤ s.d.fuse → SZ most s n r
  | cut : ¬ n.ix ≤ s.sn.ix → ¬ most < (snB n).length → r.1 = 12 → s.d.fuse ≠ 0 → r.2.d.n = 3 → r.2.d.most = most → (∀ cuts, SG most (opened (restartS r.2.d cuts)) ∧ ((opened (restartS r.2.d cuts)).sn = s.sn ∨ (opened (restartS r.2.d cuts)).sn = n)) → SZ most s n r

theorem restart_tr (d : Dr) (cuts : List Int) (j : Nat) (hj : j < d.n) : (restartS d cuts).tr j = loseT (d.tr j) (cuts.getD j (-1)) := if_pos hj

/-- A track at rest stays as it is. -/
theorem lose_set (t : Tk) (c : Int) (h1 : t.wr = false) (h2 : t.dur = t.now) : loseT t c = t := by
  obtain ⟨now, dur, wr⟩ := t
  dsimp only at h1 h2
  subst h1 h2
  unfold loseT left
  simp

theorem lose_rest (t : Tk) (c : Int) : (loseT t c).wr = false ∧ (loseT t c).dur = (loseT t c).now := by
  exact ⟨rfl, rfl⟩

theorem lose_wr (t : Tk) (c : Int) (h : t.wr = true) : (loseT t c).now = t.dur ∨ (loseT t c).now <+: t.now := by
  unfold loseT left
  dsimp only
  rw [if_neg (by rw [h]; simp)]
  split
  · exact .inl rfl
  · exact .inr (List.take_prefix _ _)

/-- At rest, a fall changes nothing. -/
theorem SG.restart {most : Nat} {s : Ss} (h : SG most s) (cuts : List Int) : (restartS s.d cuts).tr 1 = s.d.tr 1 ∧ (restartS s.d cuts).tr 2 = s.d.tr 2 ∧ opened (restartS s.d cuts) = ⟨restartS s.d cuts, s.now, s.sp, s.sn⟩ ∧ SG most ⟨restartS s.d cuts, s.now, s.sp, s.sn⟩ := by
  have h0 := h.n
  have e : ∀ i, i < 3 → (restartS s.d cuts).tr i = s.d.tr i := fun i hi => by
    rw [restart_tr _ _ _ (by omega)]
    exact lose_set _ _ (h.set i hi).1 (h.set i hi).2
  have e1 : (restartS s.d cuts).tr s.now = s.d.tr s.now := e _ (by rcases h.ns with h | h <;> omega)
  have e2 : (restartS s.d cuts).tr s.sp = s.d.tr s.sp := e _ (by rcases h.ns with h | h <;> omega)
  have g : SG most ⟨restartS s.d cuts, s.now, s.sp, s.sn⟩ := ⟨h.n, h.most, rfl, h.ns, fun i hi => by show ((restartS s.d cuts).tr i).wr = false ∧ _; rw [e i hi]; exact h.set i hi, by show rdS ((restartS s.d cuts).tr s.now).now = _; rw [e1]; exact h.rd, by show (rdS ((restartS s.d cuts).tr s.sp).now).ix < _ ∨ _; rw [e2]; exact h.less, h.fits⟩
  exact ⟨e 1 (by omega), e 2 (by omega), g.op, g⟩

theorem save_cases (most : Nat) (s : Ss) (n : Sn) (h : SG most s) (hm : most ≤ 1048576) (h1 : n.ix < 18446744073709551616) (h2 : n.tm < 18446744073709551616) : SZ most s n (saveS s n) := by
  unfold saveS
  by_cases hi : n.ix ≤ s.sn.ix
  · rw [if_pos hi]; exact .stale hi rfl
  rw [if_neg hi, h.most]
  by_cases hf : most < (snB n).length
  · rw [if_pos hf]; exact .full hi hf rfl
  rw [if_neg hf]
  have hfits : Fits n := ⟨h1, h2, by have := (snB_bound n).1; omega⟩
  have hsp : s.sp < s.d.n := by rw [h.n]; rcases h.ns with h | h <;> omega
  have hne : s.now ≠ s.sp := by rcases h.ns with h | h <;> omega
  have hc := wrS_cases s.d s.sp (snB n) hsp h.off (by rw [h.most]; omega)
  generalize wrS s.d s.sp (snB n) = r at *
  have hrd := h.rd
  have hless := h.less
  cases hc with
  | done c0 c1 c2 c3 c4 c5 c6 c7 =>
    rw [if_neg (by rw [c0]; simp)]
    refine .done hi hf rfl ⟨c2.trans h.n, c3.trans h.most, c1, ?_, fun i hi => ?_, ?_, ?_, hfits⟩ rfl c6 c7
    · rcases h.ns with h | h
      · exact .inr ⟨h.2, h.1⟩
      · exact .inl ⟨h.2, h.1⟩
    · show (r.2.tr i).wr = false ∧ (r.2.tr i).dur = (r.2.tr i).now
      by_cases e : i = s.sp
      · rw [e, c5]; exact ⟨rfl, rfl⟩
      · rw [c4 i e]; exact h.set i hi
    · show rdS (r.2.tr s.sp).now = n
      rw [c5]
      exact rdS_snB n hfits
    · show (rdS (r.2.tr s.now).now).ix < n.ix ∨ _
      rw [c4 _ hne, hrd]
      exact .inl (by omega)
  | cut c0 c1 c2 c3 c4 c5 c6 c7 c8 c9 =>
    rw [if_pos (by rw [c0]; simp)]
    refine .cut hi hf c0 c8 (c2.trans h.n) (c3.trans h.most) fun cuts => ?_
    show SG most (opened (restartS r.2 cuts)) ∧ _
    have hn3 : r.2.n = 3 := c2.trans h.n
    have ht : ∀ i, i < 3 → (restartS r.2 cuts).tr i = loseT (r.2.tr i) (cuts.getD i (-1)) := fun i hi => restart_tr _ _ _ (by omega)
    have hset : ∀ i, i < 3 → ((restartS r.2 cuts).tr i).wr = false ∧ ((restartS r.2 cuts).tr i).dur = ((restartS r.2 cuts).tr i).now := fun i hi => by rw [ht i hi]; exact lose_rest _ _
    have hnow3 : s.now < 3 := by rcases h.ns with h | h <;> omega
    have hsp3 : s.sp < 3 := by rcases h.ns with h | h <;> omega
    have hnow : ((restartS r.2 cuts).tr s.now).now = (s.d.tr s.now).now := by
      rw [ht _ hnow3, c4 _ hne, lose_set _ _ (h.set _ hnow3).1 (h.set _ hnow3).2]
    have hspv : rdS ((restartS r.2 cuts).tr s.sp).now = rdS (s.d.tr s.sp).now ∨ rdS ((restartS r.2 cuts).tr s.sp).now = n ∨ rdS ((restartS r.2 cuts).tr s.sp).now = zs := by
      rw [ht _ hsp3]
      rcases lose_wr _ (cuts.getD s.sp (-1)) c6 with e | e
      · rw [e, c5, (h.set _ hsp3).2]; exact .inl rfl
      · exact .inr (rdS_prefix n _ hfits (e.trans c7))
    have old : (rdS ((restartS r.2 cuts).tr s.sp).now).ix < s.sn.ix ∨ (s.now = 1 ∧ (rdS ((restartS r.2 cuts).tr s.sp).now).ix = 0 ∧ s.sn.ix = 0) → SG most ⟨restartS r.2 cuts, s.now, s.sp, s.sn⟩ := fun hl =>
      ⟨hn3, c3.trans h.most, rfl, h.ns, hset, by show rdS ((restartS r.2 cuts).tr s.now).now = _; rw [hnow]; exact hrd, hl, h.fits⟩
    rcases hspv with e | e | e
    · have g := old (by rw [e]; exact hless)
      have := g.op
      dsimp only at this
      rw [this]
      exact ⟨g, .inl rfl⟩
    · have g : SG most ⟨restartS r.2 cuts, s.sp, s.now, n⟩ := ⟨hn3, c3.trans h.most, rfl, by rcases h.ns with h | h; exact .inr ⟨h.2, h.1⟩; exact .inl ⟨h.2, h.1⟩, hset, e, by show (rdS ((restartS r.2 cuts).tr s.now).now).ix < n.ix ∨ _; rw [hnow, hrd]; exact .inl (by omega), hfits⟩
      have := g.op
      dsimp only at this
      rw [this]
      exact ⟨g, .inr rfl⟩
    · have g := old (by
        rw [e]
        show 0 < s.sn.ix ∨ _
        by_cases h0 : s.sn.ix = 0
        · rcases hless with hl | hl
          · omega
          · exact .inr ⟨hl.1, rfl, h0⟩
        · exact .inl (by omega))
      have := g.op
      dsimp only at this
      rw [this]
      exact ⟨g, .inl rfl⟩

end Go.Proofs.Ytonahfpnlaolpaa
