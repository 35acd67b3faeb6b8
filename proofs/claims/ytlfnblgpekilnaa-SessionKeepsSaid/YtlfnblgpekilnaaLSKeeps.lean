/- SessionKeeps. -/
import Derived.Test.YtlfnblgpekilnaaSesE
namespace Go.Proofs.Ytlfnblgpekilnaa
open Go.RowKit OctM

theorem TQ.fin {S : Nat → Prop} {w : World} {b base : Nat} {v : Value} {l : List Se} (h : TQ S w b base v l) : TQ (fun k => S k ∧ k < w.heap.size) w b base v l := by
  obtain ⟨ps, h1, h2, h3⟩ := h
  exact ⟨ps, h1, h2, fun p hp g hg => ⟨h3 p hp g hg, ((h2.own.cells p hp).lt g hg).2⟩⟩
theorem TQ.beside {S : Nat → Prop} {w : World} {b base g : Nat} {v : Value} {l : List Se} {cs : Array Value} {fr : Nat × Nat} (h : TQ S w b base v l) (hg : w.heap[g]? = some (.cells cs 5 fr)) (hn : ¬ S g) (i : Nat) (u : Value) : TQ S (w.setCell ⟨g, i, none⟩ u) b base v l := by
  obtain ⟨ps, h1, h2, h3⟩ := h
  have hk : Kept (fun k => k = g) w (w.setCell ⟨g, i, none⟩ u) := (Kept.refl (fun k => k = g) w).setCell (p := ⟨g, i, none⟩) (.inl rfl) _
  have hb : b ≠ g := by
    rintro rfl
    have h5 := h2.cell
    rw [hg] at h5
    injection h5 with h5
    injection h5 with _ h5 _
    exact absurd h5 (by decide)
  refine ⟨ps, h1, ⟨(hk.block b (lt_of_block h2.cell) hb).trans h2.cell, h2.own.kept hk (fun k hk2 e => ?_) (fun p hp k hk2 e => ?_)⟩, h3⟩
  · exact own_ne h2.own.row hg (by decide) (e ▸ hk2)
  · exact hn (e ▸ h3 p hp k hk2)
theorem dup {w : World} {s : Value} {k : List UInt8} (hs : Rd w s k) (h0 : 0 < k.length) (hb : k.length ≤ 1000000) (ty : TypeId) :
    ∃ g cap w', (Builtin.append_ #[31, 31] ty #[.slice none 0 0, s]).run Try.prog w = .ok (.slice (some ⟨g, 0, none⟩) k.length cap) w' ∧ Own w' w.heap.size (.slice (some ⟨g, 0, none⟩) k.length cap) k ∧ Below w.heap.size w w' := by
  obtain ⟨i0, hi0, hz0, hz1, hz2⟩ := info_parts u8info
  rcases hs with ⟨rfl, rfl⟩ | ⟨a, c, rfl, hn, hm, hc⟩
  · simp at h0
  · obtain ⟨v', w', hr, h2, h3, _, h5⟩ := run_append_own_at (P := Try.prog) w w.heap.size 31 ty 5 i0 (.int .u8 0) 1 1 Try.underlying31 hi0 hz0 hz1 hz2 rfl (by decide) (.slice none 0 0) 0 [] (World.ownsRow_nil _ _ _ _) a k.length c (Bs k)
      (by rw [Bs_length, Nat.mul_one]) (fun j u hj => by
        obtain ⟨b, hb, rfl⟩ : ∃ b, k[j]? = some b ∧ B b = u := by simpa [Bs] using hj
        exact hc j b hb) (Bs_one k) (by unfold maxLen; omega) (by omega) (Nat.le_refl _)
    rw [Nat.zero_add, List.nil_append] at h2
    obtain ⟨g, cap, rfl, _, _⟩ := h2.form h0
    exact ⟨g, cap, w', hr, h2, (Below.refl _ w).grown h3 (Nat.le_refl _) (by intro k hk; cases hk)⟩
theorem own_u8 {w : World} {base g n c : Nat} {l : List UInt8} (h : Own w base (.slice (some ⟨g, 0, none⟩) n c) l) : base ≤ g ∧ g < w.heap.size ∧ (∃ cs, w.heap[g]? = some (.cells cs 5 (0, 0))) ∧ (∀ i, w.frozen? ⟨g, i, none⟩ = false) ∧ ∀ j u, l[j]? = some u → w.cell? ⟨g, j, none⟩ = some (B u) := by
  obtain ⟨a1, a2, a3⟩ := own_lit h
  refine ⟨(h.lt g rfl).1, a1, ?_, a2, fun j u hu => a3 j _ (by simp [Bs, hu])⟩
  rcases h.2 with ⟨hv, _⟩ | ⟨g', c', cur, hv, hb, hg, _⟩
  · cases hv
  · injection hv with hv _ _
    injection hv with hv
    injection hv with hv _ _
    subst hv
    exact ⟨_, hg⟩

theorem kput (l : List UInt8) : putS [] ⟨1, 1, l⟩ = (0, [⟨1, 1, l⟩]) := by rfl
theorem kask (l : List UInt8) : askS [⟨1, 1, l⟩] 1 1 = (0, l) := by rfl

set_option maxHeartbeats 8000000 in
set_option maxRecDepth 100000 in
theorem skeeps_walk (v : Value) (l : List UInt8) (w : World) (h : Rd w v l) (_hl : l.length ≤ 140737488351232) :
    Calls Try.prog 7 #[v] w fun e w' => e = .returned (.bool true) ∧ Below w.heap.size w w' := by
  have HA := Lib.hid (fun W => sawake W)
  obtain ⟨o, c, rfl⟩ : ∃ o c, v = .slice o l.length c := by
    rcases h with ⟨rfl, rfl⟩ | ⟨_, c, rfl, _⟩ <;> exact ⟨_, _, rfl⟩
  have HR := Lib.hid h
  clear h
  by_cases hlen : 0 < l.length ∧ l.length ≤ 1000
  · obtain ⟨h0, h1⟩ := hlen
    have i0 : ((l.length : Int) == 0) = false := beq_eq_false_iff_ne.2 (by omega)
    have i1 : ¬ (1000 : Int) < (l.length : Int) := by omega
    obtain ⟨x0, hx0⟩ : ∃ x0, l[0]? = some x0 := ⟨l[0], List.getElem?_eq_getElem h0⟩
    have HX := Lib.hid hx0
    have h0i : (0 : Int) < (l.length : Int) := by omega
    clear hx0
    go_enter Try.func7, Try.ntmps7
    go_wp2_with fail
    refine (HA.out _).mono ?_
    rintro e w1 ⟨rfl, hb1⟩
    have HB1 := Lib.hid hb1
    have H0 := Lib.hid (tnew w1)
    have HT := Lib.hid (tb_new w w1 hb1)
    clear hb1
    go_wp2_with fail
    refine H0.out.mono ?_
    rintro e w2 ⟨rfl, hw2⟩
    have HC2 := Lib.hid (show w2.heap[w1.heap.size]? = some (.cells #[.slice none 0 0] 55 (0, 0)) by rw [← hw2]; exact heap_alloc_new _ _)
    rw [hw2] at HT
    have HB2 := Lib.hid HT.out.bel
    have hs2 : w1.heap.size < w2.heap.size := lt_of_block HC2.out
    have HS1 := Lib.hid HB1.out.size
    clear hw2 H0 HT HB1
    generalize w1.heap.size = b at *
    obtain ⟨gq, cap, w3, hrun, ho3, hb3⟩ := dup (HR.out.below HB2.out) h0 (by omega) 31
    obtain ⟨q1, q2, ⟨qc, q3⟩, q4, q5⟩ := own_u8 ho3
    have HB3 := Lib.hid (HB2.out.trans (hb3.mono HB2.out.size))
    have hta : TQ (fun k => w3.heap.size ≤ k) w3 b w.heap.size (.slice none 0 0) [] := ⟨[], rfl, ⟨(hb3.block b hs2).trans HC2.out, ownS_nil _ _ _⟩, fun _ h => (List.not_mem_nil h).elim⟩
    have HP := Lib.hid (put_any 1 1 l (.slice (some ⟨gq, 0, none⟩) l.length cap) w3 (fun _ h => h) hta HB3.out.size (by decide) ris_nil (fun _ h => (List.not_mem_nil h).elim)
      (fun w' hk => rd_block (Rd.of_own ho3) (fun g hg => hk.block g (by have : gq = g := by simpa [Value.ownBlock] using hg
                                                                         omega) (by
        have hgq : gq = g := by simpa [Value.ownBlock] using hg
        rintro (rfl | h)
        · omega
        · cases h))) (by omega))
    rw [kput] at HP
    have HO3 := Lib.hid ho3
    have HRUN := Lib.hid hrun
    have HG := Lib.hid (And.intro q1 q2)
    clear ho3 hb3 hta hrun q1 q2 q3 q4 q5
    go_wp2_with (at_builtin; refine wpList_append_known rfl _ _ _ _ rfl _ _ _ rfl rfl HRUN.out ?_)
    refine HP.out.mono ?_
    rintro e w4 ⟨rfl, v4, ht4, -, hk4⟩
    have hq2 : ∀ k, two b (.slice none 0 0) k → k = b := by
      rintro k (rfl | h)
      · rfl
      · cases h
    have HB4 := Lib.hid (HB3.out.trans (hk4.below HB3.out.size (fun k hk => by rw [hq2 k hk]; exact HS1.out)))
    have ho4 := own_kept HO3.out hk4 (fun k hk h => by
      have h1 : gq = k := by simpa [Value.ownBlock] using hk
      have h2 := hq2 k h
      have := HG.out.1
      omega)
    obtain ⟨-, q2, ⟨qc, q3⟩, q4, q5⟩ := own_u8 ho4
    have c0 := q5 0 x0 HX.out
    have f0 := q4 0
    have hnS : ¬ (w3.heap.size ≤ gq ∧ gq < w4.heap.size) := fun h => by have := HG.out.2; omega
    have hTX := fun X : Value => ht4.fin.beside q3 hnS 0 X
    have HTX := Lib.hid hTX
    have HB4X := Lib.hid (fun X : Value => HB4.out.setCell (p := ⟨gq, 0, none⟩) (by show w.heap.size ≤ gq; have := HG.out.1; have := HB2.out.size; omega) X)
    unfold B at c0
    clear ht4 hk4 ho4 q2 q3 q4 q5 hTX HP hnS
    go_wp2_with fail
    generalize hw5 : w4.setCell ⟨gq, 0, none⟩ (.int .u8 (bits .xor .u8 (x0.toNat : Int) 1)) = w5 at *
    have HT5 : Hid (TQ (fun k => w3.heap.size ≤ k ∧ k < w4.heap.size) w5 b w.heap.size v4 [⟨1, 1, l⟩]) := Lib.hid (by rw [← hw5]; exact HTX.out _)
    have HB5 : Hid (Below w.heap.size w w5) := Lib.hid (by rw [← hw5]; exact HB4X.out _)
    have hs5 : w4.heap.size = w5.heap.size := by rw [← hw5]; simp [World.setCell]
    clear hw5 HTX HB4X c0 f0 HB4
    have HA5 := Lib.hid (ask_any 1 1 w5 HT5.out.ta (by simp) (ris_one _) (by intro s hs; simp at hs; subst hs; show l.length ≤ 1000000; omega))
    rw [kask] at HA5
    refine HA5.out.mono ?_
    rintro e w6 ⟨v6, rfl, ho6, hb6⟩
    obtain ⟨g6, c6, rfl, -⟩ := own_form' ho6 h0
    obtain ⟨q1, q2, ⟨qc6, q3⟩, q4, q5⟩ := own_u8 ho6
    have HB6 := Lib.hid (HB5.out.trans (hb6.mono HB5.out.size))
    have ht6 := HT5.out.below hb6
    have t1 : (convert 31 9 (.slice (some ⟨g6, 0, none⟩) l.length c6)).run Try.prog w6 = .ok (.string ⟨l.toArray⟩) w6 := textS ho6
    have t2 : (convert 31 9 (.slice o l.length c)).run Try.prog w6 = .ok (.string ⟨l.toArray⟩) w6 := toStr (HR.out.below HB6.out)
    have c0 := q5 0 x0 HX.out
    have f0 := q4 0
    have hll : (l == l) = true := by simp
    unfold B at c0
    have hnS : ¬ (w3.heap.size ≤ g6 ∧ g6 < w4.heap.size) := fun h => by omega
    have HTX := Lib.hid (fun X : Value => ht6.beside q3 hnS 0 X)
    have HBX := Lib.hid (fun X : Value => HB6.out.setCell (p := ⟨g6, 0, none⟩) (by show w.heap.size ≤ g6; have := HB5.out.size; omega) X)
    clear ho6 hb6 ht6 q1 q2 q3 q4 q5 hnS HA5 HT5
    go_wp2_with fail
    generalize hw7 : w6.setCell ⟨g6, 0, none⟩ (.int .u8 (bits .xor .u8 (x0.toNat : Int) 2)) = w7 at *
    have HT7 : Hid (TQ (fun k => w3.heap.size ≤ k ∧ k < w4.heap.size) w7 b w.heap.size v4 [⟨1, 1, l⟩]) := Lib.hid (by rw [← hw7]; exact HTX.out _)
    have HB7 : Hid (Below w.heap.size w w7) := Lib.hid (by rw [← hw7]; exact HBX.out _)
    clear hw7 HTX HBX c0 f0 t1 t2 HB6
    have HA7 := Lib.hid (ask_any 1 1 w7 HT7.out.ta (by simp) (ris_one _) (by intro s hs; simp at hs; subst hs; show l.length ≤ 1000000; omega))
    rw [kask] at HA7
    refine HA7.out.mono ?_
    rintro e w8 ⟨v8, rfl, ho8, hb8⟩
    obtain ⟨g8, c8, rfl, -⟩ := own_form' ho8 h0
    have HB8 := Lib.hid (HB7.out.trans (hb8.mono HB7.out.size))
    have t1 : (convert 31 9 (.slice (some ⟨g8, 0, none⟩) l.length c8)).run Try.prog w8 = .ok (.string ⟨l.toArray⟩) w8 := textS ho8
    have t2 : (convert 31 9 (.slice o l.length c)).run Try.prog w8 = .ok (.string ⟨l.toArray⟩) w8 := toStr (HR.out.below HB8.out)
    clear ho8 hb8 HA7 HT7
    go_wp2_with fail
    go_ret
    exact ⟨rfl, HB8.out⟩
  · have hout : (l.length = 0) ∨ (1000 < l.length) := by omega
    rcases hout with hz | hz
    · have i0 : ((l.length : Int) == 0) = true := by simp [hz]
      clear hz hlen
      go_enter Try.func7, Try.ntmps7
      go_wp2_with fail
      refine (HA.out _).mono ?_
      rintro e w1 ⟨rfl, hb1⟩
      have HB1 := Lib.hid hb1
      clear hb1
      go_wp2_with fail
      refine (HA.out _).mono ?_
      rintro e w2 ⟨rfl, hb2⟩
      have HB2 := Lib.hid (HB1.out.trans (hb2.mono HB1.out.size))
      clear hb2
      go_wp2_with fail
      go_ret
      exact ⟨rfl, HB2.out⟩
    · have i0 : ((l.length : Int) == 0) = false := beq_eq_false_iff_ne.2 (by omega)
      have i1 : (1000 : Int) < (l.length : Int) := by omega
      clear hz hlen
      go_enter Try.func7, Try.ntmps7
      go_wp2_with fail
      refine (HA.out _).mono ?_
      rintro e w1 ⟨rfl, hb1⟩
      have HB1 := Lib.hid hb1
      clear hb1
      go_wp2_with fail
      refine (HA.out _).mono ?_
      rintro e w2 ⟨rfl, hb2⟩
      have HB2 := Lib.hid (HB1.out.trans (hb2.mono HB1.out.size))
      clear hb2
      go_wp2_with fail
      go_ret
      exact ⟨rfl, HB2.out⟩
end Go.Proofs.Ytlfnblgpekilnaa
