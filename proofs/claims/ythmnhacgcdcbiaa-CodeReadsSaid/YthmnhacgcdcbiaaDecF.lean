/- The reference's Decode, walked. -/
import Derived.Test.YthmnhacgcdcbiaaDecE
import Derived.Deep.Cut
namespace Go.Proofs.Ythmnhacgcdcbiaa
open Go.RowKit OctM CodM

/-- What has been read of a row, and what is left. -/
def SoI (M : Nat) (s2 : Option (List UInt8)) (j : Nat) (acc : List Ins) (sj : Option (List UInt8)) : Prop :=
  (sj ≠ none → codeS M s2 = (acc ++ (codeS (M - j) sj).1, (codeS (M - j) sj).2)) ∧ (sj = none → codeS M s2 = (acc, none))
theorem SoI.init {M : Nat} {s2 : Option (List UInt8)} (h : s2 = none → M = 0) : SoI M s2 0 [] s2 :=
  ⟨fun _ => rfl, fun h0 => by rw [h h0, h0]; rfl⟩
theorem SoI.step {M j : Nat} {s2 sj s5 : Option (List UInt8)} {acc : List Ins} {x : Ins} (h : SoI M s2 j acc sj) (hj : j < M) (hs : sj ≠ none) (hi : insS sj = (x, s5)) : SoI M s2 (j + 1) (acc ++ [x]) s5 := by
  have hsub : M - j = (M - (j + 1)) + 1 := by omega
  have h1 := h.1 hs
  rw [hsub] at h1
  constructor
  · intro h5
    rw [h1, codeS_ok (by rw [hi]; exact h5), hi]
    simp
  · intro h5
    rw [h1, codeS_bad (by rw [hi]; exact h5), hi]
theorem SoI.done {M j : Nat} {s2 sj : Option (List UInt8)} {acc : List Ins} (h : SoI M s2 j acc sj) (hj : M ≤ j ∨ sj = none) : codeS M s2 = (acc, sj) := by
  by_cases h0 : sj = none
  · rw [h.2 h0, h0]
  · have h1 := h.1 h0
    have : M - j = 0 := by rcases hj with h2 | h2; omega; exact absurd h2 h0
    rw [this] at h1
    rw [h1]
    simp [codeS]
def SoF (N : Nat) (s1 : Option (List UInt8)) (k : Nat) (acc : List Fun) (sj : Option (List UInt8)) : Prop :=
  (sj ≠ none → funsS N s1 = (acc ++ (funsS (N - k) sj).1, (funsS (N - k) sj).2)) ∧ (sj = none → funsS N s1 = (acc, none))
theorem SoF.init {M : Nat} {s2 : Option (List UInt8)} (h : s2 = none → M = 0) : SoF M s2 0 [] s2 :=
  ⟨fun _ => rfl, fun h0 => by rw [h h0, h0]; rfl⟩
theorem SoF.step {M j : Nat} {s2 sj s5 : Option (List UInt8)} {acc : List Fun} {x : Fun} (h : SoF M s2 j acc sj) (hj : j < M) (hs : sj ≠ none) (hi : funS sj = (x, s5)) : SoF M s2 (j + 1) (acc ++ [x]) s5 := by
  have hsub : M - j = (M - (j + 1)) + 1 := by omega
  have h1 := h.1 hs
  rw [hsub] at h1
  constructor
  · intro h5
    rw [h1, funsS_ok (by rw [hi]; exact h5), hi]
    simp
  · intro h5
    rw [h1, funsS_bad (by rw [hi]; exact h5), hi]
theorem SoF.done {M j : Nat} {s2 sj : Option (List UInt8)} {acc : List Fun} (h : SoF M s2 j acc sj) (hj : M ≤ j ∨ sj = none) : funsS M s2 = (acc, sj) := by
  by_cases h0 : sj = none
  · rw [h.2 h0, h0]
  · have h1 := h.1 h0
    have : M - j = 0 := by rcases hj with h2 | h2; omega; exact absurd h2 h0
    rw [this] at h1
    rw [h1]
    simp [funsS]

theorem set_four1 {w : World} {b : Nat} {p q r s x : Value} {t : TypeId} (h : w.heap[b]? = some (.cells #[p, q, r, s] t (0, 0))) : (w.setCell ⟨b, 1, none⟩ x).heap[b]? = some (.cells #[p, x, r, s] t (0, 0)) := by simp [World.setCell, Array.getElem?_modify, h]
theorem set_four2 {w : World} {b : Nat} {p q r s x : Value} {t : TypeId} (h : w.heap[b]? = some (.cells #[p, q, r, s] t (0, 0))) : (w.setCell ⟨b, 2, none⟩ x).heap[b]? = some (.cells #[p, q, x, s] t (0, 0)) := by simp [World.setCell, Array.getElem?_modify, h]
theorem set_four3 {w : World} {b : Nat} {p q r s x : Value} {t : TypeId} (h : w.heap[b]? = some (.cells #[p, q, r, s] t (0, 0))) : (w.setCell ⟨b, 3, none⟩ x).heap[b]? = some (.cells #[p, q, r, x] t (0, 0)) := by simp [World.setCell, Array.getElem?_modify, h]

structure REPost (b : Nat) (v : Value) (l : List UInt8) (w : World) (s : Option (List UInt8)) (e : Ending) (w' : World) : Prop where
  ret : ∃ u, e = .returned u ∧ RdF w' u (decS s).1
  st : RR w' b v l (decS s).2
  kept : Kept (own1 (some ⟨b, 0, none⟩)) w w'

theorem own1_ge {b : Nat} {n : Nat} (h : b < n) : ∀ k, n ≤ k → ¬ own1 (some ⟨b, 0, none⟩) k := by
  rintro k hk ⟨a, ha, hb⟩
  injection ha with ha
  subst ha
  simp only at hb
  omega

set_option maxHeartbeats 4000000 in
set_option maxRecDepth 100000 in
theorem rdecode (b : Nat) (v : Value) (l : List UInt8) (s : Option (List UInt8)) (w : World) (h : RR w b v l s) (hl : l.length ≤ 140737488351232) :
    Calls Try.prog 18 #[.pointer (some ⟨b, 0, none⟩)] w (REPost b v l w s) := by
  have hbw : b < w.heap.size := h.lt
  have HVB := Lib.hid h.vb
  have H1 := Lib.hid (rrupto b v l s 4000 w h hl (by omega) (by omega))
  have HON := Lib.hid (own1_ge hbw)
  clear h
  go_enter Try.func18, Try.ntmps18
  go_wp2_with fail
  refine H1.out.mono ?_
  rintro e w1 ⟨rfl, hs1, hk1⟩
  have HDE : Hid (decS s = if (funsS (uptoS s 4000).1 (uptoS s 4000).2).2 = none then ([], none) else funsS (uptoS s 4000).1 (uptoS s 4000).2) := rfl
  have HBD : Hid ((uptoS s 4000).2 = none → (uptoS s 4000).1 = 0) := uptoS_bad
  have HM := Lib.hid (uptoS_most s 4000)
  generalize (uptoS s 4000).1 = N at *
  generalize (uptoS s 4000).2 = s1 at *
  have HS1 := Lib.hid hs1
  have HK1 := Lib.hid hk1
  have hNi : (N : Int) ≤ 4000 := by have := HM.out; omega
  clear hs1 hk1 H1
  go_wp2_with fail
  go_loopw [3, 5] (fun L K wr => ∃ (k : Nat) (sj : Option (List UInt8)) (ps : List (Int × Value)) (acc : List Fun), k ≤ N ∧ K = .int .i64 k ∧ ps.length = k ∧ Hid (OwnF wr w.heap.size L ps) ∧ Hid (FunsX wr ps acc (fun g => L.ownBlock = some g ∨ own1 (some ⟨b, 0, none⟩) g)) ∧ Hid (RR wr b v l sj) ∧ Hid (Kept (own1 (some ⟨b, 0, none⟩)) w wr) ∧ Hid (SoF N s1 k acc sj)) (fun _ K _ => N - (intOf K).toNat)
  case atStart => exact ⟨0, s1, [], [], by omega, rfl, rfl, World.ownsRow_nil _ _ _ _, FunsX.nil _ _, HS1.out, HK1.out, SoF.init HBD.out⟩
  case round =>
    obtain ⟨k, sj, ps, acc, hk, rfl, hpl, HO, HX, HS, HK, HC⟩ := hrel
    generalize wr = wi at *
    obtain ⟨a, ca, ha0, ha1, -⟩ := HS.out.at
    have hbi := HS.out.lt
    have hend : (N ≤ k ∨ sj = none) → sj = none → decS s = ([], none) := by
      intro h1 h2
      rw [HDE.out, HC.out.done h1, h2]
      simp
    have hend2 : (N ≤ k ∨ sj = none) → sj ≠ none → decS s = (acc, sj) := by
      intro h1 h2
      rw [HDE.out, HC.out.done h1, if_neg h2]
    have HEND := Lib.hid hend
    have HEND2 := Lib.hid hend2
    clear hend hend2
    by_cases hs0 : sj = none
    · subst hs0
      have hneg := ha0 rfl
      have hd : decide ((0 : Int) ≤ a) = false := by simp; omega
      have hdl : decide (a < (0 : Int)) = true := by simp; omega
      have HD := Lib.hid (HEND.out (.inr rfl) rfl)
      clear ha0 ha1 hneg
      by_cases hlt : k < N
      · have hkI : (k : Int) < (N : Int) := by omega
        go_wp2_with fail
        go_ret
        exact ⟨⟨_, rfl, by rw [HD.out]; exact .inl ⟨_, _, rfl, rfl⟩⟩, by rw [HD.out]; exact HS.out, HK.out⟩
      · have hkI : ¬ (k : Int) < (N : Int) := by omega
        go_wp2_with fail
        go_ret
        exact ⟨⟨_, rfl, by rw [HD.out]; exact .inl ⟨_, _, rfl, rfl⟩⟩, by rw [HD.out]; exact HS.out, HK.out⟩
    · have hpos := ha1 hs0
      have hd : decide ((0 : Int) ≤ a) = true := by simp; omega
      have hdl : decide (a < (0 : Int)) = false := by simp; omega
      have HSN := Lib.hid hs0
      clear ha0 ha1 hs0
      by_cases hlt : k < N
      · have hkI : (k : Int) < (N : Int) := by omega
        have HLT := Lib.hid hlt
        have H2 := Lib.hid (rrupto b v l sj 1048576 wi HS.out hl (by omega) (by omega))
        go_wp2_with fail
        refine H2.out.mono ?_
        rintro e w2 ⟨rfl, hs2, hk2⟩
        have HFU : Hid (funS sj = (⟨((uptoS sj 1048576).1 : Nat), (codeS (uptoS (uptoS sj 1048576).2 1048576).1 (uptoS (uptoS sj 1048576).2 1048576).2).1⟩, (codeS (uptoS (uptoS sj 1048576).2 1048576).1 (uptoS (uptoS sj 1048576).2 1048576).2).2)) := rfl
        generalize (uptoS sj 1048576).1 = N1 at *
        generalize (uptoS sj 1048576).2 = t1 at *
        have hq : Kept (fun k => w2.heap.size ≤ k) w2 (w2.alloc (.cells #[.int .i64 (N1 : Int), .slice none 0 0] 57)) := (Kept.refl _ w2).alloc _
        have hz2 := hk2.size
        have hzi := HK.out.size
        have hs3 := hs2.keep (HVB.out.mono (show w.heap.size ≤ w2.heap.size by omega)) hq (by have := hs2.lt; omega) (fun k hk' h => by omega)
        have H3 := Lib.hid (rrupto b v l t1 1048576 _ hs3 hl (by omega) (by omega))
        have HY2 := Lib.hid (heap_alloc_new w2 (.cells #[.int .i64 (N1 : Int), .slice none 0 0] 57))
        have HK2 := Lib.hid (hk2.alloc (.cells #[.int .i64 (N1 : Int), .slice none 0 0] 57))
        have HM2 := Lib.hid (uptoS_most t1 1048576)
        have HB2 : Hid ((uptoS t1 1048576).2 = none → (uptoS t1 1048576).1 = 0) := uptoS_bad
        clear hs2 hk2 hq hs3 H2 ca
        go_wp2_with fail
        refine H3.out.mono ?_
        rintro e w3 ⟨rfl, hs3, hk3⟩
        generalize (uptoS t1 1048576).1 = M at *
        generalize (uptoS t1 1048576).2 = t2 at *
        have hMi : (M : Int) ≤ 1048576 := by have := HM2.out; omega
        have HY3 := Lib.hid ((hk3.block w2.heap.size (lt_of_block HY2.out) (HON.out _ (by omega))).trans HY2.out)
        have HK3 := Lib.hid (HK2.out.trans hk3)
        have HS3 := Lib.hid hs3
        have hzf : wi.heap.size ≤ w2.heap.size := hz2
        generalize w2.heap.size = fb at *
        clear hs3 hk3 HK2 HY2 H3 hz2
        go_wp2_with fail
        go_loopw [8] (fun J wr => ∃ (j : Nat) (tj : Option (List UInt8)) (vj : Value) (ac : List Ins), ac.length = j ∧ j ≤ M ∧ J = .int .i64 j ∧ Hid (OwnI wr (fb + 1) vj ac) ∧ Hid (wr.heap[fb]? = some (.cells #[.int .i64 (N1 : Int), vj] 57 (0, 0))) ∧ Hid (RR wr b v l tj) ∧ Hid (Kept (own1 (some ⟨b, 0, none⟩)) wi wr) ∧ Hid (SoI M t2 j ac tj)) (fun J _ => M - (intOf J).toNat)
        case atStart => exact ⟨0, t2, _, [], rfl, by omega, rfl, World.ownsRow_nil _ _ _ _, HY3.out, HS3.out, HK3.out, SoI.init HB2.out⟩
        case round =>
          obtain ⟨j, tj, vj, ac, hal, hj, rfl, HOJ, HYJ, HSJ, HKJ, HCJ⟩ := hrel
          generalize wr = wj at *
          subst hal
          obtain ⟨oj, cj, hv⟩ := HOJ.out.form
          subst hv
          obtain ⟨aj, cja, hja0, hja1, -⟩ := HSJ.out.at
          have hbj := HSJ.out.lt
          have b1 : wj.cell? ⟨fb, 1, none⟩ = some (.slice oj ac.length cj) := cellk HYJ.out rfl
          have b0 : wj.cell? ⟨fb, 0, none⟩ = some (.int .i64 (N1 : Int)) := cellk HYJ.out rfl
          have bl := lt_of_block HYJ.out
          have hdone : (M ≤ ac.length ∨ tj = none) → funS sj = (⟨(N1 : Int), ac⟩, tj) := by
            intro h1
            rw [HFU.out, HCJ.out.done h1]
          have hexit := fun (_ : M ≤ ac.length ∨ tj = none) => rFun_step (f := ⟨(N1 : Int), ac⟩) hbw HVB.out HO.out HX.out HK.out hzf HOJ.out HSJ.out HKJ.out (by omega)
          have HDONE := Lib.hid hdone
          have HEXIT := Lib.hid hexit
          clear hdone hexit
          by_cases ht0 : tj = none
          · subst ht0
            have hneg := hja0 rfl
            have hdj : decide ((0 : Int) ≤ aj) = false := by simp; omega
            clear hja0 hja1 hneg
            by_cases hjl : ac.length < M
            · have hjI : (ac.length : Int) < (M : Int) := by omega
              obtain ⟨v6, w6, hrun, hown6, hx6, hr6, hk6⟩ := HEXIT.out (.inr rfl)
              simp only at hrun hown6 hx6
              have HRUN := Lib.hid hrun
              have HO6 := Lib.hid hown6
              have HX6 := Lib.hid hx6
              have HR6 := Lib.hid hr6
              have HK6 := Lib.hid hk6
              have HC6 := Lib.hid (HC.out.step HLT.out HSN.out (HDONE.out (.inr rfl)))
              clear hrun hown6 hx6 hr6 hk6 HDONE HEXIT
              go_wp2_with (at_builtin; refine wpList_append_known rfl (.tmp 61) (.tmp 63) 27 27 (by rfl) _ _ _ (by rfl) (by rfl) HRUN.out ?_)
              go_roundw
              case rel => exact ⟨k + 1, _, _, _, by omega, by go_num, by simp [hpl], HO6, HX6, HR6, HK6, HC6⟩
              case measure => simp [intOf]; omega
            · have hjI : ¬ (ac.length : Int) < (M : Int) := by omega
              obtain ⟨v6, w6, hrun, hown6, hx6, hr6, hk6⟩ := HEXIT.out (.inr rfl)
              simp only at hrun hown6 hx6
              have HRUN := Lib.hid hrun
              have HO6 := Lib.hid hown6
              have HX6 := Lib.hid hx6
              have HR6 := Lib.hid hr6
              have HK6 := Lib.hid hk6
              have HC6 := Lib.hid (HC.out.step HLT.out HSN.out (HDONE.out (.inr rfl)))
              clear hrun hown6 hx6 hr6 hk6 HDONE HEXIT
              go_wp2_with (at_builtin; refine wpList_append_known rfl (.tmp 61) (.tmp 63) 27 27 (by rfl) _ _ _ (by rfl) (by rfl) HRUN.out ?_)
              go_roundw
              case rel => exact ⟨k + 1, _, _, _, by omega, by go_num, by simp [hpl], HO6, HX6, HR6, HK6, HC6⟩
              case measure => simp [intOf]; omega
          · have hpos := hja1 ht0
            have hdj : decide ((0 : Int) ≤ aj) = true := by simp; omega
            clear hja0 hja1
            by_cases hjl : ac.length < M
            · have hjI : (ac.length : Int) < (M : Int) := by omega
              have H4 := Lib.hid (rrupto b v l tj 255 wj HSJ.out hl (by omega) (by omega))
              clear HDONE HEXIT b0 b1
              go_wp2_with fail
              refine H4.out.mono ?_
              rintro e w4 ⟨rfl, hs4, hk4⟩
              dsimp only
              have HIN : Hid (insS tj = (⟨(uptoS tj 255).1, unzig (uintS (uptoS tj 255).2).1, ((uptoS (uintS (uptoS tj 255).2).2 1048576).1 : Nat), ⟨(bytesS (uptoS (uintS (uptoS tj 255).2).2 1048576).2 2000).1.toArray⟩⟩, (bytesS (uptoS (uintS (uptoS tj 255).2).2 1048576).2 2000).2)) := rfl
              have hm4 := uptoS_most tj 255
              generalize (uptoS tj 255).1 = N4 at *
              generalize (uptoS tj 255).2 = t4 at *
              have hm4i : (N4 : Int) ≤ 255 := by omega
              have hz4 := hk4.size
              have hq4 : Kept (fun k => w4.heap.size ≤ k) w4 (w4.alloc (.cells #[.int .u8 (N4 : Int), .int .i64 0, .int .i64 0, .string ⟨#[]⟩] 58)) := (Kept.refl _ w4).alloc _
              have hs4' := hs4.keep (HVB.out.mono (show w.heap.size ≤ w4.heap.size by omega)) hq4 (by have := hs4.lt; omega) (fun k hk' h => by omega)
              have H5 := Lib.hid (rrint b v l t4 _ hs4' hl)
              have HI4 := Lib.hid (heap_alloc_new w4 (.cells #[.int .u8 (N4 : Int), .int .i64 0, .int .i64 0, .string ⟨#[]⟩] 58))
              have HK4 := Lib.hid (hk4.alloc (.cells #[.int .u8 (N4 : Int), .int .i64 0, .int .i64 0, .string ⟨#[]⟩] 58))
              clear hs4 hk4 hq4 hs4' H4 cja
              go_wp2_with fail
              refine H5.out.mono ?_
              rintro e w5 ⟨rfl, hs5, hk5⟩
              dsimp only
              generalize unzig (uintS t4).1 = N5 at *
              generalize (uintS t4).2 = t5 at *
              have hi5 := (hk5.block w4.heap.size (lt_of_block HI4.out) (HON.out _ (by omega))).trans HI4.out
              have hk5' := HK4.out.trans hk5
              generalize w4.heap.size = ib at *
              have i1 : w5.cell? ⟨ib, 1, none⟩ = some (.int .i64 0) := cellk hi5 rfl
              have f1 := free_of hi5 1
              have l5 := lt_of_block hi5
              have hq5 : Kept (fun k => k = ib) w5 (w5.setCell ⟨ib, 1, none⟩ (.int .i64 N5)) := (Kept.refl (fun k => k = ib) w5).setCell (p := ⟨ib, 1, none⟩) (.inl rfl) _
              have hs5' := hs5.keep HVB.out hq5 (by omega) (fun k hk' h => by omega)
              have H6 := Lib.hid (rrupto b v l t5 1048576 _ hs5' hl (by omega) (by omega))
              have HI5 := Lib.hid (set_four1 (x := .int .i64 N5) hi5)
              have HK5 := Lib.hid (hk5'.setCell (p := ⟨ib, 1, none⟩) (.inr hz4) (.int .i64 N5))
              clear hi5 hk5 hk5' hq5 hs5 hs5' HK4 HI4 H5
              go_wp2_with fail
              refine H6.out.mono ?_
              rintro e w6 ⟨rfl, hs6, hk6⟩
              dsimp only
              generalize (uptoS t5 1048576).1 = N6 at *
              generalize (uptoS t5 1048576).2 = t6 at *
              have hi6 := (hk6.block ib (lt_of_block HI5.out) (HON.out _ (by omega))).trans HI5.out
              have hk6' := HK5.out.trans hk6
              have i2 : w6.cell? ⟨ib, 2, none⟩ = some (.int .i64 0) := cellk hi6 rfl
              have f2 := free_of hi6 2
              have l6 := lt_of_block hi6
              have hq6 : Kept (fun k => k = ib) w6 (w6.setCell ⟨ib, 2, none⟩ (.int .i64 (N6 : Int))) := (Kept.refl (fun k => k = ib) w6).setCell (p := ⟨ib, 2, none⟩) (.inl rfl) _
              have hs6' := hs6.keep HVB.out hq6 (by omega) (fun k hk' h => by omega)
              have H7 := Lib.hid (rrbytes b v l t6 2000 _ hs6' hl (by omega) (by omega))
              have HI6 := Lib.hid (set_four2 (x := .int .i64 (N6 : Int)) hi6)
              have HK6 := Lib.hid (hk6'.setCell (p := ⟨ib, 2, none⟩) (.inr hz4) (.int .i64 (N6 : Int)))
              clear hi6 hk6 hk6' hq6 hs6 hs6' HK5 HI5 H6 i1 f1
              go_wp2_with fail
              refine H7.out.mono ?_
              rintro e w7 ⟨⟨u, rfl, hu⟩, hs7, hk7⟩
              dsimp only
              generalize (bytesS t6 2000).1 = L7 at *
              generalize (bytesS t6 2000).2 = t7 at *
              have ht := toStr hu
              unfold S at ht
              have hi7 := (hk7.block ib (lt_of_block HI6.out) (HON.out _ (by omega))).trans HI6.out
              have hk7' := HK6.out.trans hk7
              have i3 : w7.cell? ⟨ib, 3, none⟩ = some (.string ⟨#[]⟩) := cellk hi7 rfl
              have f3 := free_of hi7 3
              have l7 := lt_of_block hi7
              have hq7 : Kept (fun k => k = ib) w7 (w7.setCell ⟨ib, 3, none⟩ (.string ⟨L7.toArray⟩)) := (Kept.refl (fun k => k = ib) w7).setCell (p := ⟨ib, 3, none⟩) (.inl rfl) _
              have hs7' := hs7.keep HVB.out hq7 (by omega) (fun k hk' h => by omega)
              have hi7' := set_four3 (x := .string ⟨L7.toArray⟩) hi7
              have hk8 := hk7'.setCell (p := ⟨ib, 3, none⟩) (.inr hz4) (.string ⟨L7.toArray⟩)
              have hY8 := (hk8.block fb bl (HON.out _ (by omega))).trans HYJ.out
              have hO8 : OwnI _ (fb + 1) (.slice oj ac.length cj) ac := own_kept HOJ.out hk8 (fun k hk' => HON.out k (by have := (HOJ.out.lt k hk').1; omega))
              have hst := rIns_step (x := ⟨N4, N5, (N6 : Int), ⟨L7.toArray⟩⟩) (show b < fb by omega) (HVB.out.mono (by omega)) hO8 hY8 hs7' (by omega)
              obtain ⟨o6, c6, w8, hrun, q3, q4, q5, hO9, hY9, hS9, hK9⟩ := hst
              have hC9 := HCJ.out.step hjl ht0 HIN.out
              have hK9' : Kept (own1 (some ⟨b, 0, none⟩)) wi _ := (HKJ.out.trans hk8).step hK9 (fun k h => .inr (by omega))
              have hln : (ac ++ [(⟨N4, N5, (N6 : Int), ⟨L7.toArray⟩⟩ : Ins)]).length = ac.length + 1 := by simp
              simp only at hrun
              have HRUN := Lib.hid hrun
              have HO9 := Lib.hid hO9
              have HY9 := Lib.hid hY9
              have HS9 := Lib.hid hS9
              have HK9 := Lib.hid hK9'
              have HC9 := Lib.hid hC9
              have m0 : (w7.setCell ⟨ib, 3, none⟩ (.string ⟨L7.toArray⟩)).cell? ⟨ib, 0, none⟩ = some (.int .u8 (N4 : Int)) := cellk hi7' rfl
              have m1 : (w7.setCell ⟨ib, 3, none⟩ (.string ⟨L7.toArray⟩)).cell? ⟨ib, 1, none⟩ = some (.int .i64 N5) := cellk hi7' rfl
              have m2 : (w7.setCell ⟨ib, 3, none⟩ (.string ⟨L7.toArray⟩)).cell? ⟨ib, 2, none⟩ = some (.int .i64 (N6 : Int)) := cellk hi7' rfl
              have m3 : (w7.setCell ⟨ib, 3, none⟩ (.string ⟨L7.toArray⟩)).cell? ⟨ib, 3, none⟩ = some (.string ⟨L7.toArray⟩) := cellk hi7' rfl
              have m4 : (w7.setCell ⟨ib, 3, none⟩ (.string ⟨L7.toArray⟩)).cell? ⟨fb, 1, none⟩ = some (.slice oj ac.length cj) := cellk hY8 rfl
              have l8 := lt_of_block hi7'
              clear hrun hO9 hY9 hS9 hK9 hK9' hC9 hO8 hY8 hk8 hi7' hs7' hq7 hk7 hk7' hi7 hs7 hu H7 HI6 HK6 i2 f2
              go_upto_region 15 with (fail)
              generalize w7.setCell ⟨ib, 3, none⟩ (.string ⟨L7.toArray⟩) = W7 at *
              go_wp2_with (at_builtin; refine wpList_append_known rfl (.tmp 56) (.tmp 58) 55 55 (by rfl) _ _ _ (by rfl) (by rfl) HRUN.out ?_)
              go_roundw
              case rel => exact ⟨ac.length + 1, t7, _, ac ++ [⟨N4, N5, (N6 : Int), ⟨L7.toArray⟩⟩], hln, by omega, by go_num, HO9, HY9, HS9, HK9, HC9⟩
              case measure => simp [intOf]; omega
            · have hjI : ¬ (ac.length : Int) < (M : Int) := by omega
              obtain ⟨v6, w6, hrun, hown6, hx6, hr6, hk6⟩ := HEXIT.out (.inl (by omega))
              simp only at hrun hown6 hx6
              have HRUN := Lib.hid hrun
              have HO6 := Lib.hid hown6
              have HX6 := Lib.hid hx6
              have HR6 := Lib.hid hr6
              have HK6 := Lib.hid hk6
              have HC6 := Lib.hid (HC.out.step HLT.out HSN.out (HDONE.out (.inl (by omega))))
              clear hrun hown6 hx6 hr6 hk6 HDONE HEXIT
              go_wp2_with (at_builtin; refine wpList_append_known rfl (.tmp 61) (.tmp 63) 27 27 (by rfl) _ _ _ (by rfl) (by rfl) HRUN.out ?_)
              go_roundw
              case rel => exact ⟨k + 1, _, _, _, by omega, by go_num, by simp [hpl], HO6, HX6, HR6, HK6, HC6⟩
              case measure => simp [intOf]; omega
      · have hkI : ¬ (k : Int) < (N : Int) := by omega
        have HD := Lib.hid (HEND2.out (.inl (by omega)) HSN.out)
        have hrd : RdF wi _ acc := HO.out.rd HX.out.1 (fun j f hj => by
          obtain ⟨u, hu, hr⟩ := HX.out.2 j f hj
          exact ⟨u, hu, hr.rd⟩)
        have HRD := Lib.hid hrd
        clear hrd
        go_wp2_with fail
        go_ret
        exact ⟨⟨_, rfl, by rw [HD.out]; exact HRD.out⟩, by rw [HD.out]; exact HS.out, HK.out⟩
end Go.Proofs.Ythmnhacgcdcbiaa
