/- HeapTwice: the law's walk. -/
import Derived.Test.YtmljelcmjagjjaaLTwice
namespace Go.Proofs.Ytmljelcmjagjjaa
open Go.RowKit HeaM

/-- A word that is a number, or an object. -/
def Fit (W : List Nat) (F : List Bool) (x : Nat) : Prop := (x % 2 = 1 ∨ isObj W F x = true) ∧ x < 18446744073709551616
theorem num_nat (x : Int) : ∃ y : Nat, (2 * x + 1) % 18446744073709551616 = (y : Int) ∧ y % 2 = 1 ∧ y < 18446744073709551616 := ⟨((2 * x + 1) % 18446744073709551616).toNat, by omega, by omega, by omega⟩

set_option maxHeartbeats 16000000 in
set_option maxRecDepth 100000 in
theorem twice_walk (va vb : Value) (W R : List Nat) (w : World) (ha : RdW w va W ∧ ∀ x ∈ W, x < 18446744073709551616) (hb : RdW w vb R ∧ ∀ x ∈ R, x < 18446744073709551616) :
    Calls Try.prog 6 #[va, vb] w fun e w' => e = .returned (.bool true) ∧ Below w.heap.size w w' := by
  obtain ⟨oa, ca, hva, hca, hma⟩ := ha.1.slice
  obtain ⟨ob, cb, hvb, hcb, hmb⟩ := hb.1.slice
  rw [Ws_length] at hva hca hvb hcb
  have HA := Lib.hid ha
  have HB := Lib.hid hb
  clear ha hb
  subst hva hvb
  unfold maxLen at hma hmb
  by_cases h1 : 2000 < W.length
  · have h1' : (2000 : Int) < (W.length : Int) := by omega
    go_enter Try.func6, Try.ntmps6
    go_wp2_with fail
    refine (awake _).mono ?_
    rintro e w1 ⟨rfl, hb1⟩
    go_wp2_with fail
    refine (awake _).mono ?_
    rintro e w2 ⟨rfl, hb2⟩
    go_wp2_with fail
    go_ret
    exact ⟨rfl, hb1.trans (hb2.mono hb1.size)⟩
  have h1' : ¬ (2000 : Int) < (W.length : Int) := by omega
  by_cases h2 : 50 < R.length
  · have h2' : (50 : Int) < (R.length : Int) := by omega
    go_enter Try.func6, Try.ntmps6
    go_wp2_with fail
    refine (awake _).mono ?_
    rintro e w1 ⟨rfl, hb1⟩
    go_wp2_with fail
    refine (awake _).mono ?_
    rintro e w2 ⟨rfl, hb2⟩
    go_wp2_with fail
    go_ret
    exact ⟨rfl, hb1.trans (hb2.mono hb1.size)⟩
  have h2' : ¬ (50 : Int) < (R.length : Int) := by omega
  have hWi : (W.length : Int) ≤ 2000 := by omega
  have hRi : (R.length : Int) ≤ 50 := by omega
  have hWn : W.length ≤ 2000 := by omega
  have hRn : R.length ≤ 50 := by omega
  go_enter Try.func6, Try.ntmps6
  go_wp2_with fail
  refine (awake _).mono ?_
  rintro e w1 ⟨rfl, hb1⟩
  have HB1 := Lib.hid hb1
  have HRT := Lib.hid (right_t _ W w1 (HA.out.1.below hb1) HA.out.2 (by omega))
  clear hb1
  go_wp2_with fail
  refine HRT.out.mono ?_
  rintro e w2 ⟨bb, rfl, hbb, hb2⟩
  have hB2 := HB1.out.trans (hb2.mono HB1.out.size)
  have HB2 := Lib.hid hB2
  clear hb2 hB2 HRT
  cases bb with
  | false =>
    clear hbb
    go_wp2_with fail
    refine (awake _).mono ?_
    rintro e w3 ⟨rfl, hb3⟩
    have HB3 := Lib.hid hb3
    clear hb3
    go_wp2_with fail
    go_ret
    exact ⟨rfl, HB2.out.trans (HB3.out.mono HB2.out.size)⟩
  | true =>
    obtain ⟨F, hF⟩ := hbb rfl
    have hgood := hF.good (by omega)
    have HF := Lib.hid hF
    have HG := Lib.hid hgood
    have HBK := Lib.hid (back_t _ W w2 (HA.out.1.below HB2.out) (by omega))
    clear hbb hF hgood
    go_wp2_with fail
    refine HBK.out.mono ?_
    rintro e w3 ⟨bv, rfl, ho3, hb3⟩
    have hB3 := HB2.out.trans (hb3.mono HB2.out.size)
    have HLD := Lib.hid (load_t 5000 bv W F w3 (RdV.of_own ho3) HF.out (by omega) (by omega) (by omega))
    have HB3 := Lib.hid hB3
    clear ho3 hb3 hB3 HBK
    go_wp2_with fail
    refine HLD.out.mono ?_
    rintro e w4 ⟨d, u1, u2, rfl, hH4, hb4, hn4⟩
    have hst : TwS w w4 d 0 W F (.slice none 0 0) [] u1 u2 := by
      have hs3 := HB3.out.size
      refine ⟨⟨hH4.cell, own_base hH4.own1 hs3, own_base hH4.own2 hs3⟩, World.ownsRow_nil _ _ _ _, by simp [Value.ownBlock], fun j hj => ?_, HB3.out.trans (hb4.mono hs3)⟩
      have := hn4 j hj
      omega
    have HST := Lib.hid hst
    clear hst hH4 hb4 hn4 HLD
    go_wp2_with fail
    go_loopg [7, 8] R.length (fun K rv i wr => ∃ (k : Nat) (rv' : Value) (xs : List Nat), k ≤ R.length ∧ K = R.length - k ∧ i = .int .i64 k ∧ rv' = rv ∧ xs.length = k ∧ Hid (TwS w wr d 0 W F rv' xs u1 u2 ∧ ∀ x ∈ xs, Fit W F x))
    case atStart => exact ⟨0, _, [], Nat.zero_le _, by omega, rfl, rfl, rfl, HST.out, by simp⟩
    case round =>
      obtain ⟨k, rv, xs, hk, rfl, rfl, hrv, hxl, HK⟩ := hrel
      subst hrv
      clear HST
      by_cases hlt : k < R.length
      · have hki : (k : Int) < (R.length : Int) := by omega
        obtain ⟨a, cb', hvb, _, hc⟩ := at_cell HB.out.1 hlt
        simp only [Value.slice.injEq] at hvb
        obtain ⟨rfl, -, rfl⟩ := hvb
        have hc0 := hc k hlt
        have hcx := (HK.out.1.below.cell (World.block_lt_of_cell? w _ hc0)).trans hc0
        obtain ⟨x, hx⟩ : ∃ x, R.getD k 0 = x := ⟨_, rfl⟩
        have hxl2 : x < 18446744073709551616 := by rw [← hx]; exact getD_lt HB.out.2 k
        rw [hx] at hcx
        have hx' : (x : Int) ≤ 18446744073709551615 := by omega
        obtain ⟨y, hy, hyo, hyl⟩ := num_nat (wrap64 (x : Int))
        have HNUM : Hid (Calls Try.prog 9 #[.int .i64 (wrap64 (x : Int))] wr fun e w' => e = .returned (.int .u64 (y : Int)) ∧ wr = w') := (num_t (wrap64 (x : Int)) wr).mono fun e w' ⟨h1, h2⟩ => ⟨by rw [h1, hy], h2⟩
        obtain ⟨rv', w5, r5, hT5⟩ := HK.out.1.push y (by omega)
        have hfit : ∀ z ∈ xs ++ [y], Fit W F z := by
          intro z hz
          rcases List.mem_append.1 hz with hz | hz
          · exact HK.out.2 z hz
          · simp at hz; subst hz; exact ⟨.inl hyo, hyl⟩
        have R5 := Lib.hid r5
        have HT5 := Lib.hid hT5
        have HFIT := Lib.hid hfit
        have hlen5 : (xs ++ [y]).length = k + 1 := by rw [List.length_append, List.length_singleton]; omega
        have HL5 := Lib.hid hlen5
        clear hc hc0 hx hy hyo r5 hT5 hfit hlen5
        go_wp2_with fail
        refine HNUM.out.mono ?_
        rintro e w' ⟨rfl, rfl⟩
        go_wp2_with (at_builtin; refine wpList_append_known rfl (.tmp 49) (.tmp 56) 35 35 (by rfl) _ _ _ (by rfl) (by rfl) R5.out ?_)
        go_roundg (R.length - (k + 1))
        case measure => omega
        case rel => exact ⟨k + 1, _, _, by omega, rfl, by go_num, rfl, HL5.out, HT5.out, HFIT.out⟩
      · obtain rfl : k = R.length := by omega
        obtain ⟨l, hl, hWl, hFl⟩ := HF.out.segs
        have HSEG := Lib.hid hl
        have HWL := Lib.hid hWl
        have HFL := Lib.hid hFl
        clear hl hWl hFl
        go_wp2_with fail
        go_loopg [9, 10] (W.length + 1) (fun K at' i wr => ∃ (p j : Nat) (dn td : List (List Nat)) (ys : List Nat), p ≤ W.length ∧ K = W.length + 1 - p ∧ at' = .int .i64 p ∧ i = .int .i64 j ∧ j ≤ p ∧ ys.length = R.length ∧ Hid (SegAt l dn td p ∧ TwS w wr d 0 W F rv ys u1 u2 ∧ ∀ x ∈ ys, Fit W F x))
        case atStart => exact ⟨0, 0, [], l, xs, Nat.zero_le _, by omega, rfl, rfl, Nat.le_refl _, hxl, ⟨rfl, rfl⟩, HK.out.1, HK.out.2⟩
        case round =>
          obtain ⟨p, j, dn, td, ys, hp, rfl, rfl, rfl, hjp, hyl, HI⟩ := hrel
          by_cases hlt : p < W.length
          · have hpi : (p : Int) < (W.length : Int) := by omega
            obtain ⟨s, t', rfl, hob, hsz⟩ := ob_next HSEG.out HI.out.1 (by rw [← HWL.out]; exact hlt)
            rw [← HWL.out, ← HFL.out] at hob
            rw [← HWL.out] at hsz
            have hok : atOk W p = true := by
              unfold atOk
              rw [hob.kind]
              have := hob.fits
              simp only [Bool.true_and, decide_eq_true_eq]
              omega
            have hfit := hob.fits
            have hpos := szX_pos (W.getD p 0)
            have hnx : SegAt l (dn ++ [s]) t' (p + szX (W.getD p 0)) := by rw [hsz]; exact HI.out.1.next
            have hobj : isObj W F (2 * p) = true := isObj_iff.2 ⟨by omega, by omega, by rw [show 2 * p / 2 = p by omega]; exact hob.mark⟩
            have HAT := Lib.hid (at_lit _ W p wr (HA.out.1.below HI.out.2.1.below) hlt HA.out.2 (by omega))
            have HNX := Lib.hid hnx
            have HOBJ := Lib.hid hobj
            have HOK := Lib.hid hok
            clear hob hsz hok hnx hobj
            go_wp2_with fail
            refine HAT.out.mono ?_
            rintro e w5 ⟨kk, po, pc, str, N, P, rfl, ho, hb5, hN, hP, hkk⟩
            rw [HOK.out] at hN
            simp only [if_true] at hN
            rw [← hN] at hfit hpos
            have HN := Lib.hid hN
            have hkk' : (kk : Int) ≤ 255 := by omega
            have hT6 := HI.out.2.1.more (hb5.alloc hb5.size (.cells #[.int .u8 (kk : Int), .slice po P.length pc, .string str] 41))
            have HT6 := Lib.hid hT6
            have HNX' : Hid (SegAt l (dn ++ [s]) t' (p + N)) := by
              show SegAt l (dn ++ [s]) t' (p + N)
              rw [HN.out]
              exact HNX.out
            have hNi : (N : Int) ≤ 2000 := by omega
            clear hN hP ho hb5 hT6
            by_cases hj : j < R.length
            · have hji : (j : Int) < (R.length : Int) := by omega
              obtain ⟨a, cb', hvb, _, hc⟩ := at_cell HB.out.1 hj
              simp only [Value.slice.injEq] at hvb
              obtain ⟨rfl, -, rfl⟩ := hvb
              have hc0 := hc j hj
              have hcx := (HT6.out.below.cell (World.block_lt_of_cell? w _ hc0)).trans hc0
              obtain ⟨x, hx⟩ : ∃ x, R.getD j 0 = x := ⟨_, rfl⟩
              have hxl2 : x < 18446744073709551616 := by rw [← hx]; exact getD_lt HB.out.2 j
              rw [hx] at hcx
              have hx' : (x : Int) ≤ 18446744073709551615 := by omega
              clear hc hc0 hx
              obtain ⟨g, cap, hrv, hcc, hcm⟩ : ∃ g cap, rv = .slice (some ⟨g, 0, none⟩) R.length cap ∧ R.length ≤ cap ∧ cap ≤ maxLen := by
                rcases HT6.out.row.2 with ⟨_, e⟩ | ⟨g, cap, cur, e, _, _, hc, hm, _⟩
                · omega
                · rw [hyl] at e hc
                  exact ⟨g, cap, e, hc, hm⟩
              subst hrv
              have hrow := HT6.out.row
              unfold OwnW at hrow
              rw [hyl] at hrow
              have hfr := hrow.frozenAt j
              obtain ⟨ov, hov⟩ : ∃ ov, (w5.alloc (.cells #[.int .u8 (kk : Int), .slice po P.length pc, .string str] 41)).cell? ⟨g, j, none⟩ = some ov := by
                rw [hrow.cellAt j (by omega)]
                exact ⟨_, List.getElem?_eq_getElem (by rw [Ws_length, hyl]; omega)⟩
              have hset := HT6.out.set j (2 * p)
              rw [show ((2 * p : Nat) : Int) = 2 * (p : Int) by omega] at hset
              have hfs : ∀ z ∈ ys.set j (2 * p), Fit W F z := by
                intro z hz
                rcases List.mem_or_eq_of_mem_set hz with hz | hz
                · exact HI.out.2.2 z hz
                · rw [hz]; exact ⟨.inr HOBJ.out, by omega⟩
              have HSET := Lib.hid hset
              have HFS := Lib.hid hfs
              clear hrow hset hfs
              cases hq : ((x : Int) % 2 == 0) with
              | false =>
                have HFI : Hid (∀ z ∈ ys, Fit W F z) := HI.out.2.2
                clear hov hfr
                go_wp2_with fail
                go_roundg (W.length + 1 - (p + N))
                case measure => omega
                case rel => exact ⟨p + N, j + 1, dn ++ [s], t', ys, hfit, rfl, by go_num, by go_num, by omega, hyl, HNX'.out, HT6.out, HFI.out⟩
              | true =>
                go_wp2_with fail
                go_roundg (W.length + 1 - (p + N))
                case measure => omega
                case rel => exact ⟨p + N, j + 1, dn ++ [s], t', ys.set j (2 * p), hfit, rfl, by go_num, by go_num, by omega, by rw [List.length_set]; exact hyl, HNX'.out, HSET.out, HFS.out⟩
            · have hji : ¬ (j : Int) < (R.length : Int) := by omega
              have HFI : Hid (∀ z ∈ ys, Fit W F z) := HI.out.2.2
              go_wp2_with fail
              go_roundg (W.length + 1 - (p + N))
              case measure => omega
              case rel => exact ⟨p + N, j + 1, dn ++ [s], t', ys, hfit, rfl, by go_num, by go_num, by omega, hyl, HNX'.out, HT6.out, HFI.out⟩
          · obtain rfl : p = W.length := by omega
            have HT := Lib.hid HI.out.2.1
            have HFI : Hid (∀ z ∈ ys, Fit W F z) := HI.out.2.2
            clear HI HK
            go_wp2_with fail
            have hsnd := HF.out.sound
            have hdone := col_done HG.out hsnd ys
            have htw := col_twice HG.out hsnd ys fun x hx => (HFI.out x hx).1
            have hzlt := colR_lt HG.out hsnd ys fun y hy => (HFI.out y hy).2
            have hvl : (colS W F ys).2.length ≤ 2000 := Nat.le_trans hdone.le hWn
            have hg1 := hdone.good1
            have hr1 := hdone.right
            have hzl : (colR W F ys).length = ys.length := mvs_length _ _ _ _
            have HCT := Lib.hid (fun (wp : World) (pv : Value) (hpr : wp.ownsRow wr.heap.size 89 1 pv ys.length ((rsOf rv ys.length).map ptrV)) (hpb : Below wr.heap.size wr wp) => collect_t d w.heap.size 5000 0 u1 u2 pv W F (rsOf rv ys.length) ys wp (HT.out.more hpb).h HG.out (HT.out.more hpb).below.size (by omega) (roots_own HT.out.row rfl HT.out.h HT.out.rd (fun x hx => (HFI.out x hx).2) (by omega) hpr hpb))
            have HPT := Lib.hid (pointers_own w.heap.size ys.length rv (Ws ys) wr HT.out.row (by omega))
            have HTWO := Lib.hid htw
            have HZLT := Lib.hid hzlt
            have HG1 := Lib.hid hg1
            have HR1 := Lib.hid hr1
            have HZL := Lib.hid hzl
            clear hsnd hdone htw hzlt hg1 hr1 hzl
            go_wp2_with fail
            refine HPT.out.mono ?_
            rintro e wp ⟨pv, rfl, hpr, hpb⟩
            have HC1 := Lib.hid (HCT.out wp pv hpr hpb)
            have HPB := Lib.hid hpb
            clear hpr hpb HCT HPT
            go_wp2_with fail
            refine HC1.out.mono ?_
            intro e wq hq
            obtain ⟨rfl, ⟨y1, y2, hT1⟩, _⟩ := HT.out.col HPB.out hq
            generalize (colS W F ys).2 = V at *
            generalize Go.Proofs.Ytmljelcmjagjjaa.mk W (colS W F ys).1 = F1 at *
            generalize colR W F ys = zs at *
            have HT1 := Lib.hid hT1
            have HW1 := Lib.hid (words_t _ _ _ _ _ _ _ _ wq hT1.h (by omega))
            clear hq hT1 HC1
            go_wp2_with fail
            refine HW1.out.mono ?_
            rintro e wA ⟨wv1, rfl, hwv1, hbA⟩
            have HL1 := Lib.hid (lwords_t wv1 V wA (RdV.of_own hwv1) (by omega))
            have HBA := Lib.hid hbA
            clear hwv1 hbA HW1
            go_wp2_with fail
            refine HL1.out.mono ?_
            rintro e wB ⟨av, rfl, hav, hbB⟩
            have hAB : Below wq.heap.size wq wB := HBA.out.trans (hbB.mono HBA.out.size)
            have hTB := HT1.out.more hAB
            have HL2 := Lib.hid (lwords_t rv zs wB (RdV.of_own hTB.row) (by have := HZL.out; omega))
            have HAV : Hid (OwnU wB w.heap.size av V) := own_base hav (Nat.le_trans HT1.out.below.size HBA.out.size)
            have HTB := Lib.hid hTB
            clear hav hbB hAB hTB HL1
            go_wp2_with fail
            refine HL2.out.mono ?_
            rintro e wC ⟨bv2, rfl, hbv, hbC⟩
            have hTC := HTB.out.more hbC
            have HAC : Hid (OwnU wC w.heap.size av V) := own_below HAV.out hbC
            have HBC : Hid (OwnU wC w.heap.size bv2 zs) := own_base hbv HTB.out.below.size
            have HTC := Lib.hid hTC
            have HPT2 := Lib.hid (pointers_own w.heap.size zs.length rv (Ws zs) wC hTC.row (by have := HZL.out; omega))
            have HCT2 := Lib.hid (fun (wp : World) (pv : Value) (hpr : wp.ownsRow wC.heap.size 89 1 pv zs.length ((rsOf rv zs.length).map ptrV)) (hpb : Below wC.heap.size wC wp) => collect_t d w.heap.size 5000 1 y1 y2 pv V F1 (rsOf rv zs.length) zs wp (hTC.more hpb).h HG1.out (hTC.more hpb).below.size (by omega) (roots_own hTC.row rfl hTC.h hTC.rd HZLT.out (by have := HZL.out; omega) hpr hpb))
            clear hbv hbC hTC HL2
            go_wp2_with fail
            refine HPT2.out.mono ?_
            rintro e wD ⟨pv2, rfl, hpr, hpb⟩
            have HC2 := Lib.hid (HCT2.out wD pv2 hpr hpb)
            have HPB2 := Lib.hid hpb
            clear hpr hpb HCT2 HPT2
            go_wp2_with fail
            refine HC2.out.mono ?_
            intro e wE hq
            obtain ⟨rfl, ⟨x1, x2, hTE⟩, hkE⟩ := HTC.out.col HPB2.out hq
            rw [HTWO.out.1, HTWO.out.2.1, HTWO.out.2.2] at hTE
            have hTD := HTC.out.more HPB2.out
            have HAE : Hid (OwnU wE w.heap.size av V) := hTD.keep hkE (own_below HAC.out HPB2.out)
            have HBE : Hid (OwnU wE w.heap.size bv2 zs) := hTD.keep hkE (own_below HBC.out HPB2.out)
            have HTE := Lib.hid hTE
            have HW2 := Lib.hid (words_t _ _ _ _ _ _ _ _ wE hTE.h (by omega))
            clear hq hTE hkE hTD HC2
            go_wp2_with fail
            refine HW2.out.mono ?_
            rintro e wG ⟨wv2, rfl, hwv2, hbG⟩
            have HLD2 := Lib.hid (load_t 5000 wv2 V F1 wG (RdV.of_own hwv2) HR1.out (by omega) (by omega) (by omega))
            have HBG := Lib.hid hbG
            clear hwv2 hbG HW2
            go_wp2_with fail
            refine HLD2.out.mono ?_
            rintro e wH ⟨g, g1, g2, rfl, hgH, hbH, _⟩
            have hEH : Below wE.heap.size wE wH := HBG.out.trans (hbH.mono HBG.out.size)
            have hE : TwE w wH d g V F1 rv av bv2 zs x1 x2 g1 g2 := by
              have hs := Nat.le_trans HTE.out.below.size HBG.out.size
              exact ⟨HTE.out.more hEH, own_below HAE.out hEH, own_below HBE.out hEH, ⟨hgH.cell, own_base hgH.own1 hs, own_base hgH.own2 hs⟩⟩
            have HE := Lib.hid hE
            have HW3 := Lib.hid (words_t _ _ _ _ _ _ _ _ wH hE.t.h (by omega))
            clear hgH hbH hEH hE HLD2
            go_wp2_with fail
            refine HW3.out.mono ?_
            rintro e wI ⟨wv3, rfl, hwv3, hbI⟩
            have HEI : Hid (TwE w wI d g V F1 rv av bv2 zs x1 x2 g1 g2) := HE.out.more hbI
            have HL3 := Lib.hid (lwords_t wv3 V wI (RdV.of_own hwv3) (by omega))
            clear hwv3 hbI HW3
            go_wp2_with fail
            refine HL3.out.mono ?_
            rintro e wJ ⟨wv4, rfl, hwv4, hbJ⟩
            have HEJ : Hid (TwE w wJ d g V F1 rv av bv2 zs x1 x2 g1 g2) := HEI.out.more hbJ
            have HSM1 := Lib.hid (same_yes wv4 av V wJ (RdV.of_own hwv4) (RdV.of_own HEJ.out.a) (by omega))
            clear hwv4 hbJ HL3
            go_wp2_with fail
            refine HSM1.out.mono ?_
            rintro e wK ⟨rfl, hbK⟩
            have HEK : Hid (TwE w wK d g V F1 rv av bv2 zs x1 x2 g1 g2) := HEJ.out.more hbK
            have HL4 := Lib.hid (lwords_t rv zs wK (RdV.of_own HEK.out.t.row) (by have := HZL.out; omega))
            clear hbK HSM1
            go_wp2_with fail
            refine HL4.out.mono ?_
            rintro e wL ⟨wv5, rfl, hwv5, hbL⟩
            have HEL : Hid (TwE w wL d g V F1 rv av bv2 zs x1 x2 g1 g2) := HEK.out.more hbL
            have HSM2 := Lib.hid (same_yes wv5 bv2 zs wL (RdV.of_own hwv5) (RdV.of_own HEL.out.b) (by have := HZL.out; omega))
            clear hwv5 hbL HL4
            go_wp2_with fail
            refine HSM2.out.mono ?_
            rintro e wM ⟨rfl, hbM⟩
            have HEM : Hid (TwE w wM d g V F1 rv av bv2 zs x1 x2 g1 g2) := HEL.out.more hbM
            have HW5 := Lib.hid (words_t _ _ _ _ _ _ _ _ wM HEM.out.g (by omega))
            clear hbM HSM2
            go_wp2_with fail
            refine HW5.out.mono ?_
            rintro e wN ⟨wv6, rfl, hwv6, hbN⟩
            have HEN : Hid (TwE w wN d g V F1 rv av bv2 zs x1 x2 g1 g2) := HEM.out.more hbN
            have HL6 := Lib.hid (lwords_t wv6 V wN (RdV.of_own hwv6) (by omega))
            clear hwv6 hbN HW5
            go_wp2_with fail
            refine HL6.out.mono ?_
            rintro e wO ⟨wv7, rfl, hwv7, hbO⟩
            have HEO : Hid (TwE w wO d g V F1 rv av bv2 zs x1 x2 g1 g2) := HEN.out.more hbO
            have HSM3 := Lib.hid (same_yes wv7 av V wO (RdV.of_own hwv7) (RdV.of_own HEO.out.a) (by omega))
            clear hwv7 hbO HL6
            go_wp2_with fail
            refine HSM3.out.mono ?_
            rintro e wP ⟨rfl, hbP⟩
            have HEP : Hid (TwE w wP d g V F1 rv av bv2 zs x1 x2 g1 g2) := HEO.out.more hbP
            have HCO := Lib.hid (collections_t _ _ _ _ _ _ _ _ wP HEP.out.t.h)
            clear hbP HSM3
            go_wp2_with fail
            refine HCO.out.mono ?_
            rintro e w' ⟨rfl, rfl⟩
            go_wp2_with fail
            go_ret
            exact ⟨rfl, HEP.out.t.below⟩
end Go.Proofs.Ytmljelcmjagjjaa
