/- moveParts: the parts of what was moved. -/
import Derived.Test.YtkdhajiplonloaaHeaJ
namespace Go.Proofs.Ytkdhajiplonloaa
open Go.RowKit HeaM

/-- The blocks that may be written while parts are moved: of the blocks from B0 on, those of the new heap, and rows of marks. -/
def SB (w : World) (b : Nat) (v1 v2 : Value) (t gt B0 : Nat) : Nat → Prop := fun k => three b v1 v2 k ∨ (B0 ≤ k ∧ (k = t ∨ k = gt ∨ ∃ cur, w.heap[k]? = some (.cells cur 4 (0, 0))))

theorem SB.step {w wr w' : World} {b base q c : Nat} {v1 v2 : Value} {t B0 gt : Nat} {u2 : Value} {W : List Nat} {F : List Bool} {s : St} (h : Kept (SB w b v1 v2 t gt B0) w wr) (hm : MS wr b base q c v1 v2 t B0 gt u2 W F s) (k : Kept (S2 b v1 v2 t gt u2) wr w') : Kept (SB w b v1 v2 t gt B0) w w' := by
  refine ⟨k.os.trans h.os, k.tape.trans h.tape, k.output.trans h.output, Nat.le_trans h.size k.size, fun i hi hs => ?_⟩
  have h1 := h.block i hi hs
  refine (k.block i (Nat.lt_of_lt_of_le hi h.size) fun h2 => hs ?_).trans h1
  rcases h2 with h2 | rfl | rfl | h2
  · exact .inl h2
  · exact .inr ⟨hm.tB, .inl rfl⟩
  · exact .inr ⟨hm.toB i (.inr (.inl rfl)), .inr (.inl rfl)⟩
  · refine .inr ⟨hm.toB i (.inr (.inr h2)), .inr (.inr ?_)⟩
    rcases hm.to.own2.2 with ⟨rfl, _⟩ | ⟨g, cap, cur, rfl, _, hg, _⟩
    · simp [Value.ownBlock] at h2
    · simp only [Value.ownBlock, Option.some.injEq] at h2
      subst h2
      exact ⟨cur, by rw [← h1]; exact hg⟩
theorem SB.below {w wr w' : World} {b : Nat} {v1 v2 : Value} {t B0 gt : Nat} (h : Kept (SB w b v1 v2 t gt B0) w wr) (k : Below wr.heap.size wr w') : Kept (SB w b v1 v2 t gt B0) w w' :=
  h.trans (Below.kept (n := wr.heap.size) k (fun i h1 h2 => by omega))
theorem SB.store {w wr : World} {b : Nat} {v1 v2 : Value} {t B0 gt i : Nat} (h : Kept (SB w b v1 v2 t gt B0) w wr) (hg : B0 ≤ gt) (u : Value) : Kept (SB w b v1 v2 t gt B0) w (wr.setCell ⟨gt, i, none⟩ u) :=
  Kept.setCell (p := ⟨gt, i, none⟩) h (.inl (.inr ⟨hg, .inr (.inl rfl)⟩)) u

/-- A part is written where it stands. -/
theorem MS.store {w : World} {b base q c : Nat} {v1 v2 : Value} {t B0 gt : Nat} {u2 : Value} {W : List Nat} {F : List Bool} {s : St} {j y : Nat} (h : MS w b base q c v1 v2 t B0 gt u2 W F s) (hi : Inv W F (s.1, s.2.set j y)) : MS (w.setCell ⟨gt, j, none⟩ (.int .u64 (y : Int))) b base q c v1 v2 t B0 gt u2 W F (s.1, s.2.set j y) := by
  have hg := h.toB gt (.inr (.inl rfl))
  refine ⟨h.h.setOther (fun hs => by have := h.far _ hs; omega), ?_, hi, h.far, h.tB, by have := h.size; simpa using this⟩
  simp only [List.length_set]
  exact h.to.store

theorem to_cell {w : World} {b base q c : Nat} {v1 v2 : Value} {t B0 gt : Nat} {u2 : Value} {W : List Nat} {F : List Bool} {s : St} {j : Nat} (h : MS w b base q c v1 v2 t B0 gt u2 W F s) (hj : j < s.2.length) : w.cell? ⟨gt, j, none⟩ = some (.int .u64 (s.2.getD j 0 : Int)) := by
  rw [h.to.own1.cellAt _ (by omega), List.getD_eq_getElem?_getD]
  simp only [Ws, List.getElem?_map]
  rw [List.getElem?_eq_getElem hj]
  rfl

set_option maxHeartbeats 4000000 in
set_option maxRecDepth 100000 in
theorem moveParts_t (b base q c : Nat) (v1 v2 : Value) (t B0 gt : Nat) (u2 : Value) (W : List Nat) (F : List Bool) (s : St) (w : World) (h : MS w b base q c v1 v2 t B0 gt u2 W F s) (hg : Good W F) :
    Calls Try.prog 31 #[.pointer (some ⟨b, 0, none⟩), .pointer (some ⟨t, 0, none⟩)] w fun e w' => e = .returned (.tuple #[]) ∧ ∃ u2', MS w' b base q c v1 v2 t B0 gt u2' W F (goP W F (W.length + 1) 0 s) ∧ Kept (SB w b v1 v2 t gt B0) w w' := by
  have hmx := hg.max
  have hmx' : (W.length : Int) ≤ 10000000 := by omega
  have HG := Lib.hid hg
  have HM := Lib.hid h
  clear h hg
  go_enter Try.func31, Try.ntmps31
  go_wp2_with fail
  go_loopw [4] (fun a wr => ∃ (o m n : Nat) (s' : St) (u2' : Value), o ≤ W.length ∧ a = .int .i64 o ∧ Hid (MS wr b base q c v1 v2 t B0 gt u2' W F s' ∧ AtP W s' m o ∧ Kept (SB w b v1 v2 t gt B0) w wr ∧ goP W F n o s' = goP W F (W.length + 1) 0 s ∧ W.length < n + o)) (fun a _ => W.length - (intOf a).toNat)
  case atStart => exact ⟨0, 0, W.length + 1, s, u2, Nat.zero_le _, rfl, HM.out, ⟨Nat.zero_le _, rfl⟩, Kept.refl _ _, rfl, by omega⟩
  case round =>
    obtain ⟨o, m, n, s', u2', hoW, rfl, HK⟩ := hrel
    obtain ⟨c0, c1, c2, c3⟩ := HK.out.1.to.cells
    have htl := HK.out.1.inv.tot_le
    have hsl := HK.out.1.inv.len
    have HSL : Hid (s'.2.length ≤ W.length) := by show s'.2.length ≤ W.length; omega
    clear htl hsl
    by_cases hlt : o < s'.2.length
    · have hlt' : (o : Int) < (s'.2.length : Int) := by omega
      obtain ⟨p, hp⟩ := HK.out.2.1.obj HK.out.1.inv hlt
      have HP := Lib.hid hp
      have hoa := objAt_to hp HK.out.2.1 HK.out.1.inv
      have hN := szX_pos (W.getD p.1 0)
      have hfit := hp.fits
      have hlen : (mk W s'.1).length = s'.2.length := by rw [mk_length, HK.out.1.inv.len]
      have hsl := HSL.out
      -- one object
      have hgo : ∃ n', goP W F n' (o + szX (W.getD p.1 0)) (stp W F o s') = goP W F (W.length + 1) 0 s ∧ W.length < n' + (o + szX (W.getD p.1 0)) := by
        obtain ⟨h1, h2⟩ := HK.out.2.2.2
        cases n with
        | zero => omega
        | succ n' =>
          refine ⟨n', ?_, by omega⟩
          rw [← h1]
          conv => rhs; unfold goP
          rw [if_pos hlt, hp.head]
      have HGO := Lib.hid hgo
      have HOA := Lib.hid hoa
      have HLEN := Lib.hid hlen
      clear hgo hp hlen
      obtain ⟨N, hNe⟩ : ∃ N, szX (W.getD p.1 0) = N := ⟨_, rfl⟩
      have HNE := Lib.hid hNe
      rw [hNe] at hN hfit hoa
      clear hNe
      have e2o : ((2 * o : Nat) : Int) = 2 * (o : Int) := by omega
      by_cases hk : W.getD p.1 0 % 256 = 3
      · rw [hk] at hoa
        have HPT := Lib.hid (parts_text t B0 0 0 _ u2' s'.2 (mk W s'.1) o _ _ _ wr HK.out.1.to hoa HLEN.out (by omega))
        have hstp : stp W F o s' = s' := by unfold stp; rw [HP.out.head, if_pos hk]
        have HST := Lib.hid hstp
        clear hoa hstp
        go_wp2_with fail
        refine HPT.out.mono ?_
        rintro e w1 ⟨rfl, nq, rfl⟩
        go_wp2_with fail
        refine wp_loop_rounds 1 ?_
        rw [rounds_succ]
        have HM2 : Hid (MS (wr.drewN nq) b base q c v1 v2 t B0 gt u2' W F s') := HK.out.1.drewN nq
        have HK2 : Hid (Kept (SB w b v1 v2 t gt B0) w (wr.drewN nq)) := SB.below HK.out.2.2.1 (below_drewN _ _ _)
        have HP2 : Hid (OAt W F s' m o p) := HP.out
        have HAT2 : Hid (AtP W s' m o) := HK.out.2.1
        generalize wr.drewN nq = wo at *
        have hoa2 := objAt_to HP2.out HAT2.out HM2.out.inv
        rw [HNE.out] at hoa2
        have hle2 := HM2.out.inv.tot_le
        have hln2 := HM2.out.inv.len
        have hfit2 := HP2.out.fits
        rw [HNE.out] at hfit2
        have HOB := Lib.hid (object_t t B0 0 0 _ u2' s'.2 (mk W s'.1) o _ _ _ N wo HM2.out.to hoa2 (by rw [mk_length, hln2]) (by omega))
        have hoN : o + N ≤ W.length := by omega
        clear hoa2 hle2 hln2 hfit2
        go_wp2_with fail
        refine HOB.out.mono ?_
        rintro e w5 ⟨g5, cap5, nq5, -, -, -, rfl, rfl⟩
        obtain ⟨n2, hg1, hg2⟩ := HGO.out
        rw [HNE.out] at hg1 hg2
        have hnx := HP2.out.next
        rw [HNE.out] at hnx
        have FIN : Hid (MS (wo.drewN nq5) b base q c v1 v2 t B0 gt u2' W F s' ∧ AtP W s' (m + 1) (o + N) ∧ Kept (SB w b v1 v2 t gt B0) w (wo.drewN nq5) ∧ goP W F n2 (o + N) s' = goP W F (W.length + 1) 0 s ∧ W.length < n2 + (o + N)) :=
          ⟨HM2.out.drewN nq5, hnx, SB.below HK2.out (below_drewN _ _ _), by rw [← hg1, HST.out], hg2⟩
        clear hg1 hg2 hnx
        go_wp2_with fail
        go_roundw
        case rel => exact ⟨o + N, m + 1, n2, s', u2', hoN, by go_num, FIN.out⟩
        case measure => simp [intOf]; omega
      · have HPT := Lib.hid (parts_t t B0 0 0 _ u2' s'.2 (mk W s'.1) o _ _ _ N wr HK.out.1.to hoa HLEN.out (by omega) hk)
        have hstp : stp W F o s' = prts W F o s' (N - 1) := by unfold stp; rw [HP.out.head, if_neg hk, HNE.out]
        have HST := Lib.hid hstp
        clear hoa hstp
        go_wp2_with fail
        refine HPT.out.mono ?_
        rintro e w1 ⟨g', cap', A, K, nq, hv, hA, hK, hKm, rfl, rfl⟩
        simp only [Value.slice.injEq, Option.some.injEq, Addr.mk.injEq, and_true] at hv
        obtain ⟨rfl, -, rfl⟩ := hv
        have HM1 : Hid (MS (wr.drewN nq) b base q c v1 v2 t B0 gt u2' W F s') := HK.out.1.drewN nq
        have HK1 : Hid (Kept (SB w b v1 v2 t gt B0) w (wr.drewN nq)) := SB.below HK.out.2.2.1 (below_drewN _ _ _)
        clear c0 c1 c2 c3
        generalize wr.drewN nq = wo at *
        obtain ⟨M, hM⟩ : ∃ M, N - 1 = M := ⟨_, rfl⟩
        rw [hM] at hA hK
        have HMM := Lib.hid hM
        have hM2 : N = M + 1 := by omega
        have HM2' := Lib.hid hM2
        simp only [hM]
        clear hM hM2
        unfold maxLen at hKm
        go_wp2_with fail
        go_loopw [22] (fun a wr => ∃ (i : Nat) (u3 : Value), i ≤ M ∧ a = .int .i64 i ∧ Hid (MS wr b base q c v1 v2 t B0 gt u3 W F (prts W F o s' i) ∧ Kept (SB w b v1 v2 t gt B0) w wr)) (fun a _ => M - (intOf a).toNat)
        case atStart => exact ⟨0, u2', Nat.zero_le _, rfl, HM1.out, HK1.out⟩
        case round =>
          obtain ⟨i, u3, hi, rfl, HI⟩ := hrel
          by_cases hil : i < M
          · obtain rfl : A = ⟨gt, o + 1, none⟩ := by
              rcases hA with hA | hA
              · omega
              · exact hA
            have hpi := PI.all HK.out.1.inv HK.out.2.1 HP.out HG.out i (by rw [HNE.out]; have := HM2'.out; omega)
            have hst := hpi.step HK.out.2.1 HP.out (by rw [HNE.out]; have := HM2'.out; omega) HG.out
            have hnx := prts_succ W F o s' i
            rw [← hnx] at hst
            have hgl := hpi.grew.len
            have hfl := HI.out.1.inv.len
            have htl := HI.out.1.inv.tot_le
            have hfit' := hfit
            have hNM := HM2'.out
            have hxx : (prts W F o s' i).2.getD (o + 1 + i) 0 < 18446744073709551616 := getD_lt hpi.inv.words _
            have hcell : wr.cell? ⟨gt, o + 1 + i, none⟩ = some (.int .u64 ((prts W F o s' i).2.getD (o + 1 + i) 0 : Int)) := by
              rw [HI.out.1.to.own1.cellAt _ (by omega), List.getD_eq_getElem?_getD]
              simp only [Ws, List.getElem?_map]
              rw [List.getElem?_eq_getElem (by omega)]
              rfl
            have hmv : ∀ W1, Below wr.heap.size wr W1 → Calls Try.prog 45 #[.pointer (some ⟨b, 0, none⟩), .pointer (some ⟨t, 0, none⟩), .int .u64 ((prts W F o s' i).2.getD (o + 1 + i) 0 : Int)] W1 fun e w' => MovePost W1 w' b base q c v1 v2 t B0 gt u3 W F (mv W F (prts W F o s' i) ((prts W F o s' i).2.getD (o + 1 + i) 0)) e :=
              fun W1 hb => move_any b base q c v1 v2 t B0 gt u3 W F _ _ W1 (HI.out.1.below hb) HG.out hxx
            obtain ⟨d0, d1, d2, d3⟩ := HI.out.1.to.cells
            have hprt : prts W F o s' (i + 1) = ((mv W F (prts W F o s' i) ((prts W F o s' i).2.getD (o + 1 + i) 0)).1.1, (mv W F (prts W F o s' i) ((prts W F o s' i).2.getD (o + 1 + i) 0)).1.2.set (o + 1 + i) (mv W F (prts W F o s' i) ((prts W F o s' i).2.getD (o + 1 + i) 0)).2) := hnx
            have hgrow := (mv_grew W F (prts W F o s' i) ((prts W F o s' i).2.getD (o + 1 + i) 0)).1.len
            have hi0 : (i : Int) < (M : Int) := by omega
            have hTl : ((prts W F o s' i).2.length : Int) ≤ 10000000 := by omega
            have hoi : o + 1 + i < (prts W F o s' i).2.length := by omega
            have hoi' : (o : Int) + 1 + (i : Int) < ((prts W F o s' i).2.length : Int) := by omega
            have hoi0 : (0 : Int) ≤ (o : Int) + 1 + (i : Int) := by omega
            have eo1 : IntKind.i64.wrap ((o : Int) + 1) = (o : Int) + 1 := IntWalk.i64_in _ (by omega)
            have eo2 : IntKind.i64.wrap ((o : Int) + 1 + (i : Int)) = (o : Int) + 1 + (i : Int) := IntWalk.i64_in _ (by omega)
            have en : ((o : Int) + 1 + (i : Int)).toNat = o + 1 + i := by omega
            have HMV := Lib.hid hmv
            have HPRT := Lib.hid hprt
            have HIN := Lib.hid hst.inv
            have HGR := Lib.hid hgrow
            generalize mv W F (prts W F o s' i) ((prts W F o s' i).2.getD (o + 1 + i) 0) = r0 at *
            generalize (prts W F o s' i).2.getD (o + 1 + i) 0 = x at *
            have hx' : (x : Int) ≤ 18446744073709551615 := by omega
            clear hmv hprt hgrow hst hnx hgl hfl htl hpi
            go_wp2_with fail
            go_region_with ((go_at_call 45; refine (HMV.out _ (by first | exact Below.refl _ _ | exact (Below.refl _ _).drew)).mono ?_; rintro e w3 ⟨rfl, u4, hM3, hK3⟩; have q2 := hM3.to.cells.2.2.1; have hln3 : o + 1 + i < r0.1.2.length := (Nat.lt_of_lt_of_le hoi HGR.out); have hln3i : (o : Int) + 1 + (i : Int) < (r0.1.2.length : Int) := (by omega); have hc3 := to_cell hM3 hln3; have hf3 := hM3.to.own1.frozenAt (o + 1 + i); have HM3 := Lib.hid hM3; have HK3 := Lib.hid hK3; clear hM3 hK3))
            all_goals
              have fin : MS (w3.setCell ⟨gt, o + 1 + i, none⟩ (.int .u64 (r0.2 : Int))) b base q c v1 v2 t B0 gt u4 W F (prts W F o s' (i + 1)) ∧ Kept (SB w b v1 v2 t gt B0) w (w3.setCell ⟨gt, o + 1 + i, none⟩ (.int .u64 (r0.2 : Int))) := by
                refine ⟨?_, SB.store (SB.step (SB.below HI.out.2 (Below.refl _ _).drew) (HI.out.1.below (Below.refl _ _).drew) HK3.out) (HI.out.1.toB gt (.inr (.inl rfl))) _⟩
                have hin := HIN.out
                rw [HPRT.out] at hin ⊢
                exact HM3.out.store hin
              have FIN := Lib.hid fin
              clear fin
              go_wp2_with fail
              go_roundw
              case rel => exact ⟨i + 1, u4, by omega, by go_num, FIN.out⟩
              case measure => simp [intOf]; omega
          · obtain rfl : i = M := by omega
            have hpi := PI.all HK.out.1.inv HK.out.2.1 HP.out HG.out i (by rw [HNE.out]; have := HM2'.out; omega)
            have hn0 := HM2'.out
            have hf0 := hfit
            have HM2 : Hid (MS wr b base q c v1 v2 t B0 gt u3 W F (prts W F o s' i)) := HI.out.1
            have HK2 : Hid (Kept (SB w b v1 v2 t gt B0) w wr) := HI.out.2
            have HP2 : Hid (OAt W F (prts W F o s' i) m o p) := HP.out.grew hpi.grew (hpi.same o (by omega) (by omega))
            have HAT2 : Hid (AtP W (prts W F o s' i) m o) := HK.out.2.1.grew hpi.grew
            have HST2 : Hid (stp W F o s' = prts W F o s' i) := by
              show stp W F o s' = prts W F o s' i
              rw [HST.out, HMM.out]
            clear hpi hn0 hf0
            have hoa2 := objAt_to HP2.out HAT2.out HM2.out.inv
            rw [HNE.out] at hoa2
            have hle2 := HM2.out.inv.tot_le
            have hln2 := HM2.out.inv.len
            have hfit2 := HP2.out.fits
            rw [HNE.out] at hfit2
            have HOB := Lib.hid (object_t t B0 0 0 _ u3 (prts W F o s' i).2 (mk W (prts W F o s' i).1) o _ _ _ N wr HM2.out.to hoa2 (by rw [mk_length, hln2]) (by omega))
            have hoN : o + N ≤ W.length := by omega
            clear hoa2 hle2 hln2 hfit2
            go_wp2_with fail
            refine HOB.out.mono ?_
            rintro e w5 ⟨g5, cap5, nq5, -, -, -, rfl, rfl⟩
            obtain ⟨n2, hg1, hg2⟩ := HGO.out
            rw [HNE.out] at hg1 hg2
            have hnx := HP2.out.next
            rw [HNE.out] at hnx
            have FIN : Hid (MS (wr.drewN nq5) b base q c v1 v2 t B0 gt u3 W F (prts W F o s' i) ∧ AtP W (prts W F o s' i) (m + 1) (o + N) ∧ Kept (SB w b v1 v2 t gt B0) w (wr.drewN nq5) ∧ goP W F n2 (o + N) (prts W F o s' i) = goP W F (W.length + 1) 0 s ∧ W.length < n2 + (o + N)) :=
              ⟨HM2.out.drewN nq5, hnx, SB.below HK2.out (below_drewN _ _ _), by rw [← hg1, HST2.out], hg2⟩
            clear hg1 hg2 hnx
            go_wp2_with fail
            go_roundw
            case rel => exact ⟨o + N, m + 1, n2, (prts W F o s' i), u3, hoN, by go_num, FIN.out⟩
            case measure => simp [intOf]; omega
    · have hs : goP W F n o s' = s' := by
        cases n with
        | zero => rfl
        | succ n' => unfold goP; rw [if_neg hlt]
      have FIN : Hid (MS wr b base q c v1 v2 t B0 gt u2' W F (goP W F (W.length + 1) 0 s) ∧ Kept (SB w b v1 v2 t gt B0) w wr) := by
        have h := HK.out
        rw [hs] at h
        refine ⟨?_, h.2.2.1⟩
        rw [← h.2.2.2.1]
        exact h.1
      have hlt' : ¬ (o : Int) < (s'.2.length : Int) := by omega
      clear hs HK
      go_wp2_with fail
      go_end0
      exact ⟨rfl, ⟨u2', FIN.out.1⟩, FIN.out.2⟩
end Go.Proofs.Ytkdhajiplonloaa
