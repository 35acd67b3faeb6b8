/- The law of moves and the same ones back. -/
import Derived.Test.YtjmfgpklemhomabLFours
import Derived.Test.YtjmfgpklemhomabTurI
import Derived.IntWalk
namespace Go.Proofs.Ytjmfgpklemhomab
open Go.RowKit TurF TurP

theorem back_len (l : List Mv) : (back l).length = l.length := by unfold back; simp
theorem back_take (l : List Mv) (k t : Nat) (h : l.length = t + 1 + k) : (back l).take (k + 1) = (back l).take k ++ [((l[t]'(by omega)).1, -(l[t]'(by omega)).2)] := by
  have e : (back l)[k]? = some ((l[t]'(by omega)).1, -(l[t]'(by omega)).2) := by
    unfold back
    rw [List.getElem?_reverse (by rw [List.length_map]; omega), List.length_map, show l.length - 1 - k = t by omega, List.getElem?_map, List.getElem?_eq_getElem (by omega : t < l.length)]
    rfl
  rw [List.take_add_one, e]
  rfl
theorem back_far (l : List Mv) (h : ∀ m ∈ l, -999 ≤ m.2 ∧ m.2 ≤ 999) : (l ++ back l).any far = false := by
  refine far_small fun m hm => ?_
  rcases List.mem_append.1 hm with h1 | h1
  · exact h m h1
  · unfold back at h1
    rw [List.mem_reverse] at h1
    obtain ⟨x, hx, rfl⟩ := List.mem_map.1 h1
    have := h x hx
    dsimp only
    omega

/-- Moves of the call's own at their index: the value written out. -/
theorem move_at' {w : World} {base i : Nat} {v : Value} {ps : List Mv} {m : Mv} (h : OwnM w base v ps) (hi : ps[i]? = some m) :
    ∃ g c, v = .slice (some ⟨g, 0, none⟩) ps.length c ∧ w.cell? ⟨g, i * 2, none⟩ = some (.bool m.1) ∧ w.cell? ⟨g, i * 2 + 1, none⟩ = some (.int .i64 m.2) := by
  have hl := (List.getElem?_eq_some_iff.1 hi).1
  obtain ⟨g, c, h1, h2, h3⟩ := move_at (Lib.hid h) (Below.refl _ w) (Nat.le_refl _) hl
  rw [(List.getElem?_eq_some_iff.1 hi).2] at h2 h3
  exact ⟨g, c, h1, h2, h3⟩

set_option maxHeartbeats 4000000 in
set_option maxRecDepth 100000 in
theorem back_walk (v : Value) (l : List Mv) (w : World) (h : RdM w v l) :
    Calls Try.prog 4 #[v] w fun e w' => e = .returned (.bool true) ∧ Below w.heap.size w w' := by
  obtain ⟨i0, hi0, hz0, hz1, hz2⟩ := info_parts moveInfo
  have HR0 := Lib.hid h
  clear h
  have hn := small_len l
  go_enter Try.func4, Try.ntmps4
  go_wp2_with fail
  refine (awake w).mono ?_
  rintro e w1 ⟨rfl, hb1⟩
  have HR1 := Lib.hid (HR0.out.below hb1 (Nat.le_refl _))
  have BE1 := Lib.hid hb1
  clear hb1 HR0
  go_wp2_with fail
  refine (small_any v l w1 HR1.out).mono ?_
  rintro e w2 ⟨m, rfl, hm2, hb2⟩
  have hlen := lenM hm2
  have SW := Lib.hid (small_within l)
  have HF := Lib.hid (back_run (small l))
  have HM := Lib.hid hm2
  have B2 := Lib.hid hb2
  clear hm2 hb2 HR1
  generalize small l = ms at *
  go_wp2_with fail
  have ST : Hid (OwnM w2 w1.heap.size m (ms ++ (back ms).take 0)) := by
    show OwnM w2 w1.heap.size m (ms ++ (back ms).take 0)
    rw [List.take_zero, List.append_nil]
    exact HM.out
  clear hlen HM
  go_loopw [3, 5] (fun q i wr => ∃ (k : Nat) (Q : Value), k ≤ ms.length ∧ i = .int .i64 ((ms.length : Int) - 1 - (k : Int)) ∧ Q = q ∧ OwnM wr w1.heap.size Q (ms ++ (back ms).take k) ∧ Below w1.heap.size w1 wr) (fun _ i _ => (intOf i + 1).toNat)
  case atStart => exact ⟨0, _, by omega, congrArg _ (by omega), rfl, ST.out, B2.out⟩
  case round =>
    clear ST
    obtain ⟨k, q, hk, rfl, rfl, hown, hb⟩ := hrel
    have hsz := hb.size
    have hbl := back_len ms
    have hll : (ms ++ (back ms).take k).length = ms.length + k := by rw [List.length_append, List.length_take]; omega
    by_cases hlt : k < ms.length
    · obtain ⟨t, ht⟩ : ∃ t, ms.length = t + 1 + k := ⟨ms.length - 1 - k, by omega⟩
      have hat : (ms ++ (back ms).take k)[t]? = some (ms[t]'(by omega)) := by
        rw [List.getElem?_append_left (by omega)]
        exact List.getElem?_eq_getElem _
      obtain ⟨g, c, rfl, c1, c2⟩ := move_at' hown hat
      have HS := Lib.hid (back_take ms k t ht)
      have hbn := SW.out (ms[t]'(by omega)) (List.getElem_mem _)
      have e1 : (ms.length : Int) - 1 - (k : Int) = (t : Int) := by omega
      rw [e1]
      clear e1 hat
      generalize ms[t]'_ = p at *
      obtain ⟨b, n⟩ := p
      dsimp only at c1 c2 hbn
      have hown' : wr.ownsRow w1.heap.size 43 2 (.slice (some ⟨g, 0, none⟩) (ms.length + k) c) (ms.length + k) (CsM (ms ++ (back ms).take k)) := by
        have h1 := hown
        unfold OwnM at h1
        rw [hll] at h1
        exact h1
      clear hown
      rename _ => hown
      rw [hll]
      have HB := Lib.hid hb
      have htl : t < ms.length := by omega
      have htk : t + k < ms.length := by omega
      have HT := Lib.hid ht
      have hidx : (t : Int) < (ms.length : Int) + (k : Int) := by omega
      have hneg : IntKind.i64.wrap (-n) = -n := IntWalk.i64_in _ (by omega)
      have HN := Lib.hid hneg
      clear hb ht hll hneg
      go_wp2_with fail
      have hneg := HN.out
      go_region_law (
        (refine step_append_lies _ (by rfl) _ _ _ (by rfl) w1.heap.size 43 i0 _ 2 16 Try.underlying22 hi0 hz0 hz1 hz2 rfl (by omega) (.slice (some ⟨g, 0, none⟩) (ms.length + k) c) (ms.length + k) (CsM (ms ++ (back ms).take k)) (by rfl) ((World.ownsRow.alloc hown _).drew) ⟨wr.heap.size, 0, none⟩ 1 1 [.bool b, .int .i64 (-n)] (by rfl) (by rfl) (cell_two_new wr _ _ _) (by simp [Value.oneCell']) (by omega) (by unfold maxLen; omega) (by omega) (by simp; omega) (wr.heap.size + 1) (by simp) ?_
         intro g2 cap2 w2 hown2 hgrow _ _))
      all_goals
        have fin : OwnM w2 w1.heap.size (.slice (some ⟨g2, 0, none⟩) (ms.length + k + 1) cap2) (ms ++ (back ms).take (k + 1)) ∧ Below w1.heap.size w1 w2 := by
          refine ⟨?_, ((HB.out.alloc hsz _).drew).grown hgrow (by simp; omega) (fun k hk => (hown.lt k hk).1)⟩
          have e3 : (ms ++ (back ms).take (k + 1)).length = ms.length + k + 1 := by rw [List.length_append, List.length_take]; omega
          unfold OwnM
          rw [e3, HS.out, ← List.append_assoc, CsM_append]
          exact hown2
        have FIN := Lib.hid fin
        clear fin hown2 hgrow hown hneg
        go_wp2
        go_roundw
        case rel => exact ⟨k + 1, _, by omega, congrArg _ (by have := HT.out; omega), rfl, FIN.out.1, FIN.out.2⟩
        case measure => have := HT.out; simp [intOf]
    · have e1 : (ms.length : Int) - 1 - (k : Int) = -1 := by omega
      have e2 : (back ms).take k = back ms := List.take_of_length_le (by omega)
      rw [e1]
      rw [e2] at hown
      have hl2 : ¬ 1000 < (ms ++ back ms).length := by rw [List.length_append, hbl]; omega
      have hf2 := back_far ms SW.out
      have LK := look_good q _ wr hown.rd hl2 hf2
      have AR := fun (w' : World) (hb' : Below wr.heap.size wr w') => area_good q _ w' (hown.rd.below hb' (Nat.le_refl _)) hl2 hf2
      have CL := fun (w' : World) (hb' : Below wr.heap.size wr w') => closed_good q _ w' (hown.rd.below hb' (Nat.le_refl _)) hl2 hf2
      unfold LGood at LK
      unfold CGood at CL
      unfold AGood at AR
      rw [HF.out.2.1] at LK
      rw [HF.out.1] at CL
      rw [HF.out.2.2] at AR
      have LK' := Lib.hid LK
      have CL' := Lib.hid CL
      have AR' := Lib.hid AR
      have BW := Lib.hid (BE1.out.trans (hb.mono BE1.out.size))
      have eq := eqPlace
      clear LK CL AR hown hb hl2 hf2 e1 e2 hll hbl
      go_wp2_with fail
      refine LK'.out.mono ?_
      rintro e w5 ⟨rfl, hb5⟩
      have hb5a := hb5.alloc hb5.size (.cells #[.int .i64 0, .int .i64 1] 29)
      have A5 := Lib.hid (AR'.out _ hb5a)
      have B5 := Lib.hid (BW.out.trans (hb5a.mono BW.out.size))
      have B5' := Lib.hid hb5a
      clear hb5 hb5a LK' AR' BW
      go_wp2_with fail
      refine A5.out.mono ?_
      rintro e w6 ⟨he, hb6⟩
      have hw0 : wrap64 0 = 0 := by unfold wrap64; rfl
      rw [hw0] at he
      subst he
      clear hw0
      have k6 := (hb6.block w5.heap.size (by simp)).trans (heap_alloc_new w5 _)
      have hs5 := B5'.out.size
      have C6 := Lib.hid (CL'.out _ (B5'.out.trans (hb6.mono hs5)))
      have B6 := Lib.hid (B5.out.trans (hb6.mono B5.out.size))
      have l6 := hb6.size
      have K6 := Lib.hid k6
      clear hb6 k6 CL'
      go_wp2_with fail
      refine C6.out.mono ?_
      rintro e w7 ⟨rfl, hb7⟩
      obtain ⟨d1, d2, _, _⟩ := cells_two ((hb7.block w5.heap.size (by simp at l6; omega)).trans K6.out)
      have B7 := Lib.hid (B6.out.trans (hb7.mono B6.out.size))
      clear hb7
      go_wp2_with fail
      go_ret
      exact ⟨rfl, B7.out⟩
end Go.Proofs.Ytjmfgpklemhomab
