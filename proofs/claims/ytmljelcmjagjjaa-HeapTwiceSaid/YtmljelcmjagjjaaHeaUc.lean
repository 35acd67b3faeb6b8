/- Load: hasSoundParts, and the whole. -/
import Derived.Test.YtmljelcmjagjjaaHeaUb
namespace Go.Proofs.Ytmljelcmjagjjaa
open Go.RowKit HeaM

/-- Objects, one behind the other: the next one begins where one ends. -/
theorem ob_next {l done todo : List (List Nat)} {o : Nat} (hl : ∀ s ∈ l, Seg s) (h : SegAt l done todo o) (hlt : o < l.flatten.length) : ∃ s t, todo = s :: t ∧ Ob l.flatten (marks l) o ∧ szX (l.flatten.getD o 0) = s.length := by
  cases todo with
  | nil =>
    have h1 := h.split
    rw [List.append_nil] at h1
    rw [h1, h.at_] at hlt
    omega
  | cons s t =>
    have hs := hl s (by rw [h.split]; simp)
    obtain ⟨e1, _⟩ := h.head hs.1
    refine ⟨s, t, rfl, ?_, by rw [e1]; exact hs.2.1⟩
    refine ob_marks hl o ?_
    have hd := marks_length fun x hx => hl x (by rw [h.split]; exact List.mem_append_left _ hx)
    rw [h.split, h.at_]
    unfold marks at hd ⊢
    rw [List.flatMap_append, List.getElem?_append_right (by omega), hd, Nat.sub_self]
    rfl

set_option maxHeartbeats 4000000 in
set_option maxRecDepth 100000 in
theorem sound_t (b base q c : Nat) (v1 v2 : Value) (l : List (List Nat)) (w : World) (h : HAt w b base q c v1 v2 l.flatten (marks l)) (hl : ∀ s ∈ l, Seg s) (hmx : l.flatten.length ≤ 10000000) (hsd : Sound l.flatten (marks l)) :
    Calls Try.prog 56 #[.pointer (some ⟨b, 0, none⟩)] w fun e w' => e = .returned (.bool true) ∧ ∃ n, w' = w.drewN n := by
  have hg := good_segs hl hmx
  obtain ⟨W, hW⟩ : ∃ W, l.flatten = W := ⟨_, rfl⟩
  obtain ⟨F, hF⟩ : ∃ F, marks l = F := ⟨_, rfl⟩
  rw [hW, hF] at h hsd hg
  rw [hW] at hmx
  obtain ⟨o1, k1, hv1, hc1, hm1⟩ := own_slice h.own1
  have H := Lib.hid h
  have HL := Lib.hid hl
  have HG := Lib.hid hg
  have HSD := Lib.hid hsd
  have HW := Lib.hid hW
  have HF := Lib.hid hF
  clear h hl hg hsd hW hF
  have hmx' : (W.length : Int) ≤ 10000000 := by omega
  unfold maxLen at hm1
  subst hv1
  go_enter Try.func56, Try.ntmps56
  go_wp2_with fail
  go_loopw [3] (fun a wr => ∃ (o : Nat) (done todo : List (List Nat)), o ≤ W.length ∧ a = .int .i64 o ∧ Hid (SegAt l done todo o ∧ ∃ n, wr = w.drewN n)) (fun a _ => W.length - (intOf a).toNat)
  case atStart => exact ⟨0, [], l, Nat.zero_le _, rfl, ⟨rfl, rfl⟩, 0, rfl⟩
  case round =>
    obtain ⟨o, done, todo, ho, rfl, HK⟩ := hrel
    obtain ⟨nw, hnw⟩ := HK.out.2
    have hh : HAt wr b base q c (.slice o1 W.length k1) v2 W F := by rw [hnw]; exact H.out.drewN nw
    have HH := Lib.hid hh
    have HNW := Lib.hid hnw
    obtain ⟨c0, c1, c2, c3⟩ := hh.cells
    clear hh hnw
    by_cases hlt : o < W.length
    · have hlt' : (o : Int) < (W.length : Int) := by omega
      obtain ⟨s, t, rfl, hob, hsz⟩ := ob_next HL.out HK.out.1 (by rw [HW.out]; exact hlt)
      rw [HW.out, HF.out] at hob
      rw [HW.out] at hsz
      have hoa := hob.objAt
      have hfit := hob.fits
      have hpos := szX_pos (W.getD o 0)
      have hrl := rst_length hob
      have hnext : SegAt l (done ++ [s]) t (o + szX (W.getD o 0)) := by rw [hsz]; exact HK.out.1.next
      have HNX := Lib.hid hnext
      have HOB := Lib.hid hob
      have HOA := Lib.hid hoa
      obtain ⟨N, hN⟩ : ∃ N, szX (W.getD o 0) = N := ⟨_, rfl⟩
      rw [hN] at hfit hpos hrl
      have HNN := Lib.hid hN
      clear hsz hnext hob hoa hN
      have e2o : ((2 * o : Nat) : Int) = 2 * (o : Int) := by omega
      by_cases hk : W.getD o 0 % 256 = 3
      · have HPT : Hid (Calls Try.prog 44 #[.pointer (some ⟨b, 0, none⟩), .int .u64 ((2 * o : Nat) : Int)] wr fun e w' => e = .returned (.slice none 0 0) ∧ ∃ nq, w' = wr.drewN nq) := by
          have h1 := HOA.out
          rw [hk] at h1
          exact parts_text b base q c _ v2 W F o _ _ _ wr HH.out h1 HG.out.len (by have := HG.out.max; omega)
        clear hk
        go_wp2_with fail
        refine HPT.out.mono ?_
        rintro e w1 ⟨rfl, nq, rfl⟩
        go_wp2_with fail
        refine wp_loop_rounds 1 ?_
        rw [rounds_succ]
        have HO2 := Lib.hid (object_t b base q c _ v2 W F o _ _ _ _ (wr.drewN nq) (HH.out.drewN nq) HOA.out HG.out.len (by have := HG.out.max; omega))
        go_wp2_with fail
        refine HO2.out.mono ?_
        rintro e w5 ⟨g5, cap5, nq5, -, -, -, rfl, rfl⟩
        have FIN : Hid (∃ n, (wr.drewN nq).drewN nq5 = w.drewN n) := ⟨_, by rw [HNW.out, World.drewN_drewN, World.drewN_drewN]⟩
        have HNX' : Hid (SegAt l (done ++ [s]) t (o + N)) := by rw [HNN.out] at HNX; exact HNX.out
        rw [HNN.out]
        go_wp2_with fail
        go_roundw
        case rel => exact ⟨o + N, done ++ [s], t, hfit, by go_num, HNX'.out, by first | exact FIN.out | (rw [← World.drewN_drewN]; exact FIN.out)⟩
        case measure => simp [intOf]; omega
      · have HPT : Hid (Calls Try.prog 44 #[.pointer (some ⟨b, 0, none⟩), .int .u64 ((2 * o : Nat) : Int)] wr fun e w' => PartsPost wr w' (.slice o1 W.length k1) W o (szX (W.getD o 0)) e) :=
          parts_t b base q c _ v2 W F o _ _ _ _ wr HH.out HOA.out HG.out.len (by have := HG.out.max; omega) hk
        have hall := HSD.out o HOB.out hk
        have HALL := Lib.hid hall
        clear hall hk
        go_wp2_with fail
        refine HPT.out.mono ?_
        rintro e w1 ⟨g', cap', A, K, nq, hv, hA, hK, hKm, rfl, rfl⟩
        simp only [Value.slice.injEq] at hv
        obtain ⟨rfl, -, rfl⟩ := hv
        rw [HNN.out] at hA hK ⊢
        obtain ⟨M, hM⟩ : ∃ M, N - 1 = M := ⟨_, rfl⟩
        rw [hM] at hA hK hrl ⊢
        have HQ := Lib.hid (HH.out.drewN nq)
        have HNQ : Hid (∃ n, wr.drewN nq = w.drewN n) := ⟨_, by rw [HNW.out, World.drewN_drewN]⟩
        clear c0 c1 c2 c3
        generalize wr.drewN nq = wq at *
        unfold maxLen at hKm
        go_wp2_with fail
        go_loop [21] (fun a => ∃ i : Nat, i ≤ M ∧ a = .int .i64 i) (fun a => M - (intOf a).toNat)
        case atStart => exact ⟨0, Nat.zero_le _, rfl⟩
        case round =>
          obtain ⟨i, hi, rfl⟩ := hrel
          by_cases hil : i < M
          · obtain rfl : A = ⟨g', o + 1, none⟩ := by
              rcases hA with hA | hA
              · omega
              · exact hA
            have hi0 : (i : Int) < (M : Int) := by omega
            obtain ⟨x, hx⟩ : ∃ x, (rst W o)[i]'(by omega) = x := ⟨_, rfl⟩
            have hxm : x ∈ rst W o := by rw [← hx]; exact List.getElem_mem _
            have hxW : W[o + 1 + i]? = some x := by
              have h1 : (rst W o)[i]? = some x := by rw [List.getElem?_eq_getElem (by omega), hx]
              unfold rst at h1
              rw [List.getElem?_take, List.getElem?_drop] at h1
              split at h1
              · exact h1
              · cases h1
            have hxl : x < 18446744073709551616 := HG.out.words x (List.mem_of_getElem? hxW)
            have hcell : wq.cell? ⟨g', o + 1 + i, none⟩ = some (.int .u64 (x : Int)) := by
              have o1 := HQ.out.own1
              rw [World.ownsRow.cellAt o1 _ (by have := (List.getElem?_eq_some_iff.1 hxW).1; omega)]
              simp only [Ws, List.getElem?_map, hxW]
              rfl
            have hxx := HALL.out x hxm
            have hx' : (x : Int) ≤ 18446744073709551615 := by omega
            have HNUM := Lib.hid (isnum_t x wq hxl)
            have HOBJ := Lib.hid (isobject_t b base q c _ v2 W F x wq HQ.out hxl HG.out.len (by have := HG.out.max; omega))
            by_cases hodd : x % 2 = 1
            · have HB : Hid ((x % 2 == 1) = true) := by show (x % 2 == 1) = true; rw [beq_iff_eq]; exact hodd
              have HNUM2 : Hid (Calls Try.prog 12 #[.int .u64 (x : Int)] wq fun e w' => e = .returned (.bool true) ∧ wq = w') := HNUM.out.mono fun e w' ⟨h1, h2⟩ => ⟨by rw [h1, HB.out], h2⟩
              clear hx hxW hxm hxx hodd
              go_wp2_with fail
              refine HNUM2.out.mono ?_
              rintro e w' ⟨rfl, rfl⟩
              go_wp2_with fail
              go_round
              case rel => exact ⟨i + 1, by omega, by go_num⟩
              case measure => simp [intOf]; omega
            · have hio : isObj W F x = true := by
                rcases hxx with h1 | h1
                · exact absurd h1 hodd
                · exact h1
              have HB : Hid ((x % 2 == 1) = false) := by show (x % 2 == 1) = false; rw [beq_eq_false_iff_ne]; exact hodd
              have HIO := Lib.hid hio
              have HNUM2 : Hid (Calls Try.prog 12 #[.int .u64 (x : Int)] wq fun e w' => e = .returned (.bool false) ∧ wq = w') := HNUM.out.mono fun e w' ⟨h1, h2⟩ => ⟨by rw [h1, HB.out], h2⟩
              have HOBJ2 : Hid (Calls Try.prog 59 #[.pointer (some ⟨b, 0, none⟩), .int .u64 (x : Int)] wq fun e w' => e = .returned (.bool true) ∧ wq = w') := HOBJ.out.mono fun e w' ⟨h1, h2⟩ => ⟨by rw [h1, HIO.out], h2⟩
              clear hx hxW hxm hxx hodd hio
              go_wp2_with fail
              refine HNUM2.out.mono ?_
              rintro e w' ⟨rfl, rfl⟩
              go_wp2_with fail
              refine HOBJ2.out.mono ?_
              rintro e w' ⟨rfl, rfl⟩
              go_wp2_with fail
              go_round
              case rel => exact ⟨i + 1, by omega, by go_num⟩
              case measure => simp [intOf]; omega
          · obtain rfl : i = M := by omega
            have HO2 := Lib.hid (object_t b base q c _ v2 W F o _ _ _ _ wq HQ.out HOA.out HG.out.len (by have := HG.out.max; omega))
            go_wp2_with fail
            refine HO2.out.mono ?_
            rintro e w5 ⟨g5, cap5, nq5, -, -, -, rfl, rfl⟩
            have FIN : Hid (∃ n, wq.drewN nq5 = w.drewN n) := by
              obtain ⟨n0, hn0⟩ := HNQ.out
              exact ⟨_, by rw [hn0, World.drewN_drewN]⟩
            have HNX' : Hid (SegAt l (done ++ [s]) t (o + N)) := by rw [HNN.out] at HNX; exact HNX.out
            rw [HNN.out]
            go_wp2_with fail
            go_roundw
            case rel => exact ⟨o + N, done ++ [s], t, hfit, by go_num, HNX'.out, by first | exact FIN.out | (rw [← World.drewN_drewN]; exact FIN.out)⟩
            case measure => simp [intOf]; omega
    · obtain rfl : o = W.length := by omega
      have HN2 : Hid (∃ n, wr = w.drewN n) := ⟨nw, HNW.out⟩
      clear HK
      go_wp2_with fail
      go_ret
      exact ⟨rfl, HN2.out⟩
end Go.Proofs.Ytmljelcmjagjjaa
