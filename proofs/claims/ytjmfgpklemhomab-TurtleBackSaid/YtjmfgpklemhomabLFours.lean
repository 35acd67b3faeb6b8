/- The law of moves that are done four times, with a quarter to the left behind each time. -/
import Derived.Test.YtjmfgpklemhomabLErrs
namespace Go.Proofs.Ytjmfgpklemhomab
open Go.RowKit TurF TurP

theorem turnsOf_take (l : List Mv) (k : Nat) (h : k < l.length) : turnsOf (l.take (k + 1)) = turnsOf (l.take k) + if l[k].1 then l[k].2 else 0 := by
  rw [List.take_succ_eq_append_getElem h, turnsOf_append]
  simp [turnsOf]
theorem turnsOf_le (l : List Mv) (h : ∀ m ∈ l, -999 ≤ m.2 ∧ m.2 ≤ 999) : -(999 * (l.length : Int)) ≤ turnsOf l ∧ turnsOf l ≤ 999 * (l.length : Int) := by
  induction l with
  | nil => simp [turnsOf]
  | cons a l ih =>
    have h1 := ih (fun m hm => h m (by simp [hm]))
    have h2 := h a (by simp)
    unfold turnsOf
    rw [List.length_cons]
    split <;> omega

/-- So many times, one behind the other. -/
def times : Nat → List Mv → List Mv
  | 0, _ => []
  | k + 1, l => times k l ++ l
theorem times_len (k : Nat) (l : List Mv) : (times k l).length = k * l.length := by
  induction k with
  | zero => simp [times]
  | succ k ih => rw [times, List.length_append, ih, Nat.succ_mul]
theorem times_four (l : List Mv) : times 4 l = l ++ l ++ l ++ l := by simp [times]

theorem times_far (k : Nat) (l : List Mv) (h : l.any far = false) : (times k l).any far = false := by
  induction k with
  | zero => rfl
  | succ k ih => rw [times, List.any_append, ih, h]; rfl
theorem quarter_far (l : List Mv) (h : ∀ m ∈ l, -999 ≤ m.2 ∧ m.2 ≤ 999) : (quarter l).any far = false := by
  unfold quarter
  rw [List.any_append, far_small h]
  rfl
theorem quarter_len (l : List Mv) : (quarter l).length = l.length + 1 := by unfold quarter; simp

/-- Moves of the call's own at their index. -/
theorem move_at {w w' : World} {base i n : Nat} {v : Value} {ps : List Mv} (h : Hid (OwnM w base v ps)) (hb : Below n w w') (hn : w.heap.size ≤ n) (hi : i < ps.length) :
    ∃ g c, v = .slice (some ⟨g, 0, none⟩) ps.length c ∧ w'.cell? ⟨g, i * 2, none⟩ = some (.bool ps[i].1) ∧ w'.cell? ⟨g, i * 2 + 1, none⟩ = some (.int .i64 ps[i].2) := by
  rcases (h.out.below hb hn).rd with ⟨o, c, _, _, hl⟩ | ⟨b, off, c, hv, _, _, _, hc⟩
  · rw [hl] at hi; simp at hi
  · obtain ⟨g, cap, hv2, _⟩ := World.ownsRow.form h.out (by omega)
    rw [hv2] at hv
    injection hv with hv _ _
    injection hv with hv
    injection hv with h1 h2 _
    obtain ⟨c1, c2⟩ := hc i ps[i] (by simp [hi])
    rw [← h1, ← h2, Nat.zero_add] at c1 c2
    exact ⟨g, cap, hv2, c1, c2⟩

set_option maxHeartbeats 4000000 in
set_option maxRecDepth 100000 in
theorem fours_walk (v : Value) (l : List Mv) (w : World) (h : RdM w v l) :
    Calls Try.prog 5 #[v] w fun e w' => e = .returned (.bool true) ∧ Below w.heap.size w w' := by
  have HR0 := Lib.hid h
  clear h
  have hn := small_len l
  go_enter Try.func5, Try.ntmps5
  go_wp2_with fail
  refine (awake w).mono ?_
  rintro e w1 ⟨rfl, hb1⟩
  have HR1 := Lib.hid (HR0.out.below hb1 (Nat.le_refl _))
  have BE1 := Lib.hid hb1
  clear hb1 HR0
  go_wp2_with fail
  refine (small_any v l w1 HR1.out).mono ?_
  rintro e w2 ⟨m, rfl, hm2, hb2⟩
  have be2 := BE1.out.trans (hb2.mono BE1.out.size)
  have hlen := lenM hm2
  have HM := Lib.hid hm2
  have BE2 := Lib.hid be2
  have SW := Lib.hid (small_within l)
  have hT := turnsOf_le (small l) (small_within l)
  have HF := Lib.hid (fours (small l))
  clear hm2 be2 hb2 BE1 HR1
  generalize small l = ms at *
  go_wp2_with fail
  go_loop [4, 5] (fun t i => ∃ k : Nat, k ≤ ms.length ∧ i = .int .i64 k ∧ t = .int .i64 (turnsOf (ms.take k))) (fun _ i => ms.length - (intOf i).toNat)
  case atStart => exact ⟨0, by omega, rfl, rfl⟩
  case round =>
    obtain ⟨k, hk, rfl, rfl⟩ := hrel
    by_cases hlt : k < ms.length
    · obtain ⟨g, c, rfl, c1, c2⟩ := move_at HM (Below.refl _ w2) (Nat.le_refl _) hlt
      have HT := Lib.hid (turnsOf_take ms k hlt)
      have hb := SW.out ms[k] (List.getElem_mem _)
      have ht := turnsOf_le (ms.take k) (fun m hm => SW.out m (List.mem_of_mem_take hm))
      rw [show (ms.take k).length = k by simp; omega] at ht
      generalize turnsOf (ms.take k) = T at *
      generalize ms[k] = q at *
      obtain ⟨b, n⟩ := q
      dsimp only at c1 c2 hb
      rcases b with _ | _
      · have H2 := Lib.hid (show turnsOf (ms.take (k + 1)) = T by have := HT.out; simpa using this)
        clear HT
        go_wp2
        go_round
        case rel => exact ⟨k + 1, by omega, by go_num, by rw [H2.out]⟩
        case measure => simp [intOf]; omega
      · have H2 := Lib.hid (show turnsOf (ms.take (k + 1)) = T + n by have := HT.out; simpa using this)
        clear HT
        go_wp2
        go_round
        case rel => exact ⟨k + 1, by omega, by go_num, by rw [H2.out]⟩
        case measure => simp [intOf]; omega
    · have e : ms.take k = ms := List.take_of_length_le (by omega)
      rw [e]
      clear e
      generalize hTT : turnsOf ms = T at *
      have HTT := Lib.hid hTT
      clear hTT
      go_wp2
      have QF := Lib.hid (quarter_far ms SW.out)
      have QL := quarter_len ms
      have QE : Hid (quarter ms = ms ++ [(true, 1 - T)]) := by show quarter ms = _; unfold quarter; rw [HTT.out]
      have ST : Hid (OwnM w2 w2.heap.size (.slice none 0 0) (times 0 (quarter ms))) := World.ownsRow_nil w2 _ _ _
      go_loopw [6, 7] (fun q i wr => ∃ (j : Nat) (Q : Value), j ≤ 4 ∧ i = .int .i64 j ∧ Q = q ∧ OwnM wr w2.heap.size Q (times j (quarter ms)) ∧ Below w2.heap.size w2 wr) (fun _ i _ => 4 - (intOf i).toNat)
      case atStart => exact ⟨0, _, by omega, rfl, rfl, ST.out, Below.refl _ _⟩
      case round =>
        clear ST
        obtain ⟨j, q, hj, rfl, rfl, hown, hb⟩ := hrel
        have hsz := hb.size
        have tl := times_len j (quarter ms)
        by_cases hlt4 : j < 4
        · have hd : decide ((j : Int) < 4) = true := by simp; omega
          have hrm := (HM.out.below hb (Nat.le_refl _)).rd
          have tl4 : (times j (quarter ms)).length ≤ 3 * (ms.length + 1) := by rw [tl, QL]; exact Nat.mul_le_mul_right _ (by omega)
          obtain ⟨v1, w3, hr1, hv3, hg3⟩ := append_rdM hown hrm (by omega) hsz 22
          have b3 : Below w2.heap.size w2 w3 := hb.grown hg3 hsz (fun k hk => (hown.lt k hk).1)
          obtain ⟨v2, w4, hr2, hv4, hg4⟩ := append_rdM (s := .slice (some ⟨w3.heap.size, 0, none⟩) 1 1) (k := [(true, 1 - T)]) (hv3.alloc (.cells #[.bool true, .int .i64 (1 - T)] 43)) (RdM.of_block (ms := [(true, 1 - T)]) (heap_alloc_new w3 _) rfl (by simp)) (by simp; omega) (by have := b3.size; simp; omega) 22
          have b4 : Below w2.heap.size w2 w4 := (b3.alloc b3.size _).grown hg4 (by have := b3.size; simp; omega) (fun k hk => (hv3.lt k hk).1)
          have fin : OwnM w4 w2.heap.size v2 (times (j + 1) (quarter ms)) := by
            show OwnM w4 w2.heap.size v2 (times j (quarter ms) ++ quarter ms)
            rw [QE.out, ← List.append_assoc, ← QE.out]
            exact hv4
          have A1 := Lib.hid hr1
          have A2 := Lib.hid hr2
          have FIN := Lib.hid fin
          have B4 := Lib.hid b4
          clear hr1 hr2 hv3 hg3 hg4 b3 b4 fin hv4 hown hb hrm tl
          go_wp2_with (at_builtin; first | refine wpList_append_known rfl (.tmp 36) (.tmp 37) 22 22 (by rfl) _ _ _ (by rfl) (by rfl) A1.out ?_ | refine wpList_append_known rfl (.tmp 39) (.tmp 43) 22 22 (by rfl) _ _ _ (by rfl) (by rfl) A2.out ?_)
          go_roundw
          case rel => exact ⟨j + 1, _, by omega, by go_num, rfl, FIN.out, B4.out⟩
          case measure => simp [intOf]; omega
        · obtain rfl : j = 4 := by omega
          have hlen4 : ¬ 1000 < (times 4 (quarter ms)).length := by rw [tl, QL]; omega
          have hfar4 := times_far 4 (quarter ms) QF.out
          have LK := look_good q _ wr hown.rd hlen4 hfar4
          have CL := fun (w' : World) (hb' : Below wr.heap.size wr w') => closed_good q _ w' (hown.rd.below hb' (Nat.le_refl _)) hlen4 hfar4
          unfold LGood at LK
          unfold CGood at CL
          rw [times_four, HF.out.2] at LK
          rw [times_four, HF.out.1] at CL
          have LK' := Lib.hid LK
          have CL' := Lib.hid CL
          have BW := Lib.hid (BE2.out.trans (hb.mono BE2.out.size))
          have eq := eqPlace
          clear LK CL hown hb tl hlen4 hfar4 QL hT
          go_wp2_with fail
          refine LK'.out.mono ?_
          rintro e w5 ⟨rfl, hb5⟩
          have hb5a := hb5.alloc hb5.size (.cells #[.int .i64 0, .int .i64 1] 29)
          have C5 := Lib.hid (CL'.out _ hb5a)
          have B5 := Lib.hid (BW.out.trans (hb5a.mono BW.out.size))
          clear hb5 hb5a LK' CL' BW
          go_wp2_with fail
          refine C5.out.mono ?_
          rintro e w6 ⟨rfl, hb6⟩
          obtain ⟨d1, d2, _, _⟩ := cells_two ((hb6.block w5.heap.size (by simp)).trans (heap_alloc_new w5 _))
          have B6 := Lib.hid (B5.out.trans (hb6.mono B5.out.size))
          clear hb6
          go_wp2_with fail
          go_ret
          exact ⟨rfl, B6.out⟩
end Go.Proofs.Ytjmfgpklemhomab
