/- HeapTexts: the law's walk. -/
import Derived.Test.YtmljelcmjagjjaaLTexts
import Derived.Deep.LoopGhost
namespace Go.Proofs.Ytmljelcmjagjjaa
open Go.RowKit HeaM

/-- What the texts so far take. -/
def tot3 (ls : List (List UInt8)) (k : Nat) : Nat := (encW (ls.take k)).length
theorem tot3_succ (ls : List (List UInt8)) (k : Nat) (h : k < ls.length) : tot3 ls (k + 1) = tot3 ls k + (1 + nw ls[k].length) := by
  unfold tot3
  rw [encW_succ ls k h, List.length_append, List.length_cons, pk_length]
  omega
theorem need3 (n : Nat) : need 3 n = 1 + nw n := rfl

theorem tot3_mono (ls : List (List UInt8)) {i j : Nat} (h : i ≤ j) (hj : j ≤ ls.length) : tot3 ls i ≤ tot3 ls j := by
  induction j with
  | zero => obtain rfl : i = 0 := by omega
            exact Nat.le_refl _
  | succ j ih =>
    have h1 := tot3_succ ls j (by omega)
    rcases Nat.lt_or_ge i (j + 1) with h2 | h2
    · have := ih (by omega) (by omega); omega
    · obtain rfl : i = j + 1 := by omega
      exact Nat.le_refl _

/-- Text i of those in the heap. -/
theorem objAt_text (ls : List (List UInt8)) (i : Nat) (h : i < ls.length) (hl : ∀ l ∈ ls, l.length ≤ 1000) : ObjAt (encW ls) (encF ls) (pl ls i) (ls[i].length * 256 + 3) 3 ls[i].length (need 3 ls[i].length) := by
  rw [encW_split ls i h, encF_split ls i h]
  exact objAt_put (encW (ls.take i)) (encW (ls.drop (i + 1))) (encF (ls.take i)) (encF (ls.drop (i + 1))) ls[i] (encFW _) (by have := hl _ (List.getElem_mem h); omega)
/-- The kept texts, read. -/
theorem look_text {w wd W1 : World} {hb q c k m : Nat} {ls : List (List UInt8)} {is : List Nat} {rv wv v1 v2 : Value} (hT : TxR w wd hb q c ls is rv wv v1 v2) (hP : TxP ls is k m) (hk : k ≤ 1000) (hB : Below wd.heap.size wd W1) {i : Nat} (hi : i ∈ is) :
    (Calls Try.prog 31 #[.pointer (some ⟨hb, 0, none⟩), .int .u64 ((2 * pl ls i : Nat) : Int)] W1 fun e w' => e = .returned (S (tx ls i)) ∧ Below wd.heap.size wd w') ∧
    (Calls Try.prog 39 #[.pointer (some ⟨hb, 0, none⟩), .int .u64 ((2 * pl ls i : Nat) : Int)] W1 fun e w' => e = .returned (.int .i64 ((tx ls i).length : Int)) ∧ Below wd.heap.size wd w') := by
  have hil := hP.lt i hi
  have h1 := (hT.weak hB).h
  have htx : tx ls i = ls[i] := by
    unfold tx
    rw [List.getD_eq_getElem?_getD, List.getElem?_eq_getElem hil]
    rfl
  have hnum := hP.num
  rw [htx]
  constructor
  · exact (text_at hb w.heap.size q c v1 v2 ls i W1 hil h1 hP.short (by omega)).mono fun e w' ⟨he, hb'⟩ => ⟨he, hB.trans (hb'.mono hB.size)⟩
  · have hm := (good_texts ls hP.short (by omega)).max
    exact (hlen_t hb w.heap.size q c v1 v2 _ _ _ _ _ _ _ W1 h1 (objAt_text ls i hil hP.short) (encFW _) (by omega)).mono fun e w' ⟨he, n, hw⟩ => ⟨he, hw ▸ hB.trans (below_drewN _ _ _)⟩

set_option maxHeartbeats 8000000 in
set_option maxRecDepth 100000 in
theorem texts_walk (v : Value) (ss : List ByteArray) (kp : Int) (w : World) (h : RdV w v (ss.map .string)) (_h0 : 0 ≤ kp) (_h1 : kp ≤ 4294967295) :
    Calls Try.prog 8 #[v, .int .u32 kp] w fun e w' => e = .returned (.bool true) ∧ Below w.heap.size w w' := by
  obtain ⟨o, cap, hv, hcap, hmax⟩ := h.slice
  rw [List.length_map] at hv hcap
  have HR := Lib.hid h
  clear h
  subst hv
  unfold maxLen at hmax
  by_cases h30 : 30 < ss.length
  · have h30' : (30 : Int) < (ss.length : Int) := by omega
    have h31' : (ss.length : Int) > 30 := by omega
    go_enter Try.func8, Try.ntmps8
    go_wp2_with fail
    refine (awake _).mono ?_
    rintro e w1 ⟨rfl, hb1⟩
    go_wp2_with fail
    refine (awake _).mono ?_
    rintro e w2 ⟨rfl, hb2⟩
    go_wp2_with fail
    go_ret
    exact ⟨rfl, hb1.trans (hb2.mono hb1.size)⟩
  · have h30' : ¬ (30 : Int) < (ss.length : Int) := by omega
    have h30i : (ss.length : Int) ≤ 30 := by omega
    have h30n : ss.length ≤ 30 := by omega
    have HLL : Hid ((lsOf ss).length = ss.length) := lsOf_length ss
    go_enter Try.func8, Try.ntmps8
    go_wp2_with fail
    refine (awake _).mono ?_
    rintro e w1 ⟨rfl, hb1⟩
    have HB1 := Lib.hid hb1
    have hs1 := hb1.size
    clear hb1
    go_wp2_with fail
    go_loopw [5, 6] (fun n i wr => ∃ k N : Nat, k ≤ ss.length ∧ i = .int .i64 k ∧ n = .int .i64 N ∧ N ≤ 1 + 126 * k ∧ Hid (N = 1 + tot3 (lsOf ss) k ∧ (∀ l ∈ (lsOf ss).take k, l.length ≤ 1000) ∧ wr = w1)) (fun _ i _ => ss.length - (intOf i).toNat)
    case atStart => exact ⟨0, 1, Nat.zero_le _, rfl, rfl, by omega, by simp [tot3, encW], by simp, rfl⟩
    case round =>
      obtain ⟨k, N, hk, rfl, rfl, hN, HK⟩ := hrel
      obtain rfl := HK.out.2.2
      by_cases hlt : k < ss.length
      · have hkl : k < (lsOf ss).length := by rw [HLL.out]; exact hlt
        obtain ⟨a, _, ho, hcell0⟩ := HR.out.at (k := k) (u := .string ss[k]) (by simp [hlt])
        simp only [Value.slice.injEq] at ho
        obtain ⟨rfl, -⟩ := ho
        have hcell := (HB1.out.cell (World.block_lt_of_cell? w _ hcell0)).trans hcell0
        have hk0 : (k : Int) < (ss.length : Int) := by omega
        obtain ⟨s, hs⟩ : ∃ s, ss[k] = s := ⟨_, rfl⟩
        rw [hs] at hcell
        have hls : (lsOf ss)[k] = s.data.toList := by rw [lsOf_get ss k hlt hkl, hs]
        have HLS := Lib.hid hls
        clear hls hs hcell0
        by_cases hbig : 1000 < s.size
        · have hbig' : (1000 : Int) < (s.size : Int) := by omega
          go_wp2_with fail
          go_ret
          exact ⟨rfl, HB1.out⟩
        · have hbig' : ¬ (1000 : Int) < (s.size : Int) := by omega
          have hall : ∀ l ∈ (lsOf ss).take (k + 1), l.length ≤ 1000 := by
            intro l hl
            rw [List.take_succ_eq_append_getElem hkl, List.mem_append, List.mem_singleton] at hl
            rcases hl with hl | rfl
            · exact HK.out.2.1 l hl
            · rw [HLS.out]; show s.size ≤ 1000; omega
          have hn3 : need 3 s.size ≤ 126 := by show 1 + (s.size + 7) / 8 ≤ _; omega
          have hsum : N + need 3 s.size = 1 + tot3 (lsOf ss) (k + 1) := by
            rw [tot3_succ _ _ hkl, HLS.out, HK.out.1, need3]
            show _ = 1 + (_ + (1 + nw s.size))
            omega
          have hNt := HK.out.1
          obtain ⟨M, hM⟩ : ∃ M, need 3 s.size = M := ⟨_, rfl⟩
          rw [hM] at hn3 hsum
          have HM := Lib.hid hM
          have HSUM := Lib.hid hsum
          have ALL := Lib.hid hall
          clear hall hsum hM hNt
          go_wp2_with fail
          refine (need_any 3 s.size M _ (by omega) HM).mono ?_
          rintro e w' ⟨rfl, rfl⟩
          go_wp2_with fail
          go_roundw
          case rel => exact ⟨k + 1, N + M, by omega, by go_num, by go_num, by omega, HSUM.out, ALL.out, by first | rfl | trivial⟩
          case measure => simp [intOf]; omega
      · obtain rfl : k = ss.length := by omega
        have hall := HK.out.2.1
        rw [← HLL.out, List.take_length] at hall
        have HALL := Lib.hid hall
        have hNN := HK.out.1
        have HNN := Lib.hid hNN
        clear hall hNN HK
        go_wp2_with fail
        refine (new_ok (N + 200) _ (by omega) (by omega)).mono ?_
        rintro e w' ⟨rfl, rfl⟩
        have start : TxR w (wr.alloc (emptyHeap (N + 200))) wr.heap.size (N + 200) 0 [] [] (.slice none 0 0) (.slice none 0 0) (.slice none 0 0) (.slice none 0 0) := by
          have hf := HAt.fresh wr (N + 200)
          refine ⟨⟨hf.cell, own_base hf.own1 hs1, own_base hf.own2 hs1⟩, World.ownsRow_nil _ _ _ _, World.ownsRow_nil _ _ _ _, by simp [Value.ownBlock], by simp [Value.ownBlock], ?_, HB1.out.alloc hs1 _⟩
          intro j hj
          rcases hj with rfl | hj | hj
          · exact hs1
          · simp [Value.ownBlock] at hj
          · simp [Value.ownBlock] at hj
        have START := Lib.hid start
        have hN2 : (N : Int) ≤ 4000 := by omega
        have HBW := Lib.hid HB1.out.size
        clear start hN
        obtain ⟨wo, rfl⟩ : ∃ wo : World, wo = wr := ⟨_, rfl⟩
        go_wp2_with fail
        go_loopg [9, 10, 11] ss.length (fun K rv wv i wr => ∃ (k : Nat) (R V : Value) (ls : List (List UInt8)) (is : List Nat) (c : Nat) (v1 v2 : Value), k ≤ ss.length ∧ K = ss.length - k ∧ i = .int .i64 k ∧ R = rv ∧ V = wv ∧ c ≤ k ∧ Hid (TxR w wr wo.heap.size (N + 200) c ls is R V v1 v2 ∧ TxP ls is k (tot3 (lsOf ss) k)))
        case atStart => exact ⟨0, _, _, [], [], 0, _, _, Nat.zero_le _, by omega, rfl, rfl, rfl, Nat.zero_le _, START.out, List.nodup_nil, by simp, by simp, Nat.zero_le _, Nat.zero_le _⟩
        case round =>
          obtain ⟨k, R, V, ls, is, c, v1, v2, hk, rfl, rfl, hR, hV, hc, HK⟩ := hrel
          obtain ⟨ws, rfl⟩ : ∃ ws : World, ws = wr := ⟨_, rfl⟩
          subst hR hV
          by_cases hlt : k < ss.length
          · have hkl : k < (lsOf ss).length := by rw [HLL.out]; exact hlt
            obtain ⟨a, _, ho, hcell0⟩ := HR.out.at (k := k) (u := .string ss[k]) (by simp [hlt])
            simp only [Value.slice.injEq] at ho
            obtain ⟨rfl, -⟩ := ho
            have hab := World.block_lt_of_cell? w _ hcell0
            have hcell := (HK.out.1.below.cell hab).trans hcell0
            have hki : (k : Int) < (ss.length : Int) := by omega
            obtain ⟨s, hs⟩ : ∃ s, ss[k] = s := ⟨_, rfl⟩
            rw [hs] at hcell hcell0
            have hls : (lsOf ss)[k] = s.data.toList := by rw [lsOf_get ss k hlt hkl, hs]
            have hsz : s.data.toList.length ≤ 1000 := by rw [← hls]; exact HALL.out _ (List.getElem_mem hkl)
            have hpm := HK.out.2.put hsz (n := tot3 (lsOf ss) (k + 1)) (by rw [tot3_succ _ _ hkl, hls]; exact Nat.le_refl _)
            have htot := tot3_mono (lsOf ss) (i := k + 1) (j := ss.length) (by omega) (by rw [HLL.out]; exact Nat.le_refl _)
            have hroom : (encW ls).length + need 3 s.size ≤ N + 200 := by
              have h1 := HK.out.2.len
              have h2 := HNN.out
              rw [tot3_succ _ _ hkl, hls] at htot
              rw [need3]
              have h3 : nw s.data.toList.length = nw s.size := rfl
              omega
            obtain ⟨X, hX⟩ : ∃ X, 2 * (encW ls).length = X := ⟨_, rfl⟩
            have hput : ∀ W1 r, Below ws.heap.size ws W1 → Calls Try.prog 29 #[.pointer (some ⟨wo.heap.size, 0, none⟩), .string s, r] W1 fun e w' => e = .returned (.tuple #[.int .u64 (X : Int), .int .i64 0]) ∧ (∃ x1 x2, TxR w w' wo.heap.size (N + 200) c (ls ++ [s.data.toList]) is R V x1 x2) ∧ w'.cell? (a.add k) = some (.string s) := by
              intro W1 r hB1
              have hT := HK.out.1.weak hB1
              refine (puttext_room wo.heap.size w.heap.size (N + 200) c v1 v2 (encW ls) (encF ls) s r W1 hT.h (by omega) hT.below.size (by have h3 : s.data.toList.length = s.size := rfl; omega) (encFW _) hroom).mono ?_
              rintro e w' ⟨rfl, x1, x2, hP⟩
              have hT2 := hT.put (s := s.data.toList) HK.out.2.lt (u1 := x1) (u2 := x2) (by
                rw [encW_append, encW_one, encF_append, encF_one]
                exact hP)
              exact ⟨by rw [hX], ⟨x1, x2, hT2⟩, (hT2.below.cell hab).trans hcell0⟩
            have hptr : ∀ W1, Below ws.heap.size ws W1 → Calls Try.prog 25 #[R] W1 fun e w' => ∃ v', e = .returned v' ∧ Below ws.heap.size ws w' ∧ w'.cell? (a.add k) = some (.string s) := by
              intro W1 hB1
              have hT := HK.out.1.weak hB1
              refine (pointers_own w.heap.size is.length R (Ws (is.map fun i => 2 * pl ls i)) W1 (by have := hT.rowR; unfold OwnW at this; simpa using this) (by have := HK.out.2.isle; omega)).mono ?_
              rintro e w' ⟨v', rfl, _, hB2⟩
              have hB3 := hB1.trans (hB2.mono hB1.size)
              exact ⟨v', rfl, hB3, ((HK.out.1.below.trans (hB3.mono HK.out.1.below.size)).cell hab).trans hcell0⟩
            have HPUT := Lib.hid hput
            have HX := Lib.hid hX
            clear hX
            have HPTR := Lib.hid hptr
            have HLS := Lib.hid hls
            have HSZ := Lib.hid hsz
            have HPM := Lib.hid hpm
            have HC0 := Lib.hid hcell0
            have HAB := Lib.hid hab
            clear hput hptr hls hsz hpm hs htot hroom hcell0 hab
            go_upto_region 18 with (fail)
            go_cut [12, 13] (fun x f wx => x = .int .u64 (X : Int) ∧ f = .int .i64 0 ∧ Hid (∃ x1 x2, TxR w wx wo.heap.size (N + 200) c (ls ++ [s.data.toList]) is R V x1 x2))
            case first =>
              go_region_held3 (fun w2 => w2.cell? (a.add k) = some (.string s)) (go_keep)
                (first
                  | (go_at_call 25; refine (HPTR.out _ (by first | exact Below.refl _ _ | exact (Below.refl _ _).drew)).mono ?_; rintro e w3 ⟨pv, rfl, hb3, hc3⟩; have HB3 := Lib.hid hb3; clear hb3)
                  | (go_at_call 29; refine (HPUT.out _ _ (by first | exact HB3.out | exact HB3.out.drew)).mono ?_; rintro e w4 ⟨rfl, hT4, hc4⟩; have HT4 := Lib.hid hT4; clear hT4))
              all_goals
                go_wp2_with fail
                go_meet
                exact ⟨rfl, rfl, HT4.out⟩
            case rest =>
              obtain ⟨rfl, rfl, HC⟩ := hcut
              clear HPUT HPTR
              go_upto_if 74 with (fail)
              go_cut [9, 10] (fun rv wv wx => ∃ (R' V' : Value) (is' : List Nat) (x1 x2 : Value), R' = rv ∧ V' = wv ∧ Hid (TxR w wx wo.heap.size (N + 200) c (ls ++ [s.data.toList]) is' R' V' x1 x2 ∧ TxP (ls ++ [s.data.toList]) is' (k + 1) (tot3 (lsOf ss) (k + 1))))
              case first =>
                obtain ⟨x1, x2, hT⟩ := HC.out
                cases hbit : (bits BinOp.and IntKind.u32 (kp / 2 ^ k) 1 == 1) with
                | false =>
                  have HT := Lib.hid hT
                  clear hT hbit
                  go_wp2_with fail
                  go_meet
                  exact ⟨_, _, is, x1, x2, rfl, rfl, HT.out, HPM.out⟩
                | true =>
                  have hil := HK.out.2.isle
                  have htl := tx_last ls s.data.toList
                  have hpl := pl_last ls s.data.toList
                  obtain ⟨rv', w2, r2, o2, hH2, hw2, hrd2, hb2⟩ := hT.keep1 (x := X) (by omega)
                  obtain ⟨wv', w3, r3, hT3⟩ := TxR.keep2 (i := ls.length) htl (by rw [hpl, HX.out]; exact o2) hH2 hw2 hrd2 hT.wd hT.new hb2 (by omega)
                  rw [S_of] at r3
                  have hc2 := (hb2.cell HAB.out).trans HC0.out
                  have hP3 := TxP.keep HPM.out HK.out.2.lt
                  have R2 := Lib.hid r2
                  have R3 := Lib.hid r3
                  have HT3 := Lib.hid hT3
                  have HP3 := Lib.hid hP3
                  clear r2 r3 hT3 hP3 o2 hH2 hw2 hrd2 hb2 hT htl hpl hbit
                  go_wp2_with (first | (at_builtin; refine wpList_append_known rfl (.tmp 75) (.tmp 77) 35 35 (by rfl) _ _ _ (by rfl) (by rfl) R2.out ?_) | (at_builtin; refine wpList_append_known rfl (.tmp 79) (.tmp 84) 62 62 (by rfl) _ _ _ (by rfl) (by rfl) R3.out ?_))
                  go_meet
                  exact ⟨_, _, is ++ [ls.length], _, _, rfl, rfl, HT3.out, HP3.out⟩
              case rest =>
                obtain ⟨R1, V1, is1, x1, x2, hR1, hV1, HC1⟩ := hcut
                subst hR1 hV1
                clear HC hcell HK
                obtain ⟨wb, rfl⟩ : ∃ wb : World, wb = wc := ⟨_, rfl⟩
                go_upto_if 88 with (fail)
                go_cut [9] (fun rv wx => ∃ (R' : Value) (ls2 : List (List UInt8)) (is2 : List Nat) (c2 : Nat) (x1 x2 : Value), R' = rv ∧ R' = R1 ∧ c2 ≤ k + 1 ∧ Hid (TxR w wx wo.heap.size (N + 200) c2 ls2 is2 R' V1 x1 x2 ∧ TxP ls2 is2 (k + 1) (tot3 (lsOf ss) (k + 1))))
              -- a collection, or none
                case first =>
                  cases hq : ((k : Int) % 4 == 3) with
                  | false =>
                    clear hq
                    go_wp2_with fail
                    go_meet
                    exact ⟨_, _, is1, c, x1, x2, rfl, rfl, by omega, HC1.out⟩
                  | true =>
                    have hil := HC1.out.2.isle
                    have hrow : wb.ownsRow w.heap.size 23 1 R1 is1.length (Ws (is1.map fun i => 2 * pl (ls ++ [s.data.toList]) i)) := by have := HC1.out.1.rowR; unfold OwnW at this; simpa using this
                    have HPT := Lib.hid (pointers_own w.heap.size is1.length R1 _ wb hrow (by omega))
                    have hgood := good_texts _ HC1.out.2.short (by have := HC1.out.2.num; omega)
                    have hlts : ∀ x ∈ (is1.map fun i => 2 * pl (ls ++ [s.data.toList]) i), x < 18446744073709551616 := by
                      intro x hx
                      obtain ⟨i, hi, rfl⟩ := List.mem_map.1 hx
                      have h1 := HC1.out.2.lt i hi
                      have h2 := pl_lt _ h1 (Nat.le_refl _)
                      have h3 := hgood.max
                      unfold pl at h2
                      rw [List.take_length] at h2
                      unfold pl
                      omega
                    have HGOOD := Lib.hid hgood
                    have HLTS := Lib.hid hlts
                    clear hrow hgood hlts hq hil
                    go_wp2_with fail
                    refine HPT.out.mono ?_
                    rintro e wp ⟨pv, rfl, hpr, hpb⟩
                    have hro := roots_own HC1.out.1.rowR (by simp) HC1.out.1.h HC1.out.1.rd HLTS.out (by have := HC1.out.2.isle; omega) hpr hpb
                    have HCO := Lib.hid (collect_t wo.heap.size w.heap.size (N + 200) c x1 x2 pv _ _ _ _ wp (HC1.out.1.h.below hpb (Nat.le_refl _)) HGOOD.out (by have h1 := HC1.out.1.below.size; have h2 := hpb.size; omega) (by omega) hro)
                    have HPR := Lib.hid hpr
                    have HPB := Lib.hid hpb
                    clear hro hpr hpb
                    go_wp2_with fail
                    refine HCO.out.mono ?_
                    intro e wq hq
                    obtain ⟨rfl, y1, y2, hT4, hP4⟩ := HC1.out.1.col HC1.out.2 (by omega) HPB.out HPR.out hq
                    have HT4 := Lib.hid hT4
                    have HP4 := Lib.hid hP4
                    clear hq hT4 hP4
                    go_wp2_with fail
                    go_meet
                    exact ⟨_, _, _, c + 1, _, _, rfl, rfl, by omega, HT4.out, HP4.out⟩
                case rest =>
                  obtain ⟨R2, ls2, is2, c2, y1, y2, hR2, hR3, hc2, HC2⟩ := hcut
                  subst hR2 hR3
                  clear HC1
                  obtain ⟨wd, rfl⟩ : ∃ wd : World, wd = wc := ⟨_, rfl⟩
                  have hrd : RdV wd R2 (Ws (is2.map fun i => 2 * pl ls2 i)) := RdV.of_own HC2.out.1.rowR
                  have hvd : RdV wd V1 (is2.map fun i => S (tx ls2 i)) := RdV.of_own HC2.out.1.rowW
                  obtain ⟨o1, m1, e1, _, hm1⟩ := hrd.slice
                  obtain ⟨o2, m2, e2, _, hm2⟩ := hvd.slice
                  rw [Ws_length, List.length_map] at e1
                  rw [List.length_map] at e2
                  have HRD := Lib.hid hrd
                  have HVD := Lib.hid hvd
                  have hil2 := HC2.out.2.isle
                  have hil2' : (is2.length : Int) ≤ 31 := by omega
                  clear hrd hvd hm1 hm2
                  subst e1 e2
                  go_wp2_with fail
                  go_loopg [14] is2.length (fun K j wr => ∃ m : Nat, m ≤ is2.length ∧ K = is2.length - m ∧ j = .int .i64 m ∧ Hid (Below wd.heap.size wd wr))
                  case atStart => exact ⟨0, Nat.zero_le _, by omega, rfl, Below.refl _ _⟩
                  case round =>
                    obtain ⟨m, hm, rfl, rfl, HB⟩ := hrel
                    by_cases hmlt : m < is2.length
                    · have hmi : (m : Int) < (is2.length : Int) := by omega
                      obtain ⟨a1, _, ho1, hc1⟩ := HRD.out.at (k := m) (u := .int .u64 ((2 * pl ls2 is2[m] : Nat) : Int)) (by simp [Ws, Wv, hmlt])
                      obtain ⟨a2, _, ho2, hc2'⟩ := HVD.out.at (k := m) (u := S (tx ls2 is2[m])) (by simp [hmlt])
                      simp only [Value.slice.injEq] at ho1 ho2
                      obtain ⟨rfl, -⟩ := ho1
                      obtain ⟨rfl, -⟩ := ho2
                      have hb1 := World.block_lt_of_cell? wd _ hc1
                      have hb2 := World.block_lt_of_cell? wd _ hc2'
                      have hmem : is2[m] ∈ is2 := List.getElem_mem hmlt
                      generalize is2[m] = i at *
                      obtain ⟨P, hP⟩ : ∃ P, 2 * pl ls2 i = P := ⟨_, rfl⟩
                      obtain ⟨T, hT⟩ : ∃ T : ByteArray, (⟨(tx ls2 i).toArray⟩ : ByteArray) = T := ⟨_, rfl⟩
                      have hST : S (tx ls2 i) = .string T := by unfold S; rw [hT]
                      have hSZ : ((tx ls2 i).length : Int) = (T.size : Int) := by rw [← hT]; rfl
                      have hTsz : T.size ≤ 1000 := by
                        have h1 := HC2.out.2.lt i hmem
                        have h2 := HC2.out.2.short ls2[i] (List.getElem_mem h1)
                        have h3 : tx ls2 i = ls2[i] := by
                          unfold tx
                          rw [List.getD_eq_getElem?_getD, List.getElem?_eq_getElem h1]
                          rfl
                        rw [← h3] at h2
                        omega
                      rw [hP] at hc1
                      rw [hST] at hc2'
                      have hcells : ∀ W1, Below wd.heap.size wd W1 → W1.cell? (a1.add m) = some (.int .u64 (P : Int)) ∧ W1.cell? (a2.add m) = some (.string T) := fun W1 hB => ⟨(hB.cell hb1).trans hc1, (hB.cell hb2).trans hc2'⟩
                      have htext : ∀ W1, Below wd.heap.size wd W1 → Calls Try.prog 31 #[.pointer (some ⟨wo.heap.size, 0, none⟩), .int .u64 (P : Int)] W1 fun e w' => e = .returned (.string T) ∧ Below wd.heap.size wd w' ∧ w'.cell? (a1.add m) = some (.int .u64 (P : Int)) ∧ w'.cell? (a2.add m) = some (.string T) := by
                        intro W1 hB
                        have h := (look_text HC2.out.1 HC2.out.2 (by omega) hB hmem).1
                        rw [hP, hST] at h
                        exact h.mono fun e w' ⟨he, hb'⟩ => ⟨he, hb', hcells w' hb'⟩
                      have hlen : ∀ W1, Below wd.heap.size wd W1 → Calls Try.prog 39 #[.pointer (some ⟨wo.heap.size, 0, none⟩), .int .u64 (P : Int)] W1 fun e w' => e = .returned (.int .i64 (T.size : Int)) ∧ Below wd.heap.size wd w' ∧ w'.cell? (a1.add m) = some (.int .u64 (P : Int)) ∧ w'.cell? (a2.add m) = some (.string T) := by
                        intro W1 hB
                        have h := (look_text HC2.out.1 HC2.out.2 (by omega) hB hmem).2
                        rw [hP, hSZ] at h
                        exact h.mono fun e w' ⟨he, hb'⟩ => ⟨he, hb', hcells w' hb'⟩
                      obtain ⟨hc3, hc4⟩ := hcells wr HB.out
                      have HTEXT := Lib.hid htext
                      have HLEN := Lib.hid hlen
                      clear hcells htext hlen hc1 hc2' hb1 hb2 hP hT hST hSZ
                      have hTsz' : (T.size : Int) ≤ 1000 := by omega
                      go_upto_region 29 with (fail)
                      go_cut [123] (fun b wx => b = .bool false ∧ Hid (Below wd.heap.size wd wx))
                      case first =>
                        go_region_held3 (fun w2 => w2.cell? (a1.add m) = some (.int .u64 (P : Int)) ∧ w2.cell? (a2.add m) = some (.string T)) (go_keep)
                          (first
                            | (go_at_call 31; refine (HTEXT.out _ (by first | exact HB.out | exact HB.out.drew)).mono ?_; rintro e w3 ⟨rfl, hb3, hc5, hc6⟩; have HB3 := Lib.hid hb3; clear hb3)
                            | (go_at_call 39; refine (HLEN.out _ (by first | exact HB3.out | exact HB3.out.drew)).mono ?_; rintro e w4 ⟨rfl, hb4, hc7, hc8⟩; have HB4 := Lib.hid hb4; clear hb4))
                        all_goals
                          go_wp2_with fail
                          go_meet
                          exact ⟨rfl, HB4.out⟩
                      case rest =>
                        obtain ⟨rfl, HB5⟩ := hcut
                        clear HTEXT HLEN hc3 hc4
                        go_wp2_with fail
                        go_roundg (is2.length - (m + 1))
                        case measure => omega
                        case rel => exact ⟨m + 1, by omega, rfl, by go_num, HB5.out⟩
                    · obtain rfl : m = is2.length := by omega
                      have hT5 := HC2.out.1.weak HB.out
                      have HT5 := Lib.hid hT5
                      clear hT5
                      go_wp2_with fail
                      go_roundg (ss.length - (k + 1))
                      case measure => omega
                      case rel => exact ⟨k + 1, _, _, ls2, is2, c2, y1, y2, by omega, rfl, by go_num, rfl, rfl, by omega, HT5.out, HC2.out.2⟩
          · obtain rfl : k = ss.length := by omega
            have HB := Lib.hid HK.out.1.below
            clear HK
            have hki : ¬ (ss.length : Int) < (ss.length : Int) := by omega
            go_wp2_with fail
            go_ret
            exact ⟨rfl, HB.out⟩
end Go.Proofs.Ytmljelcmjagjjaa
