/- number. -/
import Derived.Test.YtdpbjcdbdikenaaDoorLexH
namespace Go.Proofs.YtdpbjcdbdikenaaDoor
open Go.RowKit LexM

theorem val_ge (l : List UInt8) : ∀ acc : Nat, acc ≤ l.foldl (fun n b => n * 10 + (b.toNat - 48)) acc := by
  induction l with
  | nil => intro acc; exact Nat.le_refl _
  | cons c r ih =>
    intro acc
    have := ih (acc * 10 + (c.toNat - 48))
    rw [List.foldl_cons]
    omega
theorem pu_val (l : List UInt8) : ∀ acc : Nat, acc ≤ 4611686018427387903 →
    pu acc l = if 4611686018427387904 ≤ l.foldl (fun n b => n * 10 + (b.toNat - 48)) acc then none else some (l.foldl (fun n b => n * 10 + (b.toNat - 48)) acc) := by
  induction l with
  | nil =>
    intro acc h
    rw [pu, List.foldl_nil, if_neg (by omega)]
  | cons c r ih =>
    intro acc h
    have hg := val_ge r (acc * 10 + (c.toNat - 48))
    rw [pu, List.foldl_cons]
    by_cases h1 : 1844674407370955162 ≤ acc
    · rw [if_pos h1, if_pos (by omega)]
    · rw [if_neg h1]
      by_cases h2 : 4611686018427387903 < acc * 10 + (c.toNat - 48)
      · rw [if_pos h2, if_pos (by omega)]
      · rw [if_neg h2]
        exact ih _ (by omega)

set_option maxHeartbeats 1000000 in
theorem parse_some (t : ByteArray) (n : Nat) (hne : t.size ≠ 0) (hmax : t.size ≤ 2000) (hdg : ∀ c ∈ bs t, isDg c = true) (h : pu 0 (bs t) = some n) (w : World) :
    Calls Tryd.prog 30 #[.string t, .int .i64 10, .int .i64 62] w fun e w' => e = .returned (.tuple #[.int .u64 (n : Int), .nilIface]) ∧ Below w.heap.size w w' := by
  have H := Lib.hid (iParse_any t hne hmax hdg w)
  rw [h] at H
  unfold puVal at H
  clear h hdg
  go_enter Tryd.func30, Tryd.ntmps30
  go_wp2_with fail
  refine H.out.mono ?_
  rintro e w1 ⟨rfl, hb⟩
  go_wp2
  go_ret2
  exact ⟨rfl, hb⟩

set_option maxHeartbeats 1000000 in
theorem parse_none (t : ByteArray) (hne : t.size ≠ 0) (hmax : t.size ≤ 2000) (hdg : ∀ c ∈ bs t, isDg c = true) (h : pu 0 (bs t) = none) (w : World) (hL : Laid w) :
    Calls Tryd.prog 30 #[.string t, .int .i64 10, .int .i64 62] w fun e w' => (∃ T v, e = .returned (.tuple #[.int .u64 4611686018427387903, .iface T v])) ∧ Below w.heap.size w w' := by
  have H := Lib.hid (iParse_any t hne hmax hdg w)
  rw [h] at H
  unfold puVal at H
  have HL := Lib.hid hL
  clear h hdg hL
  go_enter Tryd.func30, Tryd.ntmps30
  go_wp2_with fail
  refine H.out.mono ?_
  rintro e w1 ⟨rfl, hb⟩
  obtain ⟨te, pe, hv⟩ := (HL.out.below hb HL.out.size).er
  have hsz := hb.size
  have HB := Lib.hid hb
  clear hb
  go_wp2_with (go_at_call 33; refine (toError_range _ _ _ _ te pe _ (by omega) hv).mono ?_; rintro e w2 ⟨⟨T, v, rfl⟩, h3⟩)
  go_ret2
  exact ⟨⟨T, v, rfl⟩, HB.out.trans (h3.mono hsz)⟩

theorem row_free (w : World) (b j : Nat) (cs : Array Value) (t : TypeId) (h : w.heap[b]? = some (.cells cs t (0, 0))) : w.frozen? ⟨b, j, none⟩ = false := by
  simp [World.frozen?, h]
theorem stored3 {w w1 : World} {o : Obj} (hb : Below (w.alloc o).heap.size (w.alloc o) w1) (x y z : Value) :
    Below w.heap.size w (((w1.setCell ⟨w.heap.size, 0, none⟩ x).setCell ⟨w.heap.size, 1, none⟩ y).setCell ⟨w.heap.size, 2, none⟩ z) :=
  (((((Below.refl _ w).alloc (Nat.le_refl _) o).trans (hb.mono (by simp))).setCell (Nat.le_refl _) _).setCell (Nat.le_refl _) _).setCell (Nat.le_refl _) _

theorem num1_at (s : ByteArray) (p k : Nat) (hr : run isDg ((bs s).drop p) = k - p) (hk : p ≤ k) :
    num1 ((bs s).drop p) = if inNm (((bs s).drop k).headD 0) then (4, k - p, 0, [])
      else if 4611686018427387904 ≤ val (bs (s.extract p k)) then (1, 0, 0, [])
      else (0, k - p, 4, bs (s.extract p k)) := by
  unfold num1
  rw [hr, ex_bs, List.drop_drop, show p + (k - p) = k by omega]

theorem run_all (q : UInt8 → Bool) : ∀ (l : List UInt8), ∀ c ∈ l.take (run q l), q c = true := by
  intro l
  induction l with
  | nil => intro c hc; simp [run] at hc
  | cons a t ih =>
    intro c hc
    unfold run at hc
    split at hc
    · rename_i h
      rw [List.take_succ_cons] at hc
      rcases List.mem_cons.1 hc with rfl | hc
      · exact h
      · exact ih c hc
    · simp at hc

set_option maxHeartbeats 2000000 in
set_option maxRecDepth 100000 in
theorem number_any (s : ByteArray) (p : Nat) (w : World) (hL : Laid w) (hs : s.size ≤ 2000) (hp : p < s.size) (hd : isDg s[p] = true) :
    Calls Tryd.prog 24 #[.string s, .int .i64 (p : Int)] w fun e w' => e = .returned (t1Val p (num1 ((bs s).drop p))) ∧ Below w.heap.size w w' := by
  have HL := Lib.hid hL
  have HD := Lib.hid hd
  clear hL hd
  go_enter Tryd.func24, Tryd.ntmps24
  go_wp2
  go_loop [7] (fun i => ∃ k : Nat, p ≤ k ∧ k ≤ s.size ∧ i = .int .i64 (k : Int) ∧ Hid (run isDg ((bs s).drop p) = k - p + run isDg ((bs s).drop k))) (fun i => s.size - (intOf i).toNat)
  case atStart => exact ⟨p, by omega, by omega, rfl, by show _ = _; omega⟩
  case round =>
    obtain ⟨k, h1, h2, rfl, HR⟩ := hrel
    by_cases hgo : ∃ hk : k < s.size, isDg s[k] = true
    · obtain ⟨hk, hin⟩ := hgo
      have HN : Hid (run isDg ((bs s).drop p) = k + 1 - p + run isDg ((bs s).drop (k + 1))) := by
        show _ = _
        rw [HR.out, run_go isDg s k hk hin]
        omega
      have H1 := Lib.hid (hin ▸ isDigit_any s[k])
      clear HR hin
      go_wp2_with (go_at_call 23; ((with_reducible refine (H1.out _).mono ?_); rintro e w' ⟨rfl, rfl⟩))
      go_round
      case rel => exact ⟨k + 1, by omega, by omega, by go_num, HN⟩
      case measure => simp [intOf]; omega
    · have hst : s.size ≤ k ∨ ∃ hk : k < s.size, isDg s[k] = false := by
        by_cases hk : k < s.size
        · right
          refine ⟨hk, ?_⟩
          rcases h : isDg s[k] with _ | _
          · rfl
          · exact absurd ⟨hk, h⟩ hgo
        · left; omega
      have hrun : run isDg ((bs s).drop p) = k - p := by
        rw [HR.out, run_stop isDg s k hst]; omega
      have hpk : p < k := by
        rcases Nat.lt_or_ge p k with h | h
        · exact h
        · obtain rfl : k = p := by omega
          rw [run_go isDg s k hp HD.out] at hrun
          omega
      have hex : ∀ c ∈ bs (s.extract p k), isDg c = true := by
        rw [ex_bs, ← hrun]; exact run_all isDg _
      have hexs : (s.extract p k).size = k - p := ex_size s p k h2
      have HV := Lib.hid (num1_at s p k hrun h1)
      have hpv := pu_val (bs (s.extract p k)) 0 (by omega)
      clear HR hrun hgo HD
      have WAY : (∃ hk : k < s.size, isDg s[k] = false ∧ inNm s[k] = true) ∨ (Hid (num1 ((bs s).drop p) = if 4611686018427387904 ≤ val (bs (s.extract p k)) then (1, 0, 0, []) else (0, k - p, 4, bs (s.extract p k))) ∧ (s.size ≤ k ∨ ∃ hk : k < s.size, isDg s[k] = false ∧ inNm s[k] = false)) := by
        rcases hst with hge | ⟨hk, hin⟩
        · right
          refine ⟨?_, .inl hge⟩
          show _ = _
          rw [HV.out, List.drop_of_length_le (by rw [bs_length]; exact hge)]
          rfl
        · rcases hn : inNm s[k] with _ | _
          · right
            refine ⟨?_, .inr ⟨hk, hin, hn⟩⟩
            show _ = _
            rw [HV.out, drop_cons s k hk, List.headD_cons, if_neg (by simp [hn])]
          · exact .inl ⟨hk, hin, hn⟩
      rcases WAY with ⟨hk, hin, hnm⟩ | ⟨HV2, hst2⟩
      · have HN : Hid (num1 ((bs s).drop p) = (4, k - p, 0, [])) := by
          show _ = _
          rw [HV.out, drop_cons s k hk, List.headD_cons, if_pos hnm]
        have HE := Lib.hid (t1Val_err p (k - p) 4 (by decide) (k : Int) (by omega))
        have H1 := Lib.hid (hin ▸ isDigit_any s[k])
        have H2 := Lib.hid (hnm ▸ isInName_any s[k])
        clear HV hin hnm hst hex hpv
        go_wp2_with (first | (go_at_call 23; ((with_reducible refine (H1.out _).mono ?_); rintro e w' ⟨rfl, rfl⟩)) | (go_at_call 28; ((with_reducible refine (H2.out _).mono ?_); rintro e w' ⟨rfl, rfl⟩)))
        refine bodyPost_ret (v := .tuple #[.agg #[.int .u8 0, .string ⟨#[]⟩, .int .i64 0], .int .i64 (k : Int), .int .i64 4]) (by simp [results, Tryd.results24, go_sem]) rfl ⟨?_, (Below.refl _ _).alloc (Nat.le_refl _) _⟩
        rw [HN.out, HE.out]; rfl
      · clear HV hst
        have HL2 := Lib.hid (fun o => HL.out.below ((Below.refl _ w).alloc (Nat.le_refl _) o) (by have := HL.out.size; omega))
        by_cases hbig : 4611686018427387904 ≤ val (bs (s.extract p k))
        · have HN : Hid (num1 ((bs s).drop p) = (1, 0, 0, [])) := by show _ = _; rw [HV2.out, if_pos hbig]
          have HE := Lib.hid (t1Val_err p 0 1 (by decide) (p : Int) (by omega))
          have HP := Lib.hid (fun W hW => parse_none (s.extract p k) (by omega) (by omega) hex (by rw [hpv]; exact if_pos hbig) W hW)
          clear HV2 hex hpv hbig hexs
          rcases hst2 with hge | ⟨hk, hin, hnm⟩
          · go_wp2_with fail
            refine (HP.out _ (HL2.out _)).mono ?_
            rintro e w1 ⟨⟨T, v, rfl⟩, hb⟩
            have hblk : w1.heap[w.heap.size]? = some (.cells #[.int .u8 0, .string ⟨#[]⟩, .int .i64 0] 33 (0, 0)) := (hb.block _ (by simp)).trans (heap_alloc_new w _)
            have c0 := cell_of_row w1 w.heap.size 0 _ _ _ hblk
            have c1 := cell_of_row w1 w.heap.size 1 _ _ _ hblk
            have c2 := cell_of_row w1 w.heap.size 2 _ _ _ hblk
            have f0 := row_free w1 w.heap.size 0 _ _ hblk
            have f1 := row_free w1 w.heap.size 1 _ _ hblk
            have f2 := row_free w1 w.heap.size 2 _ _ hblk
            have hlt := lt_of_block hblk
            have HB := Lib.hid hb
            clear hblk hb
            go_wp2_with fail
            refine bodyPost_ret (v := .tuple #[.agg #[.int .u8 0, .string ⟨#[]⟩, .int .i64 0], .int .i64 (p : Int), .int .i64 1]) (by simp [results, Tryd.results24, go_sem, c0, c1, c2]) rfl ⟨?_, stored3 HB.out _ _ _⟩
            rw [HN.out, HE.out]; rfl
          · have H1 := Lib.hid (hin ▸ isDigit_any s[k])
            have H2 := Lib.hid (hnm ▸ isInName_any s[k])
            clear hin hnm
            go_wp2_with (first | (go_at_call 23; ((with_reducible refine (H1.out _).mono ?_); rintro e w' ⟨rfl, rfl⟩)) | (go_at_call 28; ((with_reducible refine (H2.out _).mono ?_); rintro e w' ⟨rfl, rfl⟩)))
            refine (HP.out _ (HL2.out _)).mono ?_
            rintro e w1 ⟨⟨T, v, rfl⟩, hb⟩
            have hblk : w1.heap[w.heap.size]? = some (.cells #[.int .u8 0, .string ⟨#[]⟩, .int .i64 0] 33 (0, 0)) := (hb.block _ (by simp)).trans (heap_alloc_new w _)
            have c0 := cell_of_row w1 w.heap.size 0 _ _ _ hblk
            have c1 := cell_of_row w1 w.heap.size 1 _ _ _ hblk
            have c2 := cell_of_row w1 w.heap.size 2 _ _ _ hblk
            have f0 := row_free w1 w.heap.size 0 _ _ hblk
            have f1 := row_free w1 w.heap.size 1 _ _ hblk
            have f2 := row_free w1 w.heap.size 2 _ _ hblk
            have hlt := lt_of_block hblk
            have HB := Lib.hid hb
            clear hblk hb
            go_wp2_with fail
            refine bodyPost_ret (v := .tuple #[.agg #[.int .u8 0, .string ⟨#[]⟩, .int .i64 0], .int .i64 (p : Int), .int .i64 1]) (by simp [results, Tryd.results24, go_sem, c0, c1, c2]) rfl ⟨?_, stored3 HB.out _ _ _⟩
            rw [HN.out, HE.out]; rfl
        · have HN : Hid (num1 ((bs s).drop p) = (0, k - p, 4, bs (s.extract p k))) := by show _ = _; rw [HV2.out, if_neg hbig]
          have HE := Lib.hid (t1Val_ok p (k - p) 4 (bs (s.extract p k)) (s.extract p k) (k : Int) (by omega) rfl)
          have HP := Lib.hid (fun W => parse_some (s.extract p k) (val (bs (s.extract p k))) (by omega) (by omega) hex (by rw [hpv]; exact if_neg hbig) W)
          clear HV2 hex hpv hbig hexs
          rcases hst2 with hge | ⟨hk, hin, hnm⟩
          · go_wp2_with fail
            refine (HP.out _).mono ?_
            rintro e w1 ⟨rfl, hb⟩
            have hblk : w1.heap[w.heap.size]? = some (.cells #[.int .u8 0, .string ⟨#[]⟩, .int .i64 0] 33 (0, 0)) := (hb.block _ (by simp)).trans (heap_alloc_new w _)
            have c0 := cell_of_row w1 w.heap.size 0 _ _ _ hblk
            have c1 := cell_of_row w1 w.heap.size 1 _ _ _ hblk
            have c2 := cell_of_row w1 w.heap.size 2 _ _ _ hblk
            have f0 := row_free w1 w.heap.size 0 _ _ hblk
            have f1 := row_free w1 w.heap.size 1 _ _ hblk
            have f2 := row_free w1 w.heap.size 2 _ _ hblk
            have hlt := lt_of_block hblk
            have HB := Lib.hid hb
            clear hblk hb
            go_wp2_with fail
            refine bodyPost_ret (v := .tuple #[.agg #[.int .u8 4, .string (s.extract p k), .int .i64 (p : Int)], .int .i64 (k : Int), .int .i64 0]) (by simp [results, Tryd.results24, go_sem, c0, c1, c2]) rfl ⟨?_, stored3 HB.out _ _ _⟩
            rw [HN.out, HE.out]; rfl
          · have H1 := Lib.hid (hin ▸ isDigit_any s[k])
            have H2 := Lib.hid (hnm ▸ isInName_any s[k])
            clear hin hnm
            go_wp2_with (first | (go_at_call 23; ((with_reducible refine (H1.out _).mono ?_); rintro e w' ⟨rfl, rfl⟩)) | (go_at_call 28; ((with_reducible refine (H2.out _).mono ?_); rintro e w' ⟨rfl, rfl⟩)))
            refine (HP.out _).mono ?_
            rintro e w1 ⟨rfl, hb⟩
            have hblk : w1.heap[w.heap.size]? = some (.cells #[.int .u8 0, .string ⟨#[]⟩, .int .i64 0] 33 (0, 0)) := (hb.block _ (by simp)).trans (heap_alloc_new w _)
            have c0 := cell_of_row w1 w.heap.size 0 _ _ _ hblk
            have c1 := cell_of_row w1 w.heap.size 1 _ _ _ hblk
            have c2 := cell_of_row w1 w.heap.size 2 _ _ _ hblk
            have f0 := row_free w1 w.heap.size 0 _ _ hblk
            have f1 := row_free w1 w.heap.size 1 _ _ hblk
            have f2 := row_free w1 w.heap.size 2 _ _ hblk
            have hlt := lt_of_block hblk
            have HB := Lib.hid hb
            clear hblk hb
            go_wp2_with fail
            refine bodyPost_ret (v := .tuple #[.agg #[.int .u8 4, .string (s.extract p k), .int .i64 (p : Int)], .int .i64 (k : Int), .int .i64 0]) (by simp [results, Tryd.results24, go_sem, c0, c1, c2]) rfl ⟨?_, stored3 HB.out _ _ _⟩
            rw [HN.out, HE.out]; rfl
end Go.Proofs.YtdpbjcdbdikenaaDoor
