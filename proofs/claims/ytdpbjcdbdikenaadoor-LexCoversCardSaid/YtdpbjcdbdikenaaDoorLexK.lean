/- One token. -/
import Derived.Test.YtdpbjcdbdikenaaDoorLexJ
namespace Go.Proofs.YtdpbjcdbdikenaaDoor
open Go.RowKit LexM

theorem t1_form (p : Nat) (r : T1) : ∃ (k : Int) (S : ByteArray) (a x y : Int), t1Val p r = .tuple #[.agg #[.int .u8 k, .string S, .int .i64 a], .int .i64 x, .int .i64 y] := ⟨_, _, _, _, _, rfl⟩

theorem one_at (s : ByteArray) (p : Nat) (hp : p < s.size) : one ((bs s).drop p) =
    if isLo s[p] || isUp s[p] || decide ((s[p].toNat : Int) = 39) then word1 ((bs s).drop p)
    else if isDg s[p] then num1 ((bs s).drop p)
    else if (s[p].toNat : Int) = 34 then txt1 ((bs s).drop p)
    else sgn1 ((bs s).drop p) := by
  have hh : ((bs s).drop p).headD 0 = s[p] := by rw [drop_cons s p hp]; rfl
  have h39 := eqN s[p] 39 (by decide)
  have h34 := eqN s[p] 34 (by decide)
  unfold one
  rw [hh]
  have e39 : (s[p] == 39) = decide ((s[p].toNat : Int) = 39) := by rw [Bool.eq_iff_iff]; simp only [beq_iff_eq, decide_eq_true_eq]; exact h39
  have e34 : (s[p] == 34) = decide ((s[p].toNat : Int) = 34) := by rw [Bool.eq_iff_iff]; simp only [beq_iff_eq, decide_eq_true_eq]; exact h34
  rw [e39, e34]
  simp only [decide_eq_true_eq]

set_option maxHeartbeats 2000000 in
set_option maxRecDepth 100000 in
theorem token_lo (s : ByteArray) (p : Nat) (w : World) (hL : Laid w) (hs : s.size ≤ 2000) (hp : p < s.size) (hlo : isLo s[p] = true) :
    Calls Tryd.prog 16 #[.string s, .int .i64 (p : Int)] w fun e w' => e = .returned (t1Val p (one ((bs s).drop p))) ∧ Below w.heap.size w w' := by
  have HN : Hid (one ((bs s).drop p) = word1 ((bs s).drop p)) := by show _ = _; rw [one_at s p hp]; simp [hlo]
  have HC := Lib.hid (fun o => word_any s p (w.alloc o) (hL.below ((Below.refl _ w).alloc (Nat.le_refl _) o) (by have := hL.size; omega)) hs hp)
  obtain ⟨kd, S, a, x, y, hv⟩ := t1_form p (word1 ((bs s).drop p))
  rw [hv] at HC
  have HE : Hid (t1Val p (one ((bs s).drop p)) = .tuple #[.agg #[.int .u8 kd, .string S, .int .i64 a], .int .i64 x, .int .i64 y]) := by show _ = _; rw [HN.out, hv]
  have HLo := Lib.hid (hlo ▸ isLower_any s[p])
  clear hv HN hL hlo
  go_enter Tryd.func16, Tryd.ntmps16
  go_wp2_with (first | (go_at_call 20; ((with_reducible refine (HLo.out _).mono ?_); rintro e w' ⟨rfl, rfl⟩)) | (go_at_call 21; ((with_reducible refine (HUp.out _).mono ?_); rintro e w' ⟨rfl, rfl⟩)) | (go_at_call 23; ((with_reducible refine (HDg.out _).mono ?_); rintro e w' ⟨rfl, rfl⟩)) | (go_at_call 22; fail))
  refine (HC.out _).mono ?_
  rintro e w1 ⟨rfl, hb⟩
  have hblk : w1.heap[w.heap.size]? = some (.cells #[.int .u8 0, .string ⟨#[]⟩, .int .i64 0] 33 (0, 0)) := (hb.block _ (by simp)).trans (heap_alloc_new w _)
  have c0 := cell_of_row w1 w.heap.size 0 _ _ _ hblk
  have c1 := cell_of_row w1 w.heap.size 1 _ _ _ hblk
  have c2 := cell_of_row w1 w.heap.size 2 _ _ _ hblk
  have f0 := row_free w1 w.heap.size 0 _ _ hblk
  have f1 := row_free w1 w.heap.size 1 _ _ hblk
  have f2 := row_free w1 w.heap.size 2 _ _ hblk
  have hlt := lt_of_block hblk
  have HB := Lib.hid hb
  clear hblk hb
  go_wp2_with fail
  refine bodyPost_ret (v := .tuple #[.agg #[.int .u8 kd, .string S, .int .i64 a], .int .i64 x, .int .i64 y]) (by simp [results, Tryd.results16, go_sem, c0, c1, c2]) rfl ⟨?_, stored3 HB.out _ _ _⟩
  rw [HE.out]

set_option maxHeartbeats 2000000 in
set_option maxRecDepth 100000 in
theorem token_up (s : ByteArray) (p : Nat) (w : World) (hL : Laid w) (hs : s.size ≤ 2000) (hp : p < s.size) (hlo : isLo s[p] = false) (hup : isUp s[p] = true) :
    Calls Tryd.prog 16 #[.string s, .int .i64 (p : Int)] w fun e w' => e = .returned (t1Val p (one ((bs s).drop p))) ∧ Below w.heap.size w w' := by
  have HN : Hid (one ((bs s).drop p) = word1 ((bs s).drop p)) := by show _ = _; rw [one_at s p hp]; simp [hlo, hup]
  have HC := Lib.hid (fun o => word_any s p (w.alloc o) (hL.below ((Below.refl _ w).alloc (Nat.le_refl _) o) (by have := hL.size; omega)) hs hp)
  obtain ⟨kd, S, a, x, y, hv⟩ := t1_form p (word1 ((bs s).drop p))
  rw [hv] at HC
  have HE : Hid (t1Val p (one ((bs s).drop p)) = .tuple #[.agg #[.int .u8 kd, .string S, .int .i64 a], .int .i64 x, .int .i64 y]) := by show _ = _; rw [HN.out, hv]
  have HLo := Lib.hid (hlo ▸ isLower_any s[p])
  have HUp := Lib.hid (hup ▸ isUpper_any s[p])
  clear hv HN hL hlo hup
  go_enter Tryd.func16, Tryd.ntmps16
  go_wp2_with (first | (go_at_call 20; ((with_reducible refine (HLo.out _).mono ?_); rintro e w' ⟨rfl, rfl⟩)) | (go_at_call 21; ((with_reducible refine (HUp.out _).mono ?_); rintro e w' ⟨rfl, rfl⟩)) | (go_at_call 23; ((with_reducible refine (HDg.out _).mono ?_); rintro e w' ⟨rfl, rfl⟩)) | (go_at_call 22; fail))
  refine (HC.out _).mono ?_
  rintro e w1 ⟨rfl, hb⟩
  have hblk : w1.heap[w.heap.size]? = some (.cells #[.int .u8 0, .string ⟨#[]⟩, .int .i64 0] 33 (0, 0)) := (hb.block _ (by simp)).trans (heap_alloc_new w _)
  have c0 := cell_of_row w1 w.heap.size 0 _ _ _ hblk
  have c1 := cell_of_row w1 w.heap.size 1 _ _ _ hblk
  have c2 := cell_of_row w1 w.heap.size 2 _ _ _ hblk
  have f0 := row_free w1 w.heap.size 0 _ _ hblk
  have f1 := row_free w1 w.heap.size 1 _ _ hblk
  have f2 := row_free w1 w.heap.size 2 _ _ hblk
  have hlt := lt_of_block hblk
  have HB := Lib.hid hb
  clear hblk hb
  go_wp2_with fail
  refine bodyPost_ret (v := .tuple #[.agg #[.int .u8 kd, .string S, .int .i64 a], .int .i64 x, .int .i64 y]) (by simp [results, Tryd.results16, go_sem, c0, c1, c2]) rfl ⟨?_, stored3 HB.out _ _ _⟩
  rw [HE.out]

set_option maxHeartbeats 2000000 in
set_option maxRecDepth 100000 in
theorem token_qt (s : ByteArray) (p : Nat) (w : World) (hL : Laid w) (hs : s.size ≤ 2000) (hp : p < s.size) (hlo : isLo s[p] = false) (hup : isUp s[p] = false) (hq : (s[p].toNat : Int) = 39) :
    Calls Tryd.prog 16 #[.string s, .int .i64 (p : Int)] w fun e w' => e = .returned (t1Val p (one ((bs s).drop p))) ∧ Below w.heap.size w w' := by
  have HN : Hid (one ((bs s).drop p) = word1 ((bs s).drop p)) := by show _ = _; rw [one_at s p hp]; simp [hlo, hup, hq]
  have HC := Lib.hid (fun o => word_any s p (w.alloc o) (hL.below ((Below.refl _ w).alloc (Nat.le_refl _) o) (by have := hL.size; omega)) hs hp)
  obtain ⟨kd, S, a, x, y, hv⟩ := t1_form p (word1 ((bs s).drop p))
  rw [hv] at HC
  have HE : Hid (t1Val p (one ((bs s).drop p)) = .tuple #[.agg #[.int .u8 kd, .string S, .int .i64 a], .int .i64 x, .int .i64 y]) := by show _ = _; rw [HN.out, hv]
  have HLo := Lib.hid (hlo ▸ isLower_any s[p])
  have HUp := Lib.hid (hup ▸ isUpper_any s[p])
  have t1 : ((s[p].toNat : Int) == 39) = true := by rw [beq_iff_eq]; exact hq
  clear hv HN hL hlo hup hq
  go_enter Tryd.func16, Tryd.ntmps16
  go_wp2_with (first | (go_at_call 20; ((with_reducible refine (HLo.out _).mono ?_); rintro e w' ⟨rfl, rfl⟩)) | (go_at_call 21; ((with_reducible refine (HUp.out _).mono ?_); rintro e w' ⟨rfl, rfl⟩)) | (go_at_call 23; ((with_reducible refine (HDg.out _).mono ?_); rintro e w' ⟨rfl, rfl⟩)) | (go_at_call 22; fail))
  refine (HC.out _).mono ?_
  rintro e w1 ⟨rfl, hb⟩
  have hblk : w1.heap[w.heap.size]? = some (.cells #[.int .u8 0, .string ⟨#[]⟩, .int .i64 0] 33 (0, 0)) := (hb.block _ (by simp)).trans (heap_alloc_new w _)
  have c0 := cell_of_row w1 w.heap.size 0 _ _ _ hblk
  have c1 := cell_of_row w1 w.heap.size 1 _ _ _ hblk
  have c2 := cell_of_row w1 w.heap.size 2 _ _ _ hblk
  have f0 := row_free w1 w.heap.size 0 _ _ hblk
  have f1 := row_free w1 w.heap.size 1 _ _ hblk
  have f2 := row_free w1 w.heap.size 2 _ _ hblk
  have hlt := lt_of_block hblk
  have HB := Lib.hid hb
  clear hblk hb
  go_wp2_with fail
  refine bodyPost_ret (v := .tuple #[.agg #[.int .u8 kd, .string S, .int .i64 a], .int .i64 x, .int .i64 y]) (by simp [results, Tryd.results16, go_sem, c0, c1, c2]) rfl ⟨?_, stored3 HB.out _ _ _⟩
  rw [HE.out]

set_option maxHeartbeats 2000000 in
set_option maxRecDepth 100000 in
theorem token_dg (s : ByteArray) (p : Nat) (w : World) (hL : Laid w) (hs : s.size ≤ 2000) (hp : p < s.size) (hlo : isLo s[p] = false) (hup : isUp s[p] = false) (hq : ¬ (s[p].toNat : Int) = 39) (hdg : isDg s[p] = true) :
    Calls Tryd.prog 16 #[.string s, .int .i64 (p : Int)] w fun e w' => e = .returned (t1Val p (one ((bs s).drop p))) ∧ Below w.heap.size w w' := by
  have HN : Hid (one ((bs s).drop p) = num1 ((bs s).drop p)) := by show _ = _; rw [one_at s p hp]; simp [hlo, hup, hq, hdg]
  have HC := Lib.hid (fun o => number_any s p (w.alloc o) (hL.below ((Below.refl _ w).alloc (Nat.le_refl _) o) (by have := hL.size; omega)) hs hp hdg)
  obtain ⟨kd, S, a, x, y, hv⟩ := t1_form p (num1 ((bs s).drop p))
  rw [hv] at HC
  have HE : Hid (t1Val p (one ((bs s).drop p)) = .tuple #[.agg #[.int .u8 kd, .string S, .int .i64 a], .int .i64 x, .int .i64 y]) := by show _ = _; rw [HN.out, hv]
  have HLo := Lib.hid (hlo ▸ isLower_any s[p])
  have HUp := Lib.hid (hup ▸ isUpper_any s[p])
  have HDg := Lib.hid (hdg ▸ isDigit_any s[p])
  have t1 : ((s[p].toNat : Int) == 39) = false := by rw [beq_eq_false_iff_ne]; exact hq
  clear hv HN hL hlo hup hq hdg
  go_enter Tryd.func16, Tryd.ntmps16
  go_wp2_with (first | (go_at_call 20; ((with_reducible refine (HLo.out _).mono ?_); rintro e w' ⟨rfl, rfl⟩)) | (go_at_call 21; ((with_reducible refine (HUp.out _).mono ?_); rintro e w' ⟨rfl, rfl⟩)) | (go_at_call 23; ((with_reducible refine (HDg.out _).mono ?_); rintro e w' ⟨rfl, rfl⟩)) | (go_at_call 24; fail))
  refine (HC.out _).mono ?_
  rintro e w1 ⟨rfl, hb⟩
  have hblk : w1.heap[w.heap.size]? = some (.cells #[.int .u8 0, .string ⟨#[]⟩, .int .i64 0] 33 (0, 0)) := (hb.block _ (by simp)).trans (heap_alloc_new w _)
  have c0 := cell_of_row w1 w.heap.size 0 _ _ _ hblk
  have c1 := cell_of_row w1 w.heap.size 1 _ _ _ hblk
  have c2 := cell_of_row w1 w.heap.size 2 _ _ _ hblk
  have f0 := row_free w1 w.heap.size 0 _ _ hblk
  have f1 := row_free w1 w.heap.size 1 _ _ hblk
  have f2 := row_free w1 w.heap.size 2 _ _ hblk
  have hlt := lt_of_block hblk
  have HB := Lib.hid hb
  clear hblk hb
  go_wp2_with fail
  refine bodyPost_ret (v := .tuple #[.agg #[.int .u8 kd, .string S, .int .i64 a], .int .i64 x, .int .i64 y]) (by simp [results, Tryd.results16, go_sem, c0, c1, c2]) rfl ⟨?_, stored3 HB.out _ _ _⟩
  rw [HE.out]

set_option maxHeartbeats 2000000 in
set_option maxRecDepth 100000 in
theorem token_tx (s : ByteArray) (p : Nat) (w : World) (_ : Laid w) (hs : s.size ≤ 2000) (hp : p < s.size) (hlo : isLo s[p] = false) (hup : isUp s[p] = false) (hq : ¬ (s[p].toNat : Int) = 39) (hdg : isDg s[p] = false) (ht : (s[p].toNat : Int) = 34) :
    Calls Tryd.prog 16 #[.string s, .int .i64 (p : Int)] w fun e w' => e = .returned (t1Val p (one ((bs s).drop p))) ∧ Below w.heap.size w w' := by
  have HN : Hid (one ((bs s).drop p) = txt1 ((bs s).drop p)) := by show _ = _; rw [one_at s p hp]; simp [hlo, hup, hdg, ht]
  have HC := Lib.hid (fun o => text_any s p (w.alloc o) hs hp)
  obtain ⟨kd, S, a, x, y, hv⟩ := t1_form p (txt1 ((bs s).drop p))
  rw [hv] at HC
  have HE : Hid (t1Val p (one ((bs s).drop p)) = .tuple #[.agg #[.int .u8 kd, .string S, .int .i64 a], .int .i64 x, .int .i64 y]) := by show _ = _; rw [HN.out, hv]
  have HLo := Lib.hid (hlo ▸ isLower_any s[p])
  have HUp := Lib.hid (hup ▸ isUpper_any s[p])
  have HDg := Lib.hid (hdg ▸ isDigit_any s[p])
  have t1 : ((s[p].toNat : Int) == 39) = false := by rw [beq_eq_false_iff_ne]; exact hq
  have t2 : ((s[p].toNat : Int) == 34) = true := by rw [beq_iff_eq]; exact ht
  clear hv HN hlo hup hq hdg ht
  go_enter Tryd.func16, Tryd.ntmps16
  go_wp2_with (first | (go_at_call 20; ((with_reducible refine (HLo.out _).mono ?_); rintro e w' ⟨rfl, rfl⟩)) | (go_at_call 21; ((with_reducible refine (HUp.out _).mono ?_); rintro e w' ⟨rfl, rfl⟩)) | (go_at_call 23; ((with_reducible refine (HDg.out _).mono ?_); rintro e w' ⟨rfl, rfl⟩)) | (go_at_call 25; fail))
  refine (HC.out _).mono ?_
  rintro e w1 ⟨rfl, hb⟩
  have hblk : w1.heap[w.heap.size]? = some (.cells #[.int .u8 0, .string ⟨#[]⟩, .int .i64 0] 33 (0, 0)) := (hb.block _ (by simp)).trans (heap_alloc_new w _)
  have c0 := cell_of_row w1 w.heap.size 0 _ _ _ hblk
  have c1 := cell_of_row w1 w.heap.size 1 _ _ _ hblk
  have c2 := cell_of_row w1 w.heap.size 2 _ _ _ hblk
  have f0 := row_free w1 w.heap.size 0 _ _ hblk
  have f1 := row_free w1 w.heap.size 1 _ _ hblk
  have f2 := row_free w1 w.heap.size 2 _ _ hblk
  have hlt := lt_of_block hblk
  have HB := Lib.hid hb
  clear hblk hb
  go_wp2_with fail
  refine bodyPost_ret (v := .tuple #[.agg #[.int .u8 kd, .string S, .int .i64 a], .int .i64 x, .int .i64 y]) (by simp [results, Tryd.results16, go_sem, c0, c1, c2]) rfl ⟨?_, stored3 HB.out _ _ _⟩
  rw [HE.out]

set_option maxHeartbeats 2000000 in
set_option maxRecDepth 100000 in
theorem token_sg (s : ByteArray) (p : Nat) (w : World) (hL : Laid w) (hs : s.size ≤ 2000) (hp : p < s.size) (hlo : isLo s[p] = false) (hup : isUp s[p] = false) (hq : ¬ (s[p].toNat : Int) = 39) (hdg : isDg s[p] = false) (ht : ¬ (s[p].toNat : Int) = 34) :
    Calls Tryd.prog 16 #[.string s, .int .i64 (p : Int)] w fun e w' => e = .returned (t1Val p (one ((bs s).drop p))) ∧ Below w.heap.size w w' := by
  have HN : Hid (one ((bs s).drop p) = sgn1 ((bs s).drop p)) := by show _ = _; rw [one_at s p hp]; simp [hlo, hup, hq, hdg, ht]
  have HC := Lib.hid (fun o => sign_any s p (w.alloc o) (hL.below ((Below.refl _ w).alloc (Nat.le_refl _) o) (by have := hL.size; omega)) hs hp)
  obtain ⟨kd, S, a, x, y, hv⟩ := t1_form p (sgn1 ((bs s).drop p))
  rw [hv] at HC
  have HE : Hid (t1Val p (one ((bs s).drop p)) = .tuple #[.agg #[.int .u8 kd, .string S, .int .i64 a], .int .i64 x, .int .i64 y]) := by show _ = _; rw [HN.out, hv]
  have HLo := Lib.hid (hlo ▸ isLower_any s[p])
  have HUp := Lib.hid (hup ▸ isUpper_any s[p])
  have HDg := Lib.hid (hdg ▸ isDigit_any s[p])
  have t1 : ((s[p].toNat : Int) == 39) = false := by rw [beq_eq_false_iff_ne]; exact hq
  have t2 : ((s[p].toNat : Int) == 34) = false := by rw [beq_eq_false_iff_ne]; exact ht
  clear hv HN hL hlo hup hq hdg ht
  go_enter Tryd.func16, Tryd.ntmps16
  go_wp2_with (first | (go_at_call 20; ((with_reducible refine (HLo.out _).mono ?_); rintro e w' ⟨rfl, rfl⟩)) | (go_at_call 21; ((with_reducible refine (HUp.out _).mono ?_); rintro e w' ⟨rfl, rfl⟩)) | (go_at_call 23; ((with_reducible refine (HDg.out _).mono ?_); rintro e w' ⟨rfl, rfl⟩)) | (go_at_call 26; fail))
  refine (HC.out _).mono ?_
  rintro e w1 ⟨rfl, hb⟩
  have hblk : w1.heap[w.heap.size]? = some (.cells #[.int .u8 0, .string ⟨#[]⟩, .int .i64 0] 33 (0, 0)) := (hb.block _ (by simp)).trans (heap_alloc_new w _)
  have c0 := cell_of_row w1 w.heap.size 0 _ _ _ hblk
  have c1 := cell_of_row w1 w.heap.size 1 _ _ _ hblk
  have c2 := cell_of_row w1 w.heap.size 2 _ _ _ hblk
  have f0 := row_free w1 w.heap.size 0 _ _ hblk
  have f1 := row_free w1 w.heap.size 1 _ _ hblk
  have f2 := row_free w1 w.heap.size 2 _ _ hblk
  have hlt := lt_of_block hblk
  have HB := Lib.hid hb
  clear hblk hb
  go_wp2_with fail
  refine bodyPost_ret (v := .tuple #[.agg #[.int .u8 kd, .string S, .int .i64 a], .int .i64 x, .int .i64 y]) (by simp [results, Tryd.results16, go_sem, c0, c1, c2]) rfl ⟨?_, stored3 HB.out _ _ _⟩
  rw [HE.out]

theorem token_any (s : ByteArray) (p : Nat) (w : World) (hL : Laid w) (hs : s.size ≤ 2000) (hp : p < s.size) :
    Calls Tryd.prog 16 #[.string s, .int .i64 (p : Int)] w fun e w' => e = .returned (t1Val p (one ((bs s).drop p))) ∧ Below w.heap.size w w' := by
  rcases hlo : isLo s[p] with _ | _
  · rcases hup : isUp s[p] with _ | _
    · by_cases hq : (s[p].toNat : Int) = 39
      · exact token_qt s p w hL hs hp hlo hup hq
      · rcases hdg : isDg s[p] with _ | _
        · by_cases ht : (s[p].toNat : Int) = 34
          · exact token_tx s p w hL hs hp hlo hup hq hdg ht
          · exact token_sg s p w hL hs hp hlo hup hq hdg ht
        · exact token_dg s p w hL hs hp hlo hup hq hdg
    · exact token_up s p w hL hs hp hlo hup
  · exact token_lo s p w hL hs hp hlo
end Go.Proofs.YtdpbjcdbdikenaaDoor
