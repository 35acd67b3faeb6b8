/- Tokens. -/
import Derived.Test.YtdpbjcdbdikenaaDoorLexL
namespace Go.Proofs.YtdpbjcdbdikenaaDoor
open Go.RowKit LexM

theorem ti_bad {w wr : World} {s : ByteArray} {v : Value} {o : List Tk} {p : Nat} (h : TI w wr s v o p) (hb : (sk ((bs s).drop p)).2 = false) {w' : World} (hk : Below wr.heap.size wr w') :
    TPost w (toks 0 (bs s)) (.returned (.tuple #[.slice none 0 0, .int .i64 ((p + (sk ((bs s).drop p)).1 : Nat) : Int), .int .i64 4])) w' := by
  rw [h.eq, toks_bad p hb]
  exact ⟨_, rfl, World.ownsRow_nil _ _ _ _, h.bel.trans (hk.mono h.bel.size)⟩

theorem ti_err {w wr : World} {s : ByteArray} {v : Value} {o : List Tk} {p q : Nat} (h : TI w wr s v o p) (hb : (sk ((bs s).drop p)).2 = true) (hq : q = p + (sk ((bs s).drop p)).1) (hlt : q < s.size) (he : (one ((bs s).drop q)).1 ≠ 0) {w' : World} (hk : Below wr.heap.size wr w') :
    TPost w (toks 0 (bs s)) (.returned (.tuple #[.slice none 0 0, .int .i64 ((q + (one ((bs s).drop q)).2.1 : Nat) : Int), .int .i64 ((one ((bs s).drop q)).1 : Int)])) w' := by
  have hd : ((bs s).drop p).drop (sk ((bs s).drop p)).1 = s[q] :: (bs s).drop (q + 1) := by rw [List.drop_drop, ← hq, drop_cons s q hlt]
  rw [drop_cons s q hlt] at he
  rw [h.eq, toks_err p hb hd he, drop_cons s q hlt]
  have ha : app o ((one (s[q] :: (bs s).drop (q + 1))).1, p + (sk ((bs s).drop p)).1 + (one (s[q] :: (bs s).drop (q + 1))).2.1, []) = ((one (s[q] :: (bs s).drop (q + 1))).1, p + (sk ((bs s).drop p)).1 + (one (s[q] :: (bs s).drop (q + 1))).2.1, []) := by
    unfold app; rw [if_neg he]
  rw [ha, ← hq]
  exact ⟨_, rfl, World.ownsRow_nil _ _ _ _, h.bel.trans (hk.mono h.bel.size)⟩

theorem ti_end {w wr : World} {s : ByteArray} {v : Value} {o : List Tk} {p : Nat} (h : TI w wr s v o p) (hb : (sk ((bs s).drop p)).2 = true) (hq : p + (sk ((bs s).drop p)).1 = s.size) {w' : World} {v' : Value} (hown : OwnT w' w.heap.size v' (o ++ [⟨0, [], s.size⟩])) (hk : Below w.heap.size w w') :
    TPost w (toks 0 (bs s)) (.returned (.tuple #[v', .int .i64 0, .int .i64 0])) w' := by
  have hd : ((bs s).drop p).drop (sk ((bs s).drop p)).1 = [] := by rw [List.drop_drop, hq, List.drop_of_length_le (by rw [bs_length]; omega)]
  rw [h.eq, toks_end p hb hd, hq]
  exact ⟨_, rfl, hown, hk⟩

theorem ti_step {w wr : World} {s : ByteArray} {v : Value} {o : List Tk} {p q : Nat} (h : TI w wr s v o p) (hb : (sk ((bs s).drop p)).2 = true) (hq : q = p + (sk ((bs s).drop p)).1) (hlt : q < s.size) (he : (one ((bs s).drop q)).1 = 0) {w' : World} {v' : Value}
    (hown : OwnT w' w.heap.size v' (o ++ [⟨(one ((bs s).drop q)).2.2.1, (one ((bs s).drop q)).2.2.2, q⟩])) (hk : Below w.heap.size w w') :
    TI w w' s v' (o ++ [⟨(one ((bs s).drop q)).2.2.1, (one ((bs s).drop q)).2.2.2, q⟩]) (q + (one ((bs s).drop q)).2.1) ∧ p < q + (one ((bs s).drop q)).2.1 := by
  have hd : ((bs s).drop p).drop (sk ((bs s).drop p)).1 = s[q] :: (bs s).drop (q + 1) := by rw [List.drop_drop, ← hq, drop_cons s q hlt]
  have h1 := one_le s[q] ((bs s).drop (q + 1))
  rw [← drop_cons s q hlt, List.length_drop, bs_length] at h1
  have h2 := h1.2 he
  have h3 := h1.1
  refine ⟨⟨hown, hk, by omega, ?_, ?_⟩, by omega⟩
  · have := h.len
    simp only [List.length_append, List.length_singleton]
    omega
  · rw [drop_cons s q hlt] at he
    rw [h.eq, toks_one p hb hd he, app_pre, ← hq, ← drop_cons s q hlt, List.drop_drop]

def TkCells (t : Tk) : Array Value := #[.int .u8 (t.kind : Int), tkS t, .int .i64 (t.at_ : Int)]

set_option maxHeartbeats 8000000 in
set_option maxRecDepth 100000 in
theorem tokens_short (s : ByteArray) (w : World) (hL : Laid w) (hs : s.size ≤ 2000) :
    Calls Tryd.prog 10 #[.string s] w (TPost w (toks 0 (bs s))) := by
  obtain ⟨i0, hi0, hz0, hz1, hz2⟩ := info_parts tokInfo
  have ht : TI w w s (.slice none 0 0) [] 0 := ⟨World.ownsRow_nil _ _ _ _, Below.refl _ _, Nat.zero_le _, Nat.le_refl _, by rw [app_nil]; rfl⟩
  have HT0 := Lib.hid ht
  have HL0 := Lib.hid hL
  clear ht hL
  go_enter Tryd.func10, Tryd.ntmps10
  go_wp2
  refine wp_scope_jumps 0 (fun a' w' => ∃ (p : Nat) (v : Value) (o : List Tk) (u7 u8 u9 u10 u11 u12 u13 u14 u15 u16 u17 u18 u19 u20 u21 u22 u23 u24 u25 u26 u27 u28 u29 u30 u31 u32 u33 u34 u35 u36 u37 u38 u39 u40 u41 u42 u43 u44 u45 u46 u47 : Value), a' = { tmps := #[.string s, undef, .slice none 0 0, .int .i64 0, .int .i64 0, v, .int .i64 (p : Int), u7, u8, u9, u10, u11, u12, u13, u14, u15, u16, u17, u18, u19, u20, u21, u22, u23, u24, u25, u26, u27, u28, u29, u30, u31, u32, u33, u34, u35, u36, u37, u38, u39, u40, u41, u42, u43, u44, u45, u46, u47], defers := [] } ∧ TI w w' s v o p) (fun a' _ => s.size - (intOf (a'.tmps.getD 6 undef)).toNat) rfl ?_ ?_
  · go_wp2
    go_step3
    obtain ⟨o, ht⟩ : ∃ o : List Tk, TI w w s (.slice none 0 0) o 0 := ⟨[], HT0.out⟩
    have hL := HL0.out
    have hsz := ht.bel.size
    have hp2000 := ht.le
    have HS : ∀ W : World, Calls Tryd.prog 15 #[.string s, .int .i64 0] W fun e w' => e = .returned (skVal 0 (sk ((bs s).drop 0))) ∧ W = w' := fun W => skip_any s 0 W hs ht.le
    have hLw := hL.below ht.bel hL.size
    rcases hb : (sk ((bs s).drop 0)).2 with _ | _
    · have HF := Lib.hid (fun w' => ti_bad (w' := w') ht hb)
      rw [skVal_eq 0 _ _ 4 rfl (by rw [hb]; rfl)] at HS
      have HS := Lib.hid HS
      generalize (0 + (sk ((bs s).drop 0)).1 : Nat) = q at *
      clear ht hLw hb
      go_wp2_with (go_at_call 15; ((with_reducible refine (HS.out _).mono ?_); rintro e w' ⟨rfl, rfl⟩))
      (try simp only [Exit.jump])
      go_ret3
      exact HF.out _ (Below.refl _ _)
    · have hql := sk_le _ ((bs s).drop 0) (Nat.le_refl _)
      rw [List.length_drop, bs_length] at hql
      rw [skVal_eq 0 _ _ 0 rfl (by rw [hb]; rfl)] at HS
      have HEnd := Lib.hid (fun hq w' v' => ti_end (w' := w') (v' := v') ht hb hq)
      have HErr := Lib.hid (fun q hq hlt he w' => ti_err (q := q) (w' := w') ht hb hq hlt he)
      have HStep := Lib.hid (fun q hq hlt he w' v' => ti_step (q := q) (w' := w') (v' := v') ht hb hq hlt he)
      obtain ⟨q, hq⟩ : ∃ q, q = 0 + (sk ((bs s).drop 0)).1 := ⟨_, rfl⟩
      have hq2 : q ≤ s.size := by omega
      rw [← hq] at HS
      have HQ := Lib.hid hq
      have HS := Lib.hid HS
      have hown := ht.own
      have hlen := ht.len
      have HT := Lib.hid ht
      have HLw := Lib.hid hLw
      clear hq hb ht hLw hql
      by_cases hend : q = s.size
      · have t1 : ((q : Int) == (s.size : Int)) = true := by rw [beq_iff_eq]; omega
        have HE2 := Lib.hid hend
        clear hend
        go_wp2_with (first
          | (go_at_call 15; ((with_reducible refine (HS.out _).mono ?_); rintro e w' ⟨rfl, rfl⟩))
          | (at_builtin
             (
             refine wpList_append_own_at _ rfl (.tmp 27) (.tmp 30) 23 (by rfl) w.heap.size 33 i0 _ 3 32 Tryd.underlying23 hi0 hz0 hz1 hz2 rfl (by omega) (.slice none 0 0) o.length (CsT o) (by rfl) (World.ownsRow.alloc hown _) ⟨w.heap.size, 0, none⟩ 1 1 [.int .u8 0, .string ⟨#[]⟩, .int .i64 (q : Int)] (by rfl) (by rfl) (cells_three_new _ _ _ _ _) (by simp [Value.oneCell']) (by unfold maxLen; omega) (by omega) (by first | (simp; omega) | simp) ?_
             intro v2 w2 hown2 hgrow _ _
             have hb2 := ((HT.out.bel).alloc hsz _).grown hgrow (by first | (simp; omega) | simp) (fun k hk => (World.ownsRow.lt hown k hk).1)
             have hown3 : OwnT w2 w.heap.size v2 (o ++ [⟨0, [], s.size⟩]) := by
               unfold OwnT
               rw [List.length_append, CsT_append, ← HE2.out]
               exact hown2
             have HF := Lib.hid (HEnd.out (by rw [← HQ.out, HE2.out]) w2 v2 hown3 hb2)
             clear hown2 hgrow hown hb2 hown3)))
        (try simp only [Exit.jump])
        go_ret3
        exact HF.out
      · have hlt : q < s.size := by omega
        have t1 : ((q : Int) == (s.size : Int)) = false := by rw [beq_eq_false_iff_ne]; omega
        have HK := Lib.hid (token_any s q w HLw.out hs hlt)
        by_cases he : (one ((bs s).drop q)).1 = 0
        · have hSt := HStep.out q HQ.out hlt he
          have h1 := one_le s[q] ((bs s).drop (q + 1))
          rw [← drop_cons s q hlt, List.length_drop, bs_length] at h1
          have hn1 : (one ((bs s).drop q)).2.1 ≤ s.size - q := h1.1
          unfold t1Val at HK
          rw [he] at HK
          generalize (one ((bs s).drop q)).2.1 = n at *
          generalize (one ((bs s).drop q)).2.2.1 = kd at *
          generalize (one ((bs s).drop q)).2.2.2 = tx at *
          have hSt := Lib.hid hSt
          simp only [if_true] at HK
          have HS2 : Hid (∃ S : ByteArray, S = ⟨tx.toArray⟩) := ⟨_, rfl⟩
          obtain ⟨S, hS⟩ := HS2.out
          have HS2 : Hid (tkS ⟨kd, tx, q⟩ = .string S) := by show _ = _; rw [hS]; rfl
          rw [← hS] at HK
          clear hS
          have HK : Hid (Calls Tryd.prog 16 #[.string s, .int .i64 (q : Int)] w fun e w' => e = .returned (.tuple #[.agg #[.int .u8 (kd : Int), .string S, .int .i64 (q : Int)], .int .i64 ((q + n : Nat) : Int), .int .i64 0]) ∧ Below w.heap.size w w') := HK
          clear h1 he hend HErr HEnd HStep
          go_wp2_with (first
            | (go_at_call 15; ((with_reducible refine (HS.out _).mono ?_); rintro e w' ⟨rfl, rfl⟩))
            | (go_at_call 16; refine (HK.out).mono ?_; rintro e w1 ⟨rfl, hbt⟩; have hs1 := hbt.size; have hown1 := OwnT.below hown hbt (Nat.le_refl _); have HB1 := Lib.hid (HT.out.bel.trans (hbt.mono hsz)); clear hbt)
            | (at_builtin
               refine wpList_append_own_at _ rfl (.tmp 43) (.tmp 45) 23 (by rfl) w.heap.size 33 i0 _ 3 32 Tryd.underlying23 hi0 hz0 hz1 hz2 rfl (by omega) (.slice none 0 0) o.length (CsT o) (by rfl) (World.ownsRow.alloc (World.ownsRow.alloc hown1 _) _) ⟨w1.heap.size + 1, 0, none⟩ 1 1 [.int .u8 (kd : Int), .string S, .int .i64 (q : Int)] (by rfl) (by rfl) (by have := cells_three_new (w1.alloc (.cells #[.int .u8 (kd : Int), .string S, .int .i64 (q : Int)] 33)) (.int .u8 (kd : Int)) (.string S) (.int .i64 (q : Int)) 33; simpa using this) (by simp [Value.oneCell']) (by unfold maxLen; omega) (by omega) (by first | (simp; omega) | simp) ?_
               intro v2 w2 hown2 hgrow _ _
               have hb2 := (((HB1.out).alloc (by omega) _).alloc (by first | (simp; omega) | simp) _).grown hgrow (by first | (simp; omega) | simp) (fun k hk => (World.ownsRow.lt hown1 k hk).1)
               have hown3 : OwnT w2 w.heap.size v2 (o ++ [⟨kd, tx, q⟩]) := by
                 unfold OwnT
                 rw [List.length_append, CsT_append]
                 simp only [CsT]
                 rw [HS2.out]
                 exact hown2
               have HF := Lib.hid (hSt.out w2 v2 hown3 hb2)
               clear hown2 hgrow hown hown1 hb2 hown3))
          go_step3
          exact ⟨rfl, q + n, v2, _, _, _, _, _, _, _, _, _, _, _, _, _, _, _, _, _, _, _, _, _, _, _, _, _, _, _, _, _, _, _, _, _, _, _, _, _, _, _, _, _, _, rfl, HF.out.1⟩
        · have hEr := HErr.out q HQ.out hlt he
          have t2 : (((one ((bs s).drop q)).1 : Int) != 0) = true := by rw [bne_iff_ne]; omega
          unfold t1Val at HK
          generalize hge : (one ((bs s).drop q)).1 = er at *
          rw [if_neg he] at HK
          generalize (one ((bs s).drop q)).2.1 = n at *
          generalize (one ((bs s).drop q)).2.2.1 = kd at *
          generalize (one ((bs s).drop q)).2.2.2 = tx at *
          have hEr := Lib.hid hEr
          clear hge he hend HEnd HStep HErr
          go_wp2_with (first
            | (go_at_call 15; ((with_reducible refine (HS.out _).mono ?_); rintro e w' ⟨rfl, rfl⟩))
            | (go_at_call 16; refine (HK.out).mono ?_; rintro e w1 ⟨rfl, hbt⟩; have HB1 := Lib.hid hbt; have hs1 := hbt.size; clear hbt))
          (try simp only [Exit.jump])
          go_ret3
          exact hEr.out _ (HB1.out.trans ((Below.refl _ _).alloc (Nat.le_refl _) _ |>.mono (by omega)))
  · rintro a' wr ⟨p, v, o, u7, u8, u9, u10, u11, u12, u13, u14, u15, u16, u17, u18, u19, u20, u21, u22, u23, u24, u25, u26, u27, u28, u29, u30, u31, u32, u33, u34, u35, u36, u37, u38, u39, u40, u41, u42, u43, u44, u45, u46, u47, rfl, ht⟩
    have hL := HL0.out
    have hsz := ht.bel.size
    have hp2000 := ht.le
    have HS : ∀ W : World, Calls Tryd.prog 15 #[.string s, .int .i64 (p : Int)] W fun e w' => e = .returned (skVal p (sk ((bs s).drop p))) ∧ W = w' := fun W => skip_any s p W hs ht.le
    have hLw := hL.below ht.bel hL.size
    rcases hb : (sk ((bs s).drop p)).2 with _ | _
    · have HF := Lib.hid (fun w' => ti_bad (w' := w') ht hb)
      rw [skVal_eq p _ _ 4 rfl (by rw [hb]; rfl)] at HS
      have HS := Lib.hid HS
      generalize (p + (sk ((bs s).drop p)).1 : Nat) = q at *
      clear ht hLw hb
      go_wp2_with (go_at_call 15; ((with_reducible refine (HS.out _).mono ?_); rintro e w' ⟨rfl, rfl⟩))
      (try simp only [Exit.jump])
      go_ret3
      exact HF.out _ (Below.refl _ _)
    · have hql := sk_le _ ((bs s).drop p) (Nat.le_refl _)
      rw [List.length_drop, bs_length] at hql
      rw [skVal_eq p _ _ 0 rfl (by rw [hb]; rfl)] at HS
      have HEnd := Lib.hid (fun hq w' v' => ti_end (w' := w') (v' := v') ht hb hq)
      have HErr := Lib.hid (fun q hq hlt he w' => ti_err (q := q) (w' := w') ht hb hq hlt he)
      have HStep := Lib.hid (fun q hq hlt he w' v' => ti_step (q := q) (w' := w') (v' := v') ht hb hq hlt he)
      obtain ⟨q, hq⟩ : ∃ q, q = p + (sk ((bs s).drop p)).1 := ⟨_, rfl⟩
      have hq2 : q ≤ s.size := by omega
      rw [← hq] at HS
      have HQ := Lib.hid hq
      have HS := Lib.hid HS
      have hown := ht.own
      have hlen := ht.len
      have HT := Lib.hid ht
      have HLw := Lib.hid hLw
      clear hq hb ht hLw hql
      by_cases hend : q = s.size
      · have t1 : ((q : Int) == (s.size : Int)) = true := by rw [beq_iff_eq]; omega
        have HE2 := Lib.hid hend
        clear hend
        go_wp2_with (first
          | (go_at_call 15; ((with_reducible refine (HS.out _).mono ?_); rintro e w' ⟨rfl, rfl⟩))
          | (at_builtin
             refine wpList_append_own_at _ rfl (.tmp 27) (.tmp 30) 23 (by rfl) w.heap.size 33 i0 _ 3 32 Tryd.underlying23 hi0 hz0 hz1 hz2 rfl (by omega) v o.length (CsT o) (by rfl) (World.ownsRow.alloc hown _) ⟨wr.heap.size, 0, none⟩ 1 1 [.int .u8 0, .string ⟨#[]⟩, .int .i64 (q : Int)] (by rfl) (by rfl) (cells_three_new _ _ _ _ _) (by simp [Value.oneCell']) (by unfold maxLen; omega) (by omega) (by first | (simp; omega) | simp) ?_
             intro v2 w2 hown2 hgrow _ _
             have hb2 := ((HT.out.bel).alloc hsz _).grown hgrow (by first | (simp; omega) | simp) (fun k hk => (World.ownsRow.lt hown k hk).1)
             have hown3 : OwnT w2 w.heap.size v2 (o ++ [⟨0, [], s.size⟩]) := by
               unfold OwnT
               rw [List.length_append, CsT_append, ← HE2.out]
               exact hown2
             have HF := Lib.hid (HEnd.out (by rw [← HQ.out, HE2.out]) w2 v2 hown3 hb2)
             clear hown2 hgrow hown hb2 hown3))
        (try simp only [Exit.jump])
        go_ret3
        exact HF.out
      · have hlt : q < s.size := by omega
        have t1 : ((q : Int) == (s.size : Int)) = false := by rw [beq_eq_false_iff_ne]; omega
        have HK := Lib.hid (token_any s q wr HLw.out hs hlt)
        by_cases he : (one ((bs s).drop q)).1 = 0
        · have hSt := HStep.out q HQ.out hlt he
          have h1 := one_le s[q] ((bs s).drop (q + 1))
          rw [← drop_cons s q hlt, List.length_drop, bs_length] at h1
          have hn1 : (one ((bs s).drop q)).2.1 ≤ s.size - q := h1.1
          unfold t1Val at HK
          rw [he] at HK
          generalize (one ((bs s).drop q)).2.1 = n at *
          generalize (one ((bs s).drop q)).2.2.1 = kd at *
          generalize (one ((bs s).drop q)).2.2.2 = tx at *
          have hSt := Lib.hid hSt
          simp only [if_true] at HK
          have HS2 : Hid (∃ S : ByteArray, S = ⟨tx.toArray⟩) := ⟨_, rfl⟩
          obtain ⟨S, hS⟩ := HS2.out
          have HS2 : Hid (tkS ⟨kd, tx, q⟩ = .string S) := by show _ = _; rw [hS]; rfl
          rw [← hS] at HK
          clear hS
          have HK : Hid (Calls Tryd.prog 16 #[.string s, .int .i64 (q : Int)] wr fun e w' => e = .returned (.tuple #[.agg #[.int .u8 (kd : Int), .string S, .int .i64 (q : Int)], .int .i64 ((q + n : Nat) : Int), .int .i64 0]) ∧ Below wr.heap.size wr w') := HK
          clear h1 he hend HErr HEnd HStep
          go_wp2_with (first
            | (go_at_call 15; ((with_reducible refine (HS.out _).mono ?_); rintro e w' ⟨rfl, rfl⟩))
            | (go_at_call 16; refine (HK.out).mono ?_; rintro e w1 ⟨rfl, hbt⟩; have hs1 := hbt.size; have hown1 := OwnT.below hown hbt (Nat.le_refl _); have HB1 := Lib.hid (HT.out.bel.trans (hbt.mono hsz)); clear hbt)
            | (at_builtin
               refine wpList_append_own_at _ rfl (.tmp 43) (.tmp 45) 23 (by rfl) w.heap.size 33 i0 _ 3 32 Tryd.underlying23 hi0 hz0 hz1 hz2 rfl (by omega) v o.length (CsT o) (by rfl) (World.ownsRow.alloc (World.ownsRow.alloc hown1 _) _) ⟨w1.heap.size + 1, 0, none⟩ 1 1 [.int .u8 (kd : Int), .string S, .int .i64 (q : Int)] (by rfl) (by rfl) (by have := cells_three_new (w1.alloc (.cells #[.int .u8 (kd : Int), .string S, .int .i64 (q : Int)] 33)) (.int .u8 (kd : Int)) (.string S) (.int .i64 (q : Int)) 33; simpa using this) (by simp [Value.oneCell']) (by unfold maxLen; omega) (by omega) (by first | (simp; omega) | simp) ?_
               intro v2 w2 hown2 hgrow _ _
               have hb2 := (((HB1.out).alloc (by omega) _).alloc (by first | (simp; omega) | simp) _).grown hgrow (by first | (simp; omega) | simp) (fun k hk => (World.ownsRow.lt hown1 k hk).1)
               have hown3 : OwnT w2 w.heap.size v2 (o ++ [⟨kd, tx, q⟩]) := by
                 unfold OwnT
                 rw [List.length_append, CsT_append]
                 simp only [CsT]
                 rw [HS2.out]
                 exact hown2
               have HF := Lib.hid (hSt.out w2 v2 hown3 hb2)
               clear hown2 hgrow hown hown1 hb2 hown3))
          go_step3
          refine ⟨rfl, ⟨q + n, v2, _, _, _, _, _, _, _, _, _, _, _, _, _, _, _, _, _, _, _, _, _, _, _, _, _, _, _, _, _, _, _, _, _, _, _, _, _, _, _, _, _, _, rfl, HF.out.1⟩, ?_⟩
          have := HF.out.2
          have := HF.out.1.le
          simp [intOf]
          omega
        · have hEr := HErr.out q HQ.out hlt he
          have t2 : (((one ((bs s).drop q)).1 : Int) != 0) = true := by rw [bne_iff_ne]; omega
          unfold t1Val at HK
          generalize hge : (one ((bs s).drop q)).1 = er at *
          rw [if_neg he] at HK
          generalize (one ((bs s).drop q)).2.1 = n at *
          generalize (one ((bs s).drop q)).2.2.1 = kd at *
          generalize (one ((bs s).drop q)).2.2.2 = tx at *
          have hEr := Lib.hid hEr
          clear hge he hend HEnd HStep HErr
          go_wp2_with (first
            | (go_at_call 15; ((with_reducible refine (HS.out _).mono ?_); rintro e w' ⟨rfl, rfl⟩))
            | (go_at_call 16; refine (HK.out).mono ?_; rintro e w1 ⟨rfl, hbt⟩; have HB1 := Lib.hid hbt; have hs1 := hbt.size; clear hbt))
          (try simp only [Exit.jump])
          go_ret3
          exact hEr.out _ (HB1.out.trans ((Below.refl _ _).alloc (Nat.le_refl _) _ |>.mono (by omega)))

theorem tokens_long (s : ByteArray) (w : World) (hs : 2000 < s.size) :
    Calls Tryd.prog 10 #[.string s] w (TPost w (2, 0, [])) := by
  have HF := Lib.hid (show TPost w (2, 0, []) (.returned (.tuple #[.slice none 0 0, .int .i64 0, .int .i64 2])) w from ⟨_, rfl, World.ownsRow_nil _ _ _ _, Below.refl _ _⟩)
  go_enter Tryd.func10, Tryd.ntmps10
  go_wp2
  go_step3
  go_wp2
  (try simp only [Exit.jump])
  (try rw [Exit.noGoto_ret])
  go_ret3
  exact HF.out

theorem tokens_any (s : ByteArray) (w : World) (hL : Laid w) : Calls Tryd.prog 10 #[.string s] w (TPost w (lexed (bs s))) := by
  unfold lexed
  rw [bs_length]
  by_cases h : 2000 < s.size
  · rw [if_pos h]; exact tokens_long s w h
  · rw [if_neg h]; exact tokens_short s w hL (by omega)
end Go.Proofs.YtdpbjcdbdikenaaDoor
