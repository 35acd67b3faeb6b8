/- The law of names. -/
import Derived.Test.YtdpbjcdbdikenaaDoorLRemarks
namespace Go.Proofs.YtdpbjcdbdikenaaDoor
open Go.RowKit LexM

def alpha : List UInt8 := [97, 98, 99, 120, 121, 122, 65, 66, 88, 89, 90, 48, 49, 56, 57, 95, 39]
def al (b : UInt8) : UInt8 := alpha.getD (b.toNat % 17) 0

theorem al_nm (b : UInt8) : inNm (al b) = true := by
  have h : ∀ k, k < 17 → inNm (alpha.getD k 0) = true := by decide
  exact h _ (Nat.mod_lt _ (by decide))

theorem run_all_eq (q : UInt8 → Bool) : ∀ l : List UInt8, (∀ b ∈ l, q b = true) → run q l = l.length := by
  intro l
  induction l with
  | nil => intro _; rfl
  | cons a t ih => intro h; rw [run, if_pos (h a List.mem_cons_self), ih (fun b hb => h b (List.mem_cons_of_mem _ hb))]; rfl

theorem toks_nil (p : Nat) : toks p [] = (0, 0, [⟨0, [], p⟩]) := by rw [toks_end p rfl rfl]; rfl

/-- One word alone. -/
theorem toks_word (c : UInt8) (t : List UInt8) (ht : ∀ b ∈ t, inNm b = true) (hc : (isLo c || isUp c || c == 39) = true) :
    toks 0 (c :: t) = if 24 < t.length + 1 then (2, 0, []) else if c == 39 && (t.length == 0 || !isLo (t.headD 0)) then (4, 1, []) else (0, 0, [⟨wk (c :: t), c :: t, 0⟩, ⟨0, [], t.length + 1⟩]) := by
  have hr := run_all_eq inNm t ht
  have hsp : isSp c = false := by
    rcases h : isSp c with _ | _
    · rfl
    · unfold isSp at h
      simp only [Bool.or_eq_true, beq_iff_eq] at h
      rcases h with ((h | h) | h) | h <;> (subst h; cases hc)
  have h40 : c ≠ 40 := by rintro rfl; cases hc
  have ho : opens (c :: t) = false := by
    rcases t with _ | ⟨d, t⟩
    · exact opens_one c
    · rw [opens_cons]; simp [h40]
  have hs := sk_no hsp ho
  have h1 : one (c :: t) = word1 (c :: t) := by unfold one; rw [List.headD_cons, if_pos hc]
  have h2 : word1 (c :: t) = if 24 < t.length + 1 then (2, 0, 0, []) else if c == 39 && (t.length == 0 || !isLo (t.headD 0)) then (4, 1, 0, []) else (0, t.length + 1, wk (c :: t), c :: t) := by
    unfold word1
    rw [List.tail_cons, List.headD_cons, hr, List.take_of_length_le (by simp)]
  by_cases hl : 24 < t.length + 1
  · rw [if_pos hl] at h2 ⊢
    rw [toks_err 0 (l := c :: t) (c := c) (r := t) (by rw [hs]) (by rw [hs]; rfl) (by rw [h1, h2]; decide), h1, h2, hs]; rfl
  · rw [if_neg hl] at h2 ⊢
    by_cases hq : (c == 39 && (t.length == 0 || !isLo (t.headD 0))) = true
    · rw [if_pos hq] at h2 ⊢
      rw [toks_err 0 (l := c :: t) (c := c) (r := t) (by rw [hs]) (by rw [hs]; rfl) (by rw [h1, h2]; decide), h1, h2, hs]; rfl
    · rw [if_neg hq] at h2 ⊢
      rw [toks_one 0 (l := c :: t) (c := c) (r := t) (by rw [hs]) (by rw [hs]; rfl) (by rw [h1, h2]), h1, h2, hs]
      simp only
      rw [List.drop_of_length_le (by simp), toks_nil]
      unfold pre
      rw [if_pos rfl]
      simp

theorem kws_lo : ∀ k ∈ kws, isLo (k.headD 0) = true := by decide
theorem wk_var (t : List UInt8) : wk (39 :: t) = 3 := by
  have h : kws.contains (39 :: t) = false := by
    rw [List.contains_eq_any_beq, List.any_eq_false]
    intro k hk he
    have := kws_lo k hk
    rw [← eq_of_beq he] at this
    cases this
  unfold wk
  rw [h]
  rfl

/-- Two tokens, the first one's text being a whole text. -/
theorem two_tok {w : World} {base kd at1 : Nat} {v : Value} {s : ByteArray} (h : OwnT w base v [⟨kd, bs s, 0⟩, ⟨0, [], at1⟩]) :
    ∃ b off c, v = .slice (some ⟨b, off, none⟩) 2 c ∧ 2 ≤ c ∧ c ≤ maxLen ∧ w.cell? ⟨b, off, none⟩ = some (.int .u8 (kd : Int)) ∧ w.cell? ⟨b, off + 1, none⟩ = some (.string s) := by
  rcases h.rd with ⟨_, _, _, _, h0⟩ | ⟨b, off, c, hv, _, hn, hm, hcs⟩
  · cases h0
  · obtain ⟨c0, c1, _⟩ := hcs 0 _ rfl
    refine ⟨b, off, c, hv, hn, hm, by simpa using c0, ?_⟩
    have : tkS ⟨kd, bs s, 0⟩ = .string s := by unfold tkS; rw [Lib.mk_data]
    rw [← this]
    simpa using c1

theorem al_bs (m : UInt8) : bs ((⟨#[97, 98, 99, 120, 121, 122, 65, 66, 88, 89, 90, 48, 49, 56, 57, 95, 39]⟩ : ByteArray).extract (m.toNat % 17) (m.toNat % 17 + 1)) = [al m] := by
  have h : ∀ k, k < 17 → (alpha.drop k).take 1 = [alpha.getD k 0] := by decide
  rw [ex_bs, Nat.add_sub_cancel_left]
  exact h _ (Nat.mod_lt _ (by decide))
theorem al_size (m : UInt8) : ((⟨#[97, 98, 99, 120, 121, 122, 65, 66, 88, 89, 90, 48, 49, 56, 57, 95, 39]⟩ : ByteArray).extract (m.toNat % 17) (m.toNat % 17 + 1)).size = 1 := by
  rw [← bs_length, al_bs]; rfl
theorem map_al (l : List UInt8) (k : Nat) (h : k < l.length) : (l.take (k + 1)).map al = (l.take k).map al ++ [al l[k]] := by
  rw [List.take_succ_eq_append_getElem h, List.map_append]
  rfl

set_option maxHeartbeats 8000000 in
set_option maxRecDepth 100000 in
theorem names_row (b off c : Nat) (l : List UInt8) (w : World) (hL : Laid w) (hl : l.length ≤ 60) (h0 : 0 < l.length) (_ : l.length ≤ c) (_ : c ≤ maxLen) (hc : ∀ j u, l[j]? = some u → w.cell? ⟨b, off + j, none⟩ = some (.int .u8 (u.toNat : Int))) :
    Calls Tryd.prog 6 #[.slice (some ⟨b, off, none⟩) l.length c] w fun e w' => e = .returned (.bool true) ∧ Below w.heap.size w w' := by
  have HL := Lib.hid hL
  have HC := Lib.hid hc
  have tn0 : ((l.length : Int) == 0) = false := by rw [beq_eq_false_iff_ne]; omega
  clear hL hc
  go_enter Tryd.func6, Tryd.ntmps6
  go_wp2_with fail
  refine (awake _ HL.out).mono ?_
  rintro e w1 ⟨rfl, hb1⟩
  have HB1 := Lib.hid hb1
  clear hb1
  go_wp2_with fail
  go_loop [4, 5] (fun x i => ∃ (k : Nat) (s : ByteArray), k ≤ l.length ∧ i = .int .i64 (k : Int) ∧ x = .string s ∧ s.size = k ∧ Hid (bs s = (l.take k).map al)) (fun _ i => l.length - (intOf i).toNat)
  case atStart => exact ⟨0, ⟨#[]⟩, by omega, rfl, rfl, rfl, rfl⟩
  case round =>
    obtain ⟨k, s, hk, rfl, rfl, hsk, HR⟩ := hrel
    by_cases hlt : k < l.length
    · have c0 := HC.out k l[k] (by simp [hlt])
      have c1 := (HB1.out.cell (World.block_lt_of_cell? w _ c0)).trans c0
      have m0 : (0 : Int) ≤ (l[k].toNat : Int) ∧ (l[k].toNat : Int) ≤ 255 := b256 _
      have hs60 : s.size ≤ 60 := by omega
      have HS := Lib.hid hsk
      have HM := Lib.hid (map_al l k hlt)
      clear hsk c0
      generalize l[k] = m at *
      go_wp2
      go_round
      case rel => exact ⟨k + 1, s ++ (⟨#[97, 98, 99, 120, 121, 122, 65, 66, 88, 89, 90, 48, 49, 56, 57, 95, 39]⟩ : ByteArray).extract (m.toNat % 17) (m.toNat % 17 + 1), by omega, by go_num, rfl, by rw [size_append, al_size, HS.out], by show _ = _; rw [bs_append, al_bs, HR.out, HM.out]⟩
      case measure => simp [intOf]; omega
    · obtain rfl : k = l.length := by omega
      have hR := HR.out
      rw [List.take_length] at hR
      have h0s : 0 < s.size := by omega
      have hcs := drop_cons s 0 h0s
      rw [List.drop_zero] at hcs
      have hnm : ∀ x ∈ bs s, inNm x = true := by
        intro x hx
        rw [hR] at hx
        obtain ⟨y, _, rfl⟩ := List.mem_map.1 hx
        exact al_nm y
      have hs60 : s.size ≤ 60 := by omega
      have m0 : (0 : Int) ≤ (s[0].toNat : Int) ∧ (s[0].toNat : Int) ≤ 255 := b256 _
      have e95 := eqN s[0] 95 (by decide)
      have e39 := eqN s[0] 39 (by decide)
      clear hR HR hsk hlt hk
      by_cases hD : 48 ≤ (s[0].toNat : Int) ∧ (s[0].toNat : Int) ≤ 57
      · obtain ⟨d1, d2⟩ := hD
        clear e95 e39 hcs hnm
        go_wp2_with fail
        go_ret
        exact ⟨rfl, HB1.out⟩
      · by_cases h95 : (s[0].toNat : Int) = 95
        · have t1 : ((s[0].toNat : Int) == 95) = true := by rw [beq_iff_eq]; exact h95
          have d1 : (58 : Int) ≤ (s[0].toNat : Int) := by omega
          clear e95 e39 hcs hnm h95 hD
          go_wp2_with fail
          go_ret
          exact ⟨rfl, HB1.out⟩
        · have t1 : ((s[0].toNat : Int) == 95) = false := by rw [beq_eq_false_iff_ne]; exact h95
          have hD2 : (s[0].toNat : Int) ≤ 47 ∨ 58 ≤ (s[0].toNat : Int) := by omega
          have hc : (isLo s[0] || isUp s[0] || s[0] == 39) = true := by
            have h := hnm s[0] (by rw [hcs]; exact List.mem_cons_self)
            rw [inNm_int] at h
            have hdg : isDg s[0] = false := by
              unfold isDg
              rw [Bool.and_eq_false_iff]
              simp only [decide_eq_false_iff_not]
              omega
            have h39 : (s[0] == 39) = decide ((s[0].toNat : Int) = 39) := by
              rw [Bool.eq_iff_iff]
              simp only [beq_iff_eq, decide_eq_true_eq]
              exact e39
            rw [hdg, decide_eq_false h95] at h
            rw [h39]
            simpa using h
          have HT := toks_word s[0] ((bs s).drop 1) (fun x hx => hnm x (List.mem_of_mem_drop hx)) hc
          have hlen : ((bs s).drop 1).length + 1 = s.size := by rw [List.length_drop, bs_length]; omega
          have hhd : (s[0] == 39 && (((bs s).drop 1).length == 0 || !isLo (((bs s).drop 1).headD 0))) = decide ((s[0].toNat : Int) = 39 ∧ (s.size = 1 ∨ isLo (((bs s).drop 1).headD 0) = false)) := by
            rw [Bool.eq_iff_iff]
            simp only [Bool.and_eq_true, Bool.or_eq_true, beq_iff_eq, Bool.not_eq_true', decide_eq_true_eq]
            rw [show s[0] = 39 ↔ _ from e39]
            have : ((bs s).drop 1).length = 0 ↔ s.size = 1 := by omega
            rw [this]
            exact Iff.rfl
          rw [← hcs, hlen, hhd] at HT
          have HT := Lib.hid HT
          have HE39 := Lib.hid e39
          have HNM := Lib.hid hnm
          have HCS := Lib.hid hcs
          clear hcs hlen hhd hc hnm e95 e39 h95 hD
          rcases hD2 with d1 | d1
          all_goals
            by_cases hbig : 24 < s.size
            · have hk0 := tokens_short s w1 (HL.out.below HB1.out HL.out.size) (by omega)
              rw [HT.out, if_pos hbig] at hk0
              have HK := Lib.hid hk0
              clear hk0
              go_wp2_with (go_at_call 10; refine HK.out.mono ?_; rintro e w2 ⟨v2, rfl, ho2, hb2⟩; have HB2 := Lib.hid (HB1.out.trans (hb2.mono HB1.out.size)); clear hb2 ho2)
              all_goals (go_ret; exact ⟨rfl, HB2.out⟩)
            · have hsm : s.size ≤ 24 := by omega
              by_cases h39 : (s[0].toNat : Int) = 39
              · have t2 : ((s[0].toNat : Int) == 39) = true := by rw [beq_iff_eq]; exact h39
                by_cases hone : s.size = 1
                · have hk0 := tokens_short s w1 (HL.out.below HB1.out HL.out.size) (by omega)
                  rw [HT.out, if_neg hbig, if_pos (by rw [decide_eq_true_eq]; exact ⟨h39, .inl hone⟩)] at hk0
                  have HK := Lib.hid hk0
                  have t3 : s.size ≤ 1 := by omega
                  clear hk0 hone h39
                  go_wp2_with (go_at_call 10; refine HK.out.mono ?_; rintro e w2 ⟨v2, rfl, ho2, hb2⟩; have HB2 := Lib.hid (HB1.out.trans (hb2.mono HB1.out.size)); clear hb2 ho2)
                  all_goals (go_ret; exact ⟨rfl, HB2.out⟩)
                · have h1s : 1 < s.size := by omega
                  have hh1 : ((bs s).drop 1).headD 0 = s[1] := by rw [drop_cons s 1 h1s]; rfl
                  have m1 : (0 : Int) ≤ (s[1].toNat : Int) ∧ (s[1].toNat : Int) ≤ 255 := b256 _
                  rcases hlo : isLo s[1] with _ | _
                  · have hk0 := tokens_short s w1 (HL.out.below HB1.out HL.out.size) (by omega)
                    rw [HT.out, if_neg hbig, if_pos (by rw [decide_eq_true_eq, hh1]; exact ⟨h39, .inr hlo⟩)] at hk0
                    have HK := Lib.hid hk0
                    have hL2 : (s[1].toNat : Int) ≤ 96 ∨ 123 ≤ (s[1].toNat : Int) := by
                      unfold isLo at hlo
                      rw [Bool.and_eq_false_iff] at hlo
                      simp only [decide_eq_false_iff_not] at hlo
                      omega
                    clear hk0 hone h39 hh1 hlo
                    rcases hL2 with g1 | g1
                    all_goals
                      go_wp2_with (go_at_call 10; refine HK.out.mono ?_; rintro e w2 ⟨v2, rfl, ho2, hb2⟩; have HB2 := Lib.hid (HB1.out.trans (hb2.mono HB1.out.size)); clear hb2 ho2)
                      all_goals (go_ret; exact ⟨rfl, HB2.out⟩)
                  · have hk0 := tokens_short s w1 (HL.out.below HB1.out HL.out.size) (by omega)
                    have hwk : wk (bs s) = 3 := by
                      rw [HCS.out, show s[0] = 39 from HE39.out.2 h39]
                      exact wk_var _
                    rw [HT.out, if_neg hbig, if_neg (by rw [decide_eq_true_eq, hh1, hlo]; rintro ⟨_, h | h⟩; exact hone h; cases h), hwk] at hk0
                    have HK := Lib.hid hk0
                    have g1 : (97 : Int) ≤ (s[1].toNat : Int) ∧ (s[1].toNat : Int) ≤ 122 := by
                      unfold isLo at hlo
                      simp only [Bool.and_eq_true, decide_eq_true_eq] at hlo
                      omega
                    obtain ⟨g1, g2⟩ := g1
                    clear hk0 hone h39 hh1 hlo hwk
                    go_wp2_with (go_at_call 10; refine HK.out.mono ?_; rintro e w2 ⟨v2, rfl, ho2, hb2⟩; have HB2 := Lib.hid (HB1.out.trans (hb2.mono HB1.out.size)); obtain ⟨b2, off2, c2, rfl, hn2, hm2, k0, k1⟩ := two_tok ho2; clear hb2 ho2)
                    all_goals (go_ret; exact ⟨rfl, HB2.out⟩)
              · have t2 : ((s[0].toNat : Int) == 39) = false := by rw [beq_eq_false_iff_ne]; exact h39
                have hk0 := tokens_short s w1 (HL.out.below HB1.out HL.out.size) (by omega)
                rw [HT.out, if_neg hbig, if_neg (by rw [decide_eq_true_eq]; exact fun h => h39 h.1)] at hk0
                have HW := Lib.hid (Word_any s)
                have hup : isUp s[0] = decide (65 ≤ (s[0].toNat : Int) ∧ (s[0].toNat : Int) ≤ 90) := by
                  unfold isUp
                  rw [Bool.eq_iff_iff]
                  simp only [Bool.and_eq_true, decide_eq_true_eq]
                  omega
                have hwk : wk (bs s) = if isKw (bs s) then 6 else if isUp s[0] then 2 else 1 := by
                  unfold wk isKw
                  have hh : (bs s).headD 0 = s[0] := by rw [HCS.out]; rfl
                  have h39' : (s[0] == 39) = false := by rw [beq_eq_false_iff_ne]; exact fun h => h39 (HE39.out.1 h)
                  rw [hh, h39']
                  rfl
                rw [hwk] at hk0
                have hU : 65 ≤ (s[0].toNat : Int) ∧ (s[0].toNat : Int) ≤ 90 ∨ (s[0].toNat : Int) ≤ 64 ∨ 91 ≤ (s[0].toNat : Int) := by omega
                rcases hw : isKw (bs s) with _ | _
                · rw [hw] at hk0 HW
                  rcases hU with ⟨g1, g2⟩ | g1 | g1
                  · rw [hup, decide_eq_true ⟨g1, g2⟩] at hk0
                    have HK := Lib.hid hk0
                    clear hk0 hup hwk hw h39
                    go_wp2_with (go_at_call 10; refine HK.out.mono ?_; rintro e w2 ⟨v2, rfl, ho2, hb2⟩; have HB2 := Lib.hid (HB1.out.trans (hb2.mono HB1.out.size)); obtain ⟨b2, off2, c2, rfl, hn2, hm2, k0, k1⟩ := two_tok ho2; simp only [Bool.false_eq_true, if_false, if_true] at k0; clear hb2 ho2)
                    all_goals (go_ret; exact ⟨rfl, HB2.out⟩)
                  all_goals
                    rw [hup, decide_eq_false (by omega)] at hk0
                    have HK := Lib.hid hk0
                    clear hk0 hup hwk hw h39
                    go_wp2_with (go_at_call 10; refine HK.out.mono ?_; rintro e w2 ⟨v2, rfl, ho2, hb2⟩; have HB2 := Lib.hid (HB1.out.trans (hb2.mono HB1.out.size)); obtain ⟨b2, off2, c2, rfl, hn2, hm2, k0, k1⟩ := two_tok ho2; simp only [Bool.false_eq_true, if_false] at k0; clear hb2 ho2)
                    all_goals (go_ret; exact ⟨rfl, HB2.out⟩)
                · rw [hw] at hk0 HW
                  have HK := Lib.hid hk0
                  clear hk0 hup hwk hw h39
                  rcases hU with ⟨g1, g2⟩ | g1 | g1
                  all_goals
                    go_wp2_with (first
                      | (go_at_call 10; refine HK.out.mono ?_; rintro e w2 ⟨v2, rfl, ho2, hb2⟩; have HB2 := Lib.hid (HB1.out.trans (hb2.mono HB1.out.size)); obtain ⟨b2, off2, c2, rfl, hn2, hm2, k0, k1⟩ := two_tok ho2; simp only [if_true] at k0; clear hb2 ho2)
                      | (go_at_call 13; refine (HW.out _).mono ?_; rintro e w3 ⟨rfl, hb3⟩; have HB3 := Lib.hid (HB2.out.trans (hb3.mono HB2.out.size)); clear hb3))
                    all_goals (go_ret; exact ⟨rfl, HB3.out⟩)

theorem names_out (o : Option Addr) (n c : Nat) (w : World) (hL : Laid w) (hn : n = 0 ∨ 60 < n) :
    Calls Tryd.prog 6 #[.slice o n c] w fun e w' => e = .returned (.bool true) ∧ Below w.heap.size w w' := by
  have HL := Lib.hid hL
  clear hL
  rcases hn with rfl | h
  · go_enter Tryd.func6, Tryd.ntmps6
    go_wp2_with fail
    refine (awake _ HL.out).mono ?_
    rintro e w1 ⟨rfl, hb1⟩
    have HB1 := Lib.hid hb1
    clear hb1
    go_wp2_with fail
    refine (awake _ (HL.out.below HB1.out HL.out.size)).mono ?_
    rintro e w2 ⟨rfl, hb2⟩
    have HB2 := Lib.hid (HB1.out.trans (hb2.mono HB1.out.size))
    clear hb2
    go_wp2_with fail
    all_goals (go_ret; exact ⟨rfl, HB2.out⟩)
  · have t0 : ((n : Int) == 0) = false := by rw [beq_eq_false_iff_ne]; omega
    go_enter Tryd.func6, Tryd.ntmps6
    go_wp2_with fail
    refine (awake _ HL.out).mono ?_
    rintro e w1 ⟨rfl, hb1⟩
    have HB1 := Lib.hid hb1
    clear hb1
    go_wp2_with fail
    refine (awake _ (HL.out.below HB1.out HL.out.size)).mono ?_
    rintro e w2 ⟨rfl, hb2⟩
    have HB2 := Lib.hid (HB1.out.trans (hb2.mono HB1.out.size))
    clear hb2
    go_wp2_with fail
    all_goals (go_ret; exact ⟨rfl, HB2.out⟩)

theorem names_walk (v : Value) (l : List UInt8) (w : World) (hL : Laid w) (hv : Rd w v l) (_ : l.length ≤ 140737488351232) :
    Calls Tryd.prog 6 #[v] w fun e w' => e = .returned (.bool true) ∧ Below w.heap.size w w' := by
  by_cases h : 0 < l.length ∧ l.length ≤ 60
  · rcases hv.row with ⟨rfl, _⟩ | ⟨b, off, c, rfl, h1, h2, h3, h4⟩
    · simp at h
    · exact names_row b off c l w hL h.2 h1 h2 h3 h4
  · obtain ⟨o, c, rfl⟩ := hv.form
    exact names_out o _ c w hL (by omega)
end Go.Proofs.YtdpbjcdbdikenaaDoor
