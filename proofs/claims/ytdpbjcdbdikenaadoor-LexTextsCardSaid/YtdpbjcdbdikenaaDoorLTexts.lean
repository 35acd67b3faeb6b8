/- The law of texts in quotes: the walks. -/
import Derived.Test.YtdpbjcdbdikenaaDoorLTextsA
namespace Go.Proofs.YtdpbjcdbdikenaaDoor
open Go.RowKit LexM

set_option maxHeartbeats 8000000 in
set_option maxRecDepth 100000 in
theorem texts_row (b off c : Nat) (l : List UInt8) (w : World) (hL : Laid w) (hl : l.length ≤ 900) (h0 : 0 < l.length) (_ : l.length ≤ c) (_ : c ≤ maxLen) (hc : ∀ j u, l[j]? = some u → w.cell? ⟨b, off + j, none⟩ = some (.int .u8 (u.toNat : Int))) (hR : Rd w (.slice (some ⟨b, off, none⟩) l.length c) l) :
    Calls Tryd.prog 7 #[.slice (some ⟨b, off, none⟩) l.length c] w fun e w' => e = .returned (.bool true) ∧ Below w.heap.size w w' := by
  have HC := Lib.hid hc
  have HR0 := Lib.hid hR
  clear hc hR
  have HL := Lib.hid hL
  clear hL
  go_enter Tryd.func7, Tryd.ntmps7
  go_wp2_with fail
  refine (awake _ HL.out).mono ?_
  rintro e w1 ⟨rfl, hb1⟩
  have HB1 := Lib.hid hb1
  clear hb1
  go_wp2_with fail
  go_loop [3, 4] (fun y i => ∃ (k : Nat) (s : ByteArray), k ≤ l.length ∧ i = .int .i64 (k : Int) ∧ y = .string s ∧ s.size ≤ 2 * k + 1 ∧ Hid (bs s = 34 :: qs (l.take k))) (fun _ i => l.length - (intOf i).toNat)
  case atStart => exact ⟨0, ⟨#[34]⟩, by omega, rfl, rfl, by show 1 ≤ _; omega, rfl⟩
  case round =>
    obtain ⟨k, s, hk, rfl, rfl, hsk, HR⟩ := hrel
    by_cases hlt : k < l.length
    · have c0 := HC.out k l[k] (by simp [hlt])
      have c1 := (HB1.out.cell (World.block_lt_of_cell? w _ c0)).trans c0
      have m0 : (0 : Int) ≤ (l[k].toNat : Int) ∧ (l[k].toNat : Int) ≤ 255 := b256 _
      have hcv : (convert 30 9 (.slice (some ⟨b, off + k, none⟩) 1 (c - k))).run Tryd.prog w1 = .ok (.string ⟨#[l[k]]⟩) w1 := by
        refine toStr (l := [l[k]]) (.inr ⟨_, _, rfl, by simp; omega, by omega, fun j u hu => ?_⟩)
        have hj : j = 0 := by have := (List.getElem?_eq_some_iff.1 hu).1; simpa using this
        subst hj
        obtain rfl : l[k] = u := by simpa using hu
        rw [add_none]
        exact c1
      have hz1 : (⟨#[l[k]]⟩ : ByteArray).size = 1 := rfl
      have HM := Lib.hid (qs_take l k hlt)
      have HQ := Lib.hid (q1_of l[k])
      have hs2 : s.size ≤ 1801 := by omega
      clear c0
      generalize l[k] = m at *
      by_cases hx : (m.toNat : Int) = 10
      · have t1 : ((m.toNat : Int) == 10) = true := by rw [beq_iff_eq]; exact hx
        have HN := Lib.hid (HQ.out.1 hx)
        clear hx
        go_wp2
        go_round
        case rel => exact ⟨k + 1, s ++ ⟨#[92, 110]⟩, by omega, by go_num, rfl, by rw [size_append]; show s.size + 2 ≤ _; omega, by show _ = _; rw [bs_append, HR.out, HM.out, HN.out]; rfl⟩
        case measure => simp [intOf]; omega
      · have t1 : ((m.toNat : Int) == 10) = false := by rw [beq_eq_false_iff_ne]; exact hx
        have hx1 := hx
        clear hx
        by_cases hx : (m.toNat : Int) = 9
        · have t2 : ((m.toNat : Int) == 9) = true := by rw [beq_iff_eq]; exact hx
          clear hx1
          have HN := Lib.hid (HQ.out.2.1 hx)
          clear hx
          go_wp2
          go_round
          case rel => exact ⟨k + 1, s ++ ⟨#[92, 116]⟩, by omega, by go_num, rfl, by rw [size_append]; show s.size + 2 ≤ _; omega, by show _ = _; rw [bs_append, HR.out, HM.out, HN.out]; rfl⟩
          case measure => simp [intOf]; omega
        · have t2 : ((m.toNat : Int) == 9) = false := by rw [beq_eq_false_iff_ne]; exact hx
          have hx2 := hx
          clear hx
          by_cases hx : (m.toNat : Int) = 34
          · have t3 : ((m.toNat : Int) == 34) = true := by rw [beq_iff_eq]; exact hx
            clear hx1 hx2
            have HN := Lib.hid (HQ.out.2.2.1 hx)
            clear hx
            go_wp2
            go_round
            case rel => exact ⟨k + 1, s ++ ⟨#[92, 34]⟩, by omega, by go_num, rfl, by rw [size_append]; show s.size + 2 ≤ _; omega, by show _ = _; rw [bs_append, HR.out, HM.out, HN.out]; rfl⟩
            case measure => simp [intOf]; omega
          · have t3 : ((m.toNat : Int) == 34) = false := by rw [beq_eq_false_iff_ne]; exact hx
            have hx3 := hx
            clear hx
            by_cases hx : (m.toNat : Int) = 92
            · have t4 : ((m.toNat : Int) == 92) = true := by rw [beq_iff_eq]; exact hx
              clear hx1 hx2 hx3
              have HN := Lib.hid (HQ.out.2.2.2.1 hx)
              clear hx
              go_wp2
              go_round
              case rel => exact ⟨k + 1, s ++ ⟨#[92, 92]⟩, by omega, by go_num, rfl, by rw [size_append]; show s.size + 2 ≤ _; omega, by show _ = _; rw [bs_append, HR.out, HM.out, HN.out]; rfl⟩
              case measure => simp [intOf]; omega
            · have t4 : ((m.toNat : Int) == 92) = false := by rw [beq_eq_false_iff_ne]; exact hx
              clear HC
              have HN := Lib.hid (HQ.out.2.2.2.2 hx1 hx2 hx3 hx)
              clear hx hx1 hx2 hx3
              go_wp2
              go_round
              case rel => exact ⟨k + 1, s ++ ⟨#[m]⟩, by omega, by go_num, rfl, by rw [size_append]; show s.size + 1 ≤ _; omega, by show _ = _; rw [bs_append, HR.out, HM.out, HN.out]; rfl⟩
              case measure => simp [intOf]; omega
    · obtain rfl : k = l.length := by omega
      have hR := HR.out
      rw [List.take_length] at hR
      have hR1 := HR0.out
      have hl9 := hl
      have hss : s.size = (qs l).length + 1 := by rw [← bs_length, hR]; simp
      have hql := qs_len l
      have hT1 := toks_txt l
      have hT2 := toks_open l
      have hbs2 : bs (s ++ ⟨#[34]⟩) = 34 :: qs l ++ [34] := by rw [bs_append, hR]
      have hz2 : (s ++ (⟨#[34]⟩ : ByteArray)).size ≤ 2000 := by rw [size_append]; show s.size + 1 ≤ 2000; omega
      have hk1 := tokens_short (s ++ ⟨#[34]⟩) w1 (HL.out.below HB1.out HL.out.size) hz2
      rw [hbs2, hT1] at hk1
      have hk2 := fun W (hW : Laid W) => tokens_short s W hW (by omega)
      rw [hR, hT2, ← hss] at hk2
      have HK1 := Lib.hid hk1
      have HK2 := Lib.hid hk2
      have HRd := Lib.hid hR1
      have hs2000 : s.size ≤ 1801 := by omega
      clear hk1 hk2 hT1 hT2 hbs2 hz2 hR hR1 hql hss HR
      go_wp2_with fail
      refine HK1.out.mono ?_
      rintro e w2 ⟨v2, rfl, ho2, hb2⟩
      have HB2 := Lib.hid (HB1.out.trans (hb2.mono HB1.out.size))
      have R2 := Lib.hid ho2.rd
      clear hb2 ho2
      go_wp2_with fail
      refine (HK2.out _ (HL.out.below HB2.out HL.out.size)).mono ?_
      rintro e w3 ⟨v3, rfl, ho3, hb3⟩
      have HB3 := Lib.hid (HB2.out.trans (hb3.mono HB2.out.size))
      have R3 := R2.out.below hb3 (Nat.le_refl _)
      clear ho3 hb3
      rcases R3 with ⟨_, _, _, _, h0⟩ | ⟨b2, off2, c2, rfl, _, hn2, hm2, hcs⟩
      · cases h0
      · obtain ⟨k0, k1, k2⟩ := hcs 0 _ rfl
        simp only [Nat.zero_mul, Nat.add_zero] at k0 k1 k2
        unfold tkS at k1
        dsimp only at k0 k1 k2
        have hcvP := fun n => toStr (drewN_rd (HRd.out.below HB3.out) n)
        unfold S at hcvP
        have hn2' : 2 ≤ c2 := hn2
        have heq := fun W => eqTok_same W 5 0 ⟨l.toArray⟩
        clear hcs hn2
        generalize (⟨l.toArray⟩ : ByteArray) = LS at *
        go_wp2_with fail
        go_quiet (fail)
        go_wp2
        go_ret
        exact ⟨rfl, HB3.out.trans ⟨rfl, rfl, rfl, Nat.le_refl _, fun _ _ => rfl⟩⟩

set_option maxHeartbeats 8000000 in
set_option maxRecDepth 100000 in
theorem texts_nil (o : Option Addr) (c : Nat) (w : World) (hL : Laid w) (hR : Rd w (.slice o 0 c) []) :
    Calls Tryd.prog 7 #[.slice o 0 c] w fun e w' => e = .returned (.bool true) ∧ Below w.heap.size w w' := by
  have HR0 := Lib.hid hR
  clear hR
  have HL := Lib.hid hL
  clear hL
  go_enter Tryd.func7, Tryd.ntmps7
  go_wp2_with fail
  refine (awake _ HL.out).mono ?_
  rintro e w1 ⟨rfl, hb1⟩
  have HB1 := Lib.hid hb1
  clear hb1
  go_wp2_with fail
  go_loop [3, 4] (fun y i => i = .int .i64 0 ∧ ∃ s : ByteArray, y = .string s ∧ s.size ≤ 1 ∧ Hid (bs s = 34 :: qs [])) (fun _ _ => 0)
  case atStart => exact ⟨rfl, ⟨#[34]⟩, rfl, Nat.le_refl _, rfl⟩
  case round =>
    obtain ⟨rfl, s, rfl, hsk, HR⟩ := hrel
    obtain ⟨l, hR1, hR, hl9⟩ : ∃ l : List UInt8, Rd w (.slice o 0 c) l ∧ bs s = 34 :: qs l ∧ l.length ≤ 900 := ⟨[], HR0.out, HR.out, by simp⟩
    have hss : s.size = (qs l).length + 1 := by rw [← bs_length, hR]; simp
    have hql := qs_len l
    have hT1 := toks_txt l
    have hT2 := toks_open l
    have hbs2 : bs (s ++ ⟨#[34]⟩) = 34 :: qs l ++ [34] := by rw [bs_append, hR]
    have hz2 : (s ++ (⟨#[34]⟩ : ByteArray)).size ≤ 2000 := by rw [size_append]; show s.size + 1 ≤ 2000; omega
    have hk1 := tokens_short (s ++ ⟨#[34]⟩) w1 (HL.out.below HB1.out HL.out.size) hz2
    rw [hbs2, hT1] at hk1
    have hk2 := fun W (hW : Laid W) => tokens_short s W hW (by omega)
    rw [hR, hT2, ← hss] at hk2
    have HK1 := Lib.hid hk1
    have HK2 := Lib.hid hk2
    have HRd := Lib.hid hR1
    have hs2000 : s.size ≤ 1801 := by omega
    clear hk1 hk2 hT1 hT2 hbs2 hz2 hR hR1 hql hss HR
    go_wp2_with fail
    refine HK1.out.mono ?_
    rintro e w2 ⟨v2, rfl, ho2, hb2⟩
    have HB2 := Lib.hid (HB1.out.trans (hb2.mono HB1.out.size))
    have R2 := Lib.hid ho2.rd
    clear hb2 ho2
    go_wp2_with fail
    refine (HK2.out _ (HL.out.below HB2.out HL.out.size)).mono ?_
    rintro e w3 ⟨v3, rfl, ho3, hb3⟩
    have HB3 := Lib.hid (HB2.out.trans (hb3.mono HB2.out.size))
    have R3 := R2.out.below hb3 (Nat.le_refl _)
    clear ho3 hb3
    rcases R3 with ⟨_, _, _, _, h0⟩ | ⟨b2, off2, c2, rfl, _, hn2, hm2, hcs⟩
    · cases h0
    · obtain ⟨k0, k1, k2⟩ := hcs 0 _ rfl
      simp only [Nat.zero_mul, Nat.add_zero] at k0 k1 k2
      unfold tkS at k1
      dsimp only at k0 k1 k2
      have hcvP := fun n => toStr (drewN_rd (HRd.out.below HB3.out) n)
      unfold S at hcvP
      have hn2' : 2 ≤ c2 := hn2
      have heq := fun W => eqTok_same W 5 0 ⟨l.toArray⟩
      clear hcs hn2
      generalize (⟨l.toArray⟩ : ByteArray) = LS at *
      go_wp2_with fail
      go_quiet (fail)
      go_wp2
      go_ret
      exact ⟨rfl, HB3.out.trans ⟨rfl, rfl, rfl, Nat.le_refl _, fun _ _ => rfl⟩⟩

theorem texts_out (o : Option Addr) (n c : Nat) (w : World) (hL : Laid w) (h : 900 < n) :
    Calls Tryd.prog 7 #[.slice o n c] w fun e w' => e = .returned (.bool true) ∧ Below w.heap.size w w' := by
  have HL := Lib.hid hL
  clear hL
  go_enter Tryd.func7, Tryd.ntmps7
  go_wp2_with fail
  refine (awake _ HL.out).mono ?_
  rintro e w1 ⟨rfl, hb1⟩
  have HB1 := Lib.hid hb1
  clear hb1
  go_wp2_with fail
  refine (awake _ (HL.out.below HB1.out HL.out.size)).mono ?_
  rintro e w2 ⟨rfl, hb2⟩
  have HB2 := Lib.hid (HB1.out.trans (hb2.mono HB1.out.size))
  clear hb2
  go_wp2_with fail
  all_goals (go_ret; exact ⟨rfl, HB2.out⟩)

theorem texts_walk (v : Value) (l : List UInt8) (w : World) (hL : Laid w) (hv : Rd w v l) (_ : l.length ≤ 140737488351232) :
    Calls Tryd.prog 7 #[v] w fun e w' => e = .returned (.bool true) ∧ Below w.heap.size w w' := by
  by_cases h : l.length ≤ 900
  · rcases hv.row with ⟨rfl, o, c, rfl⟩ | ⟨b, off, c, rfl, h1, h2, h3, h4⟩
    · exact texts_nil o c w hL hv
    · exact texts_row b off c l w hL h h1 h2 h3 h4 hv
  · obtain ⟨o, c, rfl⟩ := hv.form
    exact texts_out o _ c w hL (by omega)
end Go.Proofs.YtdpbjcdbdikenaaDoor
