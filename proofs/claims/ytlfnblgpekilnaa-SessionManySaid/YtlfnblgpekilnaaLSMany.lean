/- SessionMany. -/
import Derived.Test.YtlfnblgpekilnaaSesX
namespace Go.Proofs.Ytlfnblgpekilnaa
open Go.RowKit OctM

set_option maxHeartbeats 8000000 in
set_option maxRecDepth 100000 in
theorem smany_walk (v : Value) (l : List Nat) (v2 : Value) (r : List UInt8) (w : World) (h : RdW w v l) (h2 : Rd w v2 r) (_h3 : r.length ≤ 140737488351232) :
    Calls Try.prog 4 #[v, v2] w fun e w' => e = .returned (.bool true) ∧ Below w.heap.size w w' := by
  have HA := Lib.hid (fun W => sawake W)
  obtain ⟨o, c, rfl⟩ : ∃ o c, v = .slice o l.length c := by
    obtain ⟨o, c, hv, -⟩ := h
    exact ⟨o, c, hv⟩
  obtain ⟨o2, c2, rfl⟩ : ∃ o c, v2 = .slice o r.length c := by
    rcases h2 with ⟨rfl, rfl⟩ | ⟨_, c, rfl, _⟩ <;> exact ⟨_, _, rfl⟩
  have HR := Lib.hid h
  have HR2 := Lib.hid h2
  clear h h2
  by_cases hlen : r.length ≤ 100 ∧ l.length ≤ 200
  · obtain ⟨h0, h1⟩ := hlen
    have i0 : ¬ (100 : Int) < (r.length : Int) := by omega
    have i2 : ¬ (200 : Int) < (l.length : Int) := by omega
    have HH := Lib.hid (And.intro h0 h1)
    clear h0 h1
    go_enter Try.func4, Try.ntmps4
    go_wp2_with fail
    refine (HA.out _).mono ?_
    rintro e w1 ⟨rfl, hb1⟩
    have HB1 := Lib.hid hb1
    have H0 := Lib.hid (tnew w1)
    have HT := Lib.hid (tb_new w w1 hb1)
    clear hb1
    go_wp2_with fail
    refine H0.out.mono ?_
    rintro e w2 ⟨rfl, hw2⟩
    rw [hw2] at HT
    clear hw2 H0 HB1 i0 i2
    generalize w1.heap.size = b at *
    go_wp2_with fail
    go_loopw [6] (fun t6 wr => ∃ (i : Nat), i ≤ 64 ∧ t6 = .int .u64 ((i : Int) + 1) ∧ Hid (TB w b (many r i) wr)) (fun t6 _ => 66 - (intOf t6).toNat)
    case atStart => exact ⟨0, by omega, rfl, HT⟩
    case round =>
      obtain ⟨i, hi, rfl, HTB⟩ := hrel
      clear HT
      by_cases hlt : i < 64
      · have i1 : (i : Int) + 1 ≤ 64 := by omega
        have wm : IntKind.u64.wrap (((i : Int) + 1) * 1000) = (((i + 1) * 1000 : Nat) : Int) := by rw [IntKind.wrap_u64]; omega
        have wi : IntKind.u64.wrap ((i : Int) + 1 + 1) = (i : Int) + 1 + 1 := by rw [IntKind.wrap_u64]; omega
        have hP := tb_put0 ((i + 1) * 1000) 1 r (.slice o2 r.length c2) w wr HTB.out (by rw [many_len]; omega) (many_ris r i) (many_rp r i HH.out.1) HR2.out (by have := HH.out.1; omega)
        rw [put_many r i hlt] at hP
        have HP := Lib.hid hP
        have HLT := Lib.hid hlt
        generalize hM : (i + 1) * 1000 = M at *
        clear hP hlt hM
        go_wp2_with fail
        refine HP.out.mono ?_
        rintro e w3 ⟨rfl, ht3, -, -⟩
        have HT3 : Hid (TB w b (many r (i + 1)) w3) := Lib.hid ht3
        clear ht3 HP
        go_wp2_with fail
        go_roundw
        case rel => exact ⟨i + 1, by have := HLT.out; omega, by go_num, HT3⟩
        case measure => simp [intOf]; omega
      · obtain rfl : i = 64 := by omega
        have i1 : ¬ ((64 : Nat) : Int) + 1 ≤ 64 := by omega
        clear hlt hi
        go_wp2_with fail
        clear i1
        go_loopw [7] (fun t7 wr2 => ∃ (i : Nat), i ≤ l.length ∧ t7 = .int .i64 (i : Int) ∧ Hid (TB w b (many r 64) wr2)) (fun t7 _ => l.length + 1 - (intOf t7).toNat)
        case atStart => exact ⟨0, by omega, rfl, HTB⟩
        case round =>
          clear HTB
          obtain ⟨i, hi, rfl, HTB⟩ := hrel
          have hl200 := HH.out.2
          by_cases hlt : i < l.length
          · have i1 : (i : Int) < (l.length : Int) := by omega
            obtain ⟨x, hx⟩ : ∃ x, l[i]? = some x := ⟨l[i], List.getElem?_eq_getElem hlt⟩
            obtain ⟨ox, cx, hv, hcs⟩ := HR.out.below HTB.out.bel
            injection hv with hv _ hc'
            subst hv hc'
            obtain ⟨⟨bb, off, ho, hc⟩, hxl⟩ := hcs i x hx
            subst ho
            have wi : IntKind.i64.wrap ((i : Int) + 1) = (i : Int) + 1 := IntWalk.i64_in _ (by omega)
            clear hcs hx
            by_cases hz : x = 0
            · subst hz
              go_wp2_with fail
              go_roundw
              case rel => exact ⟨i + 1, by omega, by go_num, HTB⟩
              case measure => simp [intOf]; omega
            · have j4 : ((x : Int) == 0) = false := beq_eq_false_iff_ne.2 (by omega)
              by_cases hth : x % 1000 = 0 ∧ 1000 ≤ x ∧ x ≤ 64000
              · obtain ⟨ha, hb, hc3⟩ := hth
                have j1 : ((x : Int) % 1000 == 0) = true := by rw [beq_iff_eq]; omega
                have j2 : (1000 : Int) ≤ (x : Int) := by omega
                have j3 : (x : Int) ≤ 64000 := by omega
                clear ha hb hc3
                go_wp2_with fail
                go_roundw
                case rel => exact ⟨i + 1, by omega, by go_num, HTB⟩
                case measure => simp [intOf]; omega
              · have HAS := tb_ask x 1 w wr HTB.out (by rw [many_len]; omega) (many_ris r 64) (many_rp r 64 HH.out.1)
                rw [ask_many r x hz hth] at HAS
                have HAS := Lib.hid HAS
                have hpu : ∀ W, TB w b (many r 64) W → Calls Try.prog 11 #[.pointer (some ⟨b, 0, none⟩), .int .u64 (x : Int), .int .u64 ((1 : Nat) : Int), .slice o2 r.length c2] W (TBP w W b (2, many r 64)) := by
                  intro W hW
                  have := tb_put0 x 1 r (.slice o2 r.length c2) w W hW (by rw [many_len]; omega) (many_ris r 64) (many_rp r 64 HH.out.1) HR2.out (by have := HH.out.1; omega)
                  rw [put_many2 r x r hz hth] at this
                  exact this
                have HPU := Lib.hid hpu
                clear hpu
                by_cases ha : x % 1000 = 0
                · have j1 : ((x : Int) % 1000 == 0) = true := by rw [beq_iff_eq]; omega
                  by_cases hb : 1000 ≤ x
                  · have j2 : (1000 : Int) ≤ (x : Int) := by omega
                    have j3 : ¬ (x : Int) ≤ 64000 := by omega
                    clear hth ha hb hz
                    go_wp2_with fail
                    refine HAS.out.mono ?_
                    rintro e w3 ⟨⟨v3, rfl, ho3, hb3⟩, ht3⟩
                    obtain ⟨o3, c3, rfl⟩ := own_slice ho3
                    have hP := HPU.out w3 ht3
                    clear ho3 hb3
                    go_wp2_with fail
                    refine hP.mono ?_
                    rintro e w4 ⟨rfl, ht4, -, -⟩
                    have HT4 : Hid (TB w b (many r 64) w4) := Lib.hid ht4
                    clear ht4 ht3 hP
                    go_wp2_with fail
                    go_roundw
                    case rel => exact ⟨i + 1, by omega, by go_num, HT4⟩
                    case measure => simp [intOf]; omega
                  · have j2 : ¬ (1000 : Int) ≤ (x : Int) := by omega
                    clear hth ha hb hz
                    go_wp2_with fail
                    refine HAS.out.mono ?_
                    rintro e w3 ⟨⟨v3, rfl, ho3, hb3⟩, ht3⟩
                    obtain ⟨o3, c3, rfl⟩ := own_slice ho3
                    have hP := HPU.out w3 ht3
                    clear ho3 hb3
                    go_wp2_with fail
                    refine hP.mono ?_
                    rintro e w4 ⟨rfl, ht4, -, -⟩
                    have HT4 : Hid (TB w b (many r 64) w4) := Lib.hid ht4
                    clear ht4 ht3 hP
                    go_wp2_with fail
                    go_roundw
                    case rel => exact ⟨i + 1, by omega, by go_num, HT4⟩
                    case measure => simp [intOf]; omega
                · have j1 : ((x : Int) % 1000 == 0) = false := beq_eq_false_iff_ne.2 (by omega)
                  clear hth ha hz
                  go_wp2_with fail
                  refine HAS.out.mono ?_
                  rintro e w3 ⟨⟨v3, rfl, ho3, hb3⟩, ht3⟩
                  obtain ⟨o3, c3, rfl⟩ := own_slice ho3
                  have hP := HPU.out w3 ht3
                  clear ho3 hb3
                  go_wp2_with fail
                  refine hP.mono ?_
                  rintro e w4 ⟨rfl, ht4, -, -⟩
                  have HT4 : Hid (TB w b (many r 64) w4) := Lib.hid ht4
                  clear ht4 ht3 hP
                  go_wp2_with fail
                  go_roundw
                  case rel => exact ⟨i + 1, by omega, by go_num, HT4⟩
                  case measure => simp [intOf]; omega
          · have i1 : ¬ (i : Int) < (l.length : Int) := by omega
            obtain ⟨L, hL, hL2⟩ := put_many3 r
            have hP := tb_put0 5000 2 [] (.slice none 0 0) w wr HTB.out (by rw [many_len]; omega) (many_ris r 64) (many_rp r 64 HH.out.1) (.inl ⟨rfl, rfl⟩) (by simp)
            rw [hL] at hP
            have HP := Lib.hid hP
            have HL2 := Lib.hid hL2
            clear hP hL hL2 HH
            go_wp2_with fail
            refine HP.out.mono ?_
            rintro e w3 ⟨rfl, ht3, -, -⟩
            obtain ⟨v6, hv6⟩ := ht3.ex
            have H5 := tlen_any w3 hv6
            rw [HL2.out] at H5
            have HB5 := Lib.hid ht3.bel
            clear hv6 ht3 HP
            go_wp2_with fail
            refine H5.mono ?_
            rintro e w' ⟨rfl, rfl⟩
            go_wp2_with fail
            go_ret
            exact ⟨rfl, HB5.out⟩
  · have hout : 100 < r.length ∨ (¬ 100 < r.length ∧ 200 < l.length) := by omega
    rcases hout with hz | ⟨hz, hz2⟩
    · have i1 : (100 : Int) < (r.length : Int) := by omega
      clear hz hlen
      go_enter Try.func4, Try.ntmps4
      go_wp2_with fail
      refine (HA.out _).mono ?_
      rintro e w1 ⟨rfl, hb1⟩
      have HB1 := Lib.hid hb1
      clear hb1
      go_wp2_with fail
      refine (HA.out _).mono ?_
      rintro e w2 ⟨rfl, hb2⟩
      have HB2 := Lib.hid (HB1.out.trans (hb2.mono HB1.out.size))
      clear hb2
      go_wp2_with fail
      go_ret
      exact ⟨rfl, HB2.out⟩
    · have i1 : ¬ (100 : Int) < (r.length : Int) := by omega
      have i2 : (200 : Int) < (l.length : Int) := by omega
      clear hz hz2 hlen
      go_enter Try.func4, Try.ntmps4
      go_wp2_with fail
      refine (HA.out _).mono ?_
      rintro e w1 ⟨rfl, hb1⟩
      have HB1 := Lib.hid hb1
      clear hb1
      go_wp2_with fail
      refine (HA.out _).mono ?_
      rintro e w2 ⟨rfl, hb2⟩
      have HB2 := Lib.hid (HB1.out.trans (hb2.mono HB1.out.size))
      clear hb2
      go_wp2_with fail
      go_ret
      exact ⟨rfl, HB2.out⟩
end Go.Proofs.Ytlfnblgpekilnaa
