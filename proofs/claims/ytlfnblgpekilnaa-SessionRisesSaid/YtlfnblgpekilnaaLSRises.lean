/- SessionRises. -/
import Derived.Test.YtlfnblgpekilnaaSesW
namespace Go.Proofs.Ytlfnblgpekilnaa
open Go.RowKit OctM

set_option maxHeartbeats 8000000 in
set_option maxRecDepth 100000 in
theorem srises_walk (id : Int) (v : Value) (l : List Nat) (w : World) (h1 : 0 ≤ id) (h2 : id ≤ 18446744073709551615) (h : RdW w v l) :
    Calls Try.prog 5 #[.int .u64 id, v] w fun e w' => e = .returned (.bool true) ∧ Below w.heap.size w w' := by
  have HA := Lib.hid (fun W => sawake W)
  obtain ⟨o, c, rfl⟩ : ∃ o c, v = .slice o l.length c := by
    obtain ⟨o, c, hv, -⟩ := h
    exact ⟨o, c, hv⟩
  have HR := Lib.hid h
  obtain ⟨N, rfl⟩ := Int.eq_ofNat_of_zero_le h1
  clear h h1 h2
  by_cases hlen : ¬ N = 0 ∧ l.length ≤ 50
  · obtain ⟨h0, h1⟩ := hlen
    have i0 : ((N : Int) == 0) = false := beq_eq_false_iff_ne.2 (by omega)
    have i1 : (decide ((50 : Int) < (l.length : Int))) = false := decide_eq_false (by omega)
    have i2 : ¬ (50 : Int) < (l.length : Int) := by omega
    have HH := Lib.hid (And.intro h0 h1)
    clear h0 h1
    go_enter Try.func5, Try.ntmps5
    go_wp2_with fail
    refine (HA.out _).mono ?_
    rintro e w1 ⟨rfl, hb1⟩
    have HB1 := Lib.hid hb1
    have H0 := Lib.hid (tnew w1)
    have HT := Lib.hid (tb_new w w1 hb1)
    clear hb1
    go_wp2_with fail
    refine H0.out.mono ?_
    rintro e w2 ⟨rfl, hw2⟩
    rw [hw2] at HT
    clear hw2 H0 HB1 i0 i1 i2
    generalize w1.heap.size = b at *
    go_wp2_with fail
    go_loopw [6, 7] (fun t6 t7 wr => ∃ (i top : Nat) (r : List UInt8), i ≤ l.length ∧ t6 = .int .u64 (top : Int) ∧ t7 = .int .i64 (i : Int) ∧ Hid (r.length ≤ 1) ∧ Hid (TB w b (stR N top r) wr)) (fun _ t7 _ => l.length + 1 - (intOf t7).toNat)
    case atStart => exact ⟨0, 0, [], by omega, rfl, rfl, Lib.hid (by simp), HT⟩
    case round =>
      obtain ⟨i, top, r, hi, rfl, rfl, HRL, HTB⟩ := hrel
      clear HT
      obtain ⟨hN, hlen50⟩ := HH.out
      have HN := Lib.hid hN
      by_cases hlt : i < l.length
      · have i1 : (i : Int) < (l.length : Int) := by omega
        obtain ⟨x, hx⟩ : ∃ x, l[i]? = some x := ⟨l[i], List.getElem?_eq_getElem hlt⟩
        obtain ⟨ox, cx, hv, hcs⟩ := HR.out.below HTB.out.bel
        injection hv with hv _ hc'
        subst hv hc'
        obtain ⟨⟨bb, off, ho, hc⟩, hxl⟩ := hcs i x hx
        subst ho
        have wu : IntKind.u8.wrap (i : Int) = (i : Int) := by rw [IntKind.wrap_u8]; omega
        have wi : IntKind.i64.wrap ((i : Int) + 1) = (i : Int) + 1 := IntWalk.i64_in _ (by omega)
        have hk : ((UInt8.ofNat i).toNat : Int) = (i : Int) := by
          rw [UInt8.toNat_ofNat_of_lt' (show i < 256 by omega)]
        have hP := tb_lit N x (UInt8.ofNat i) (0, 0) w wr HTB.out (by have := stR_len N top r; omega) (stR_ris N top r) (stR_rp N top r HRL.out)
        rw [hk] at hP
        have HP := Lib.hid hP
        have hA : ∀ (y : List UInt8) (m : Nat) (W : World), y.length ≤ 1 → m ≠ 0 → TB w b (stR N m y) W → Calls Try.prog 13 #[.pointer (some ⟨b, 0, none⟩), .int .u64 (N : Int), .int .u64 (m : Int)] W fun e w' => AskP W (0, y) e w' ∧ TB w b (stR N m y) w' := by
          intro y m W hy hm h
          have := tb_ask N m w W h (by have := stR_len N m y; omega) (stR_ris N m y) (stR_rp N m y hy)
          rw [ask_stR N m y hN hm] at this
          exact this
        have HAS := Lib.hid hA
        have hput := put_stR N top x r [UInt8.ofNat i] hN
        have HPUT := Lib.hid hput
        have HK := Lib.hid hk
        clear hcs hx hP hA hput hk hN hlen50
        go_wp2_with fail
        refine HP.out.mono ?_
        rintro e w3 ⟨rfl, ht3, -, -⟩
        clear HP hc
        by_cases hgt : top < x
        · have e1 := HPUT.out.1 hgt
          rw [e1] at ht3 ⊢
          have j1 : (top : Int) < (x : Int) := by omega
          have j2 : ((x : Int) == 0) = false := beq_eq_false_iff_ne.2 (by omega)
          have HT3 : Hid (TB w b (stR N x [UInt8.ofNat i]) w3) := Lib.hid ht3
          have HC := Lib.hid (HAS.out [UInt8.ofNat i] x w3 (by simp) (by omega) ht3)
          clear ht3 e1 HPUT HAS hgt
          go_wp2_with fail
          refine HC.out.mono ?_
          rintro e w4 ⟨⟨v4, rfl, ho4, hb4⟩, ht4⟩
          obtain ⟨o4, c4, rfl⟩ := own_slice ho4
          have HT4 := Lib.hid ht4
          have hb5 : Below w4.heap.size w4 (w4.alloc (.cells #[.int .u8 (i : Int)] 5)) := (Below.refl _ _).alloc (Nat.le_refl _) _
          have tx : (convert 31 9 (.slice o4 1 c4)).run Try.prog w4 = .ok (.string ⟨#[UInt8.ofNat i]⟩) w4 := textS ho4
          have tx2 : (convert 31 9 (.slice (some ⟨w4.heap.size, 0, none⟩) 1 1)).run Try.prog (w4.alloc (.cells #[.int .u8 (i : Int)] 5)) = .ok (.string ⟨#[UInt8.ofNat i]⟩) (w4.alloc (.cells #[.int .u8 (i : Int)] 5)) :=
            toStr (Rd.of_block (l := [UInt8.ofNat i]) (heap_alloc_new w4 _) (by show [Value.int .u8 (i : Int)] = [B (UInt8.ofNat i)]; unfold B; rw [HK.out]) (by simp))
          have HT5 := Lib.hid (ht4.below hb5)
          clear ho4 hb4 ht4 hb5 HC HT3
          go_wp2_with fail
          go_roundw
          case rel => exact ⟨i + 1, x, [UInt8.ofNat i], by omega, rfl, by go_num, Lib.hid (by simp), HT5⟩
          case measure => simp [intOf]; omega
        · obtain ⟨cc, hcc, e1⟩ := HPUT.out.2 hgt
          rw [e1] at ht3 ⊢
          have j1 : ¬ (top : Int) < (x : Int) := by omega
          have j3 : (cc == 0) = false := beq_eq_false_iff_ne.2 hcc
          have j4 : ¬ cc = 0 := hcc
          have HT3 : Hid (TB w b (stR N top r) w3) := Lib.hid ht3
          by_cases h0 : top = 0
          · have j2 : ((top : Int) == 0) = true := by simp [h0]
            have j5 : (top : Int) = 0 := by omega
            clear ht3 e1 HPUT HAS hgt hcc
            go_wp2_with fail
            go_roundw
            case rel => exact ⟨i + 1, top, r, by omega, by rw [h0]; rfl, by go_num, HRL, HT3⟩
            case measure => simp [intOf]; omega
          · have j2 : ((top : Int) == 0) = false := beq_eq_false_iff_ne.2 (by omega)
            have HC := Lib.hid (HAS.out r top w3 HRL.out h0 ht3)
            clear ht3 e1 HPUT HAS hgt hcc
            go_wp2_with fail
            refine HC.out.mono ?_
            rintro e w4 ⟨⟨v4, rfl, ho4, hb4⟩, ht4⟩
            obtain ⟨o4, c4, rfl⟩ := own_slice ho4
            have HT4 := Lib.hid ht4
            clear ho4 hb4 ht4 HC HT3
            go_wp2_with fail
            go_roundw
            case rel => exact ⟨i + 1, top, r, by omega, rfl, by go_num, HRL, HT4⟩
            case measure => simp [intOf]; omega
      · have i1 : ¬ (i : Int) < (l.length : Int) := by omega
        clear HH
        go_wp2_with fail
        go_ret
        exact ⟨rfl, HTB.out.bel⟩
  · have hout : N = 0 ∨ (¬ N = 0 ∧ 50 < l.length) := by omega
    rcases hout with hz | ⟨hz, hz2⟩
    · have i0 : ((N : Int) == 0) = true := by simp [hz]
      clear hz hlen
      go_enter Try.func5, Try.ntmps5
      go_wp2_with fail
      refine (HA.out _).mono ?_
      rintro e w1 ⟨rfl, hb1⟩
      have HB1 := Lib.hid hb1
      clear hb1
      go_wp2_with fail
      refine (HA.out _).mono ?_
      rintro e w2 ⟨rfl, hb2⟩
      have HB2 := Lib.hid (HB1.out.trans (hb2.mono HB1.out.size))
      clear hb2
      go_wp2_with fail
      go_ret
      exact ⟨rfl, HB2.out⟩
    · have i0 : ((N : Int) == 0) = false := beq_eq_false_iff_ne.2 (by omega)
      have i1 : (50 : Int) < (l.length : Int) := by omega
      clear hz hz2 hlen
      go_enter Try.func5, Try.ntmps5
      go_wp2_with fail
      refine (HA.out _).mono ?_
      rintro e w1 ⟨rfl, hb1⟩
      have HB1 := Lib.hid hb1
      clear hb1
      go_wp2_with fail
      refine (HA.out _).mono ?_
      rintro e w2 ⟨rfl, hb2⟩
      have HB2 := Lib.hid (HB1.out.trans (hb2.mono HB1.out.size))
      clear hb2
      go_wp2_with fail
      go_ret
      exact ⟨rfl, HB2.out⟩
end Go.Proofs.Ytlfnblgpekilnaa
