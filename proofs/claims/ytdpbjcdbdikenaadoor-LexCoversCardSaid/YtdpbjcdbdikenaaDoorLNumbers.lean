/- The law of numbers. -/
import Derived.Test.YtdpbjcdbdikenaaDoorLNames
namespace Go.Proofs.YtdpbjcdbdikenaaDoor
open Go.RowKit LexM

/-- A digit made of a byte. -/
def dg (b : UInt8) : UInt8 := UInt8.ofNat (48 + b.toNat % 10)
theorem dg_nat (b : UInt8) : (dg b).toNat = 48 + b.toNat % 10 := by
  unfold dg
  rw [UInt8.toNat_ofNat_of_lt' (by have := Nat.mod_lt b.toNat (show 0 < 10 by decide); simpa using (show 48 + b.toNat % 10 < 256 by omega))]
theorem dg_dg (b : UInt8) : isDg (dg b) = true := by
  unfold isDg
  rw [dg_nat]
  have := Nat.mod_lt b.toNat (show 0 < 10 by decide)
  simp
  omega

theorem dg_not {b : UInt8} (h : isDg b = true) : (isLo b || isUp b || b == 39) = false ∧ isSp b = false ∧ b ≠ 40 := by
  unfold isDg at h
  simp only [Bool.and_eq_true, decide_eq_true_eq] at h
  have e39 := eqN b 39 (by decide)
  have e40 := eqN b 40 (by decide)
  refine ⟨?_, ?_, fun e => by have := e40.1 e; omega⟩
  · unfold isLo isUp
    rw [Bool.or_eq_false_iff, Bool.or_eq_false_iff, Bool.and_eq_false_iff, Bool.and_eq_false_iff]
    simp only [decide_eq_false_iff_not, beq_eq_false_iff_ne]
    exact ⟨⟨by omega, by omega⟩, fun e => by have := e39.1 e; omega⟩
  · rw [isSp_int, decide_eq_false_iff_not]
    omega

/-- One number alone, or with something behind it. -/
theorem one_num (c : UInt8) (t : List UInt8) (h : isDg c = true) : sk (c :: t) = (0, true) ∧ one (c :: t) = num1 (c :: t) := by
  obtain ⟨h1, h2, h3⟩ := dg_not h
  have ho : opens (c :: t) = false := by
    rcases t with _ | ⟨d, t⟩
    · exact opens_one c
    · rw [opens_cons]; simp [h3]
  refine ⟨sk_no h2 ho, ?_⟩
  unfold one
  rw [List.headD_cons, if_neg (by rw [h1]; decide), if_pos h]

theorem toks_num (c : UInt8) (t : List UInt8) (h : ∀ b ∈ c :: t, isDg b = true) :
    toks 0 (c :: t) = if 4611686018427387904 ≤ val (c :: t) then (1, 0, []) else (0, 0, [⟨4, c :: t, 0⟩, ⟨0, [], t.length + 1⟩]) := by
  obtain ⟨hs, h1⟩ := one_num c t (h c List.mem_cons_self)
  have hr := run_all_eq isDg (c :: t) h
  have h2 : num1 (c :: t) = if 4611686018427387904 ≤ val (c :: t) then (1, 0, 0, []) else (0, t.length + 1, 4, c :: t) := by
    unfold num1
    rw [hr, List.drop_of_length_le (Nat.le_refl _), List.take_of_length_le (Nat.le_refl _), List.headD_nil, if_neg (by decide)]
    rfl
  by_cases hb : 4611686018427387904 ≤ val (c :: t)
  · rw [if_pos hb] at h2 ⊢
    rw [toks_err 0 (l := c :: t) (c := c) (r := t) (by rw [hs]) (by rw [hs]; rfl) (by rw [h1, h2]; decide), h1, h2, hs]; rfl
  · rw [if_neg hb] at h2 ⊢
    rw [toks_one 0 (l := c :: t) (c := c) (r := t) (by rw [hs]) (by rw [hs]; rfl) (by rw [h1, h2]), h1, h2, hs]
    simp only
    rw [List.drop_of_length_le (by simp), toks_nil]
    unfold pre
    rw [if_pos rfl]
    simp

theorem toks_num_bad (c : UInt8) (t : List UInt8) (x : UInt8) (h : ∀ b ∈ c :: t, isDg b = true) (hx : inNm x = true) (hd : isDg x = false) :
    toks 0 (c :: t ++ [x]) = (4, t.length + 1, []) := by
  obtain ⟨hs, h1⟩ := one_num c (t ++ [x]) (h c List.mem_cons_self)
  have hr := run_all_eq isDg (c :: t) h
  have hr2 : run isDg (c :: t ++ [x]) = t.length + 1 := by rw [run_append isDg x [] hd, hr]; rfl
  have h2 : num1 (c :: t ++ [x]) = (4, t.length + 1, 0, []) := by
    unfold num1
    rw [hr2, show (c :: t ++ [x]).drop (t.length + 1) = [x] by rw [List.drop_append_of_le_length (by simp), List.drop_of_length_le (by simp)]; rfl, List.headD_cons, if_pos hx]
  rw [List.cons_append] at h2 ⊢
  rw [toks_err 0 (l := c :: (t ++ [x])) (c := c) (r := t ++ [x]) (by rw [hs]) (by rw [hs]; rfl) (by rw [h1, h2]; simp), h1, h2, hs]
  simp

/-- A slice of one new byte, as a text. -/
theorem conv_one (W : World) (x : Int) (b : UInt8) (hx : x = (b.toNat : Int)) : (convert 30 9 (.slice (some ⟨W.heap.size, 0, none⟩) 1 1)).run Tryd.prog (W.alloc (.cells #[.int .u8 x] 5)) = .ok (.string ⟨#[b]⟩) (W.alloc (.cells #[.int .u8 x] 5)) := by
  subst hx
  exact toStr (Rd.of_block (l := [b]) (heap_alloc_new W (.cells #[.int .u8 (b.toNat : Int)] 5)) rfl (by simp))

theorem map_dg (l : List UInt8) (k : Nat) (h : k < l.length) : (l.take (k + 1)).map dg = (l.take k).map dg ++ [dg l[k]] := by
  rw [List.take_succ_eq_append_getElem h, List.map_append]
  rfl

theorem pu_none_iff (l : List UInt8) : pu 0 l = if 4611686018427387904 ≤ val l then none else some (val l) := pu_val l 0 (by omega)

set_option maxHeartbeats 8000000 in
set_option maxRecDepth 100000 in
theorem numbers_row (x : UInt8) (b off c : Nat) (l : List UInt8) (w : World) (hL : Laid w) (hl : l.length ≤ 40) (h0 : 0 < l.length) (_ : l.length ≤ c) (_ : c ≤ maxLen) (hc : ∀ j u, l[j]? = some u → w.cell? ⟨b, off + j, none⟩ = some (.int .u8 (u.toNat : Int))) :
    Calls Tryd.prog 8 #[.slice (some ⟨b, off, none⟩) l.length c, .int .u8 (x.toNat : Int)] w fun e w' => e = .returned (.bool true) ∧ Below w.heap.size w w' := by
  have HL := Lib.hid hL
  have HC := Lib.hid hc
  have tn0 : ((l.length : Int) == 0) = false := by rw [beq_eq_false_iff_ne]; omega
  have x0 : (0 : Int) ≤ (x.toNat : Int) ∧ (x.toNat : Int) ≤ 255 := b256 _
  clear hL hc
  go_enter Tryd.func8, Tryd.ntmps8
  go_wp2_with fail
  refine (awake _ HL.out).mono ?_
  rintro e w1 ⟨rfl, hb1⟩
  have HB1 := Lib.hid hb1
  clear hb1
  go_wp2_with fail
  go_loopw [5, 6] (fun y i wr => ∃ (k : Nat) (s : ByteArray), k ≤ l.length ∧ i = .int .i64 (k : Int) ∧ y = .string s ∧ s.size = k ∧ Hid (bs s = (l.take k).map dg) ∧ Below w.heap.size w wr) (fun _ i _ => l.length - (intOf i).toNat)
  case atStart => exact ⟨0, ⟨#[]⟩, by omega, rfl, rfl, rfl, rfl, HB1.out⟩
  case round =>
    obtain ⟨k, s, hk, rfl, rfl, hsk, HR, hbw⟩ := hrel
    have HBw := Lib.hid hbw
    by_cases hlt : k < l.length
    · have c0 := HC.out k l[k] (by simp [hlt])
      have c1 := (hbw.cell (World.block_lt_of_cell? w _ c0)).trans c0
      have m0 : (0 : Int) ≤ (l[k].toNat : Int) ∧ (l[k].toNat : Int) ≤ 255 := b256 _
      have hs60 : s.size ≤ 60 := by omega
      have hcv := conv_one wr (48 + (l[k].toNat : Int) % 10) (dg l[k]) (by rw [dg_nat]; omega)
      have HS := Lib.hid hsk
      have HM := Lib.hid (map_dg l k hlt)
      have hz1 : (⟨#[dg l[k]]⟩ : ByteArray).size = 1 := rfl
      have hsz := hbw.size
      clear hsk c0 hbw
      generalize dg l[k] = d at *
      generalize l[k] = m at *
      go_wp2
      go_roundw
      case rel => exact ⟨k + 1, s ++ ⟨#[d]⟩, by omega, by go_num, rfl, by rw [size_append, hz1, HS.out], by show _ = _; rw [bs_append, HR.out, HM.out], HBw.out.alloc hsz _⟩
      case measure => simp [intOf]; omega
    · obtain rfl : k = l.length := by omega
      have hR := HR.out
      rw [List.take_length] at hR
      have h0s : 0 < s.size := by omega
      have hcs := drop_cons s 0 h0s
      rw [List.drop_zero] at hcs
      have hall : ∀ y ∈ bs s, isDg y = true := by
        intro y hy
        rw [hR] at hy
        obtain ⟨z, _, rfl⟩ := List.mem_map.1 hy
        exact dg_dg z
      have hs60 : s.size ≤ 40 := by omega
      have hlen : ((bs s).drop 1).length + 1 = s.size := by rw [List.length_drop, bs_length]; omega
      have HT := toks_num s[0] ((bs s).drop 1) (by rw [← hcs]; exact hall)
      rw [← hcs, hlen] at HT
      have HTb := fun hx hd => toks_num_bad s[0] ((bs s).drop 1) x (by rw [← hcs]; exact hall) hx hd
      rw [hlen, ← hcs] at HTb
      have HTb := Lib.hid HTb
      have HN := Lib.hid (fun W => Number_any s W (by omega) hall)
      have hpn := pu_none_iff (bs s)
      clear hR HR hsk hlt hk hcs hall hlen hbw
      by_cases hbig : 4611686018427387904 ≤ val (bs s)
      · rw [if_pos hbig] at HT hpn
        rw [hpn] at HN
        unfold nmVal at HN
        have hk0 := tokens_short s wr (HL.out.below HBw.out HL.out.size) (by omega)
        rw [HT] at hk0
        have HK := Lib.hid hk0
        clear hk0 HT hpn hbig HTb
        go_wp2_with (first
          | (go_at_call 10; refine HK.out.mono ?_; rintro e w2 ⟨v2, rfl, ho2, hb2⟩; have HB2 := Lib.hid (HBw.out.trans (hb2.mono HBw.out.size)); clear hb2 ho2)
          | (go_at_call 14; refine (HN.out _).mono ?_; rintro e w3 ⟨rfl, rfl⟩))
        all_goals (go_ret; exact ⟨rfl, HB2.out⟩)
      · rw [if_neg hbig] at HT hpn
        rw [hpn] at HN
        unfold nmVal at HN
        have hk0 := tokens_short s wr (HL.out.below HBw.out HL.out.size) (by omega)
        rw [HT] at hk0
        have HK := Lib.hid hk0
        generalize val (bs s) = nv at *
        clear hk0 HT hpn hbig
        go_wp2_with fail
        refine HK.out.mono ?_
        rintro e w2 ⟨v2, rfl, ho2, hb2⟩
        obtain ⟨b2, off2, c2, rfl, hn2, hm2, k0, k1⟩ := two_tok ho2
        have HB2 := Lib.hid (HBw.out.trans (hb2.mono HBw.out.size))
        have hlt2 := World.block_lt_of_cell? w2 _ k0
        clear hb2 ho2
        go_wp2_with fail
        refine (HN.out _).mono ?_
        rintro e w3 ⟨rfl, rfl⟩
        have hcv := conv_one w2 (x.toNat : Int) x rfl
        have hz1 : (⟨#[x]⟩ : ByteArray).size = 1 := rfl
        have hk2 := tokens_short (s ++ ⟨#[x]⟩) (w2.alloc (.cells #[.int .u8 (x.toNat : Int)] 5)) ((HL.out.below HB2.out HL.out.size).below ((Below.refl _ _).alloc (Nat.le_refl _) _) (by have := HL.out.size; have := HB2.out.size; omega)) (by rw [size_append, hz1]; omega)
        rw [bs_append] at hk2
        have HB2' := Lib.hid (HB2.out.alloc HB2.out.size (.cells #[.int .u8 (x.toNat : Int)] 5))
        have CLS : (97 ≤ (x.toNat : Int) ∧ (x.toNat : Int) ≤ 122) ∨ (65 ≤ (x.toNat : Int) ∧ (x.toNat : Int) ≤ 90) ∨ (x.toNat : Int) = 95 ∨ (x.toNat : Int) = 39 ∨ ((x.toNat : Int) ≤ 64 ∨ 91 ≤ (x.toNat : Int) ∧ (x.toNat : Int) ≤ 96 ∨ 123 ≤ (x.toNat : Int)) ∧ ¬ (x.toNat : Int) = 95 ∧ ¬ (x.toNat : Int) = 39 := by omega
        have hin : ((97 ≤ (x.toNat : Int) ∧ (x.toNat : Int) ≤ 122) ∨ (65 ≤ (x.toNat : Int) ∧ (x.toNat : Int) ≤ 90) ∨ (x.toNat : Int) = 95 ∨ (x.toNat : Int) = 39) → inNm x = true ∧ isDg x = false := by
          intro h
          constructor
          · rw [inNm_int]
            unfold isLo isUp isDg
            simp
            omega
          · unfold isDg
            rw [Bool.and_eq_false_iff]
            simp only [decide_eq_false_iff_not]
            omega
        have HIN := Lib.hid hin
        clear hin
        rcases CLS with ⟨g1, g2⟩ | ⟨g1, g2⟩ | g | g | ⟨g, n95, n39⟩
        · have hh := HIN.out (.inl ⟨g1, g2⟩)
          have hT2 := HTb.out hh.1 hh.2
          rw [show bs s ++ bs ⟨#[x]⟩ = bs s ++ [x] from rfl, hT2] at hk2
          have HK2 := Lib.hid hk2
          skip
          clear hk2 hT2 hh HIN HTb
          go_wp2_with (go_at_call 10; refine HK2.out.mono ?_; rintro e w4 ⟨v4, rfl, ho4, hb4⟩; have HB4 := Lib.hid (HB2'.out.trans (hb4.mono HB2'.out.size)); clear hb4 ho4)
          all_goals (go_ret; exact ⟨rfl, HB4.out⟩)
        · have hh := HIN.out (.inr (.inl ⟨g1, g2⟩))
          have hT2 := HTb.out hh.1 hh.2
          rw [show bs s ++ bs ⟨#[x]⟩ = bs s ++ [x] from rfl, hT2] at hk2
          have HK2 := Lib.hid hk2
          skip
          clear hk2 hT2 hh HIN HTb
          go_wp2_with (go_at_call 10; refine HK2.out.mono ?_; rintro e w4 ⟨v4, rfl, ho4, hb4⟩; have HB4 := Lib.hid (HB2'.out.trans (hb4.mono HB2'.out.size)); clear hb4 ho4)
          all_goals (go_ret; exact ⟨rfl, HB4.out⟩)
        · have hh := HIN.out (.inr (.inr (.inl g)))
          have hT2 := HTb.out hh.1 hh.2
          rw [show bs s ++ bs ⟨#[x]⟩ = bs s ++ [x] from rfl, hT2] at hk2
          have HK2 := Lib.hid hk2
          have q1 : ((x.toNat : Int) == 95) = true := by rw [beq_iff_eq]; exact g
          have q3 : 91 ≤ (x.toNat : Int) := by omega
          have q4 : (x.toNat : Int) ≤ 96 := by omega
          clear hk2 hT2 hh HIN HTb g
          go_wp2_with (go_at_call 10; refine HK2.out.mono ?_; rintro e w4 ⟨v4, rfl, ho4, hb4⟩; have HB4 := Lib.hid (HB2'.out.trans (hb4.mono HB2'.out.size)); clear hb4 ho4)
          all_goals (go_ret; exact ⟨rfl, HB4.out⟩)
        · have hh := HIN.out (.inr (.inr (.inr g)))
          have hT2 := HTb.out hh.1 hh.2
          rw [show bs s ++ bs ⟨#[x]⟩ = bs s ++ [x] from rfl, hT2] at hk2
          have HK2 := Lib.hid hk2
          have q1 : ((x.toNat : Int) == 95) = false := by rw [beq_eq_false_iff_ne]; omega
          have q2 : ((x.toNat : Int) == 39) = true := by rw [beq_iff_eq]; exact g
          have q3 : (x.toNat : Int) ≤ 64 := by omega
          clear hk2 hT2 hh HIN HTb g
          go_wp2_with (go_at_call 10; refine HK2.out.mono ?_; rintro e w4 ⟨v4, rfl, ho4, hb4⟩; have HB4 := Lib.hid (HB2'.out.trans (hb4.mono HB2'.out.size)); clear hb4 ho4)
          all_goals (go_ret; exact ⟨rfl, HB4.out⟩)
        · generalize toks 0 (bs s ++ bs ⟨#[x]⟩) = r2 at *
          obtain ⟨e2, p2, t2⟩ := r2
          have HK2 := Lib.hid hk2
          have k0' := fun o => (((Below.refl _ w2).alloc (Nat.le_refl _) o).cell hlt2).trans k0
          have k1' := fun o => (((Below.refl _ w2).alloc (Nat.le_refl _) o).cell (p := ⟨b2, off2 + 1, none⟩) hlt2).trans k1
          have q1 : ((x.toNat : Int) == 95) = false := by rw [beq_eq_false_iff_ne]; exact n95
          have q2 : ((x.toNat : Int) == 39) = false := by rw [beq_eq_false_iff_ne]; exact n39
          clear hk2 HIN HTb n95 n39
          rcases g with g | ⟨g, g'⟩ | g
          all_goals
            go_wp2_with (go_at_call 10; refine HK2.out.mono ?_; rintro e w4 ⟨v4, rfl, ho4, hb4⟩; have HB4 := Lib.hid (HB2'.out.trans (hb4.mono HB2'.out.size)); have k2 := (hb4.cell (by simp at hlt2 ⊢; omega)).trans (k0' _); have k3 := (hb4.cell (by simp at hlt2 ⊢; omega)).trans (k1' _); clear hb4 ho4)
            all_goals (go_ret; exact ⟨rfl, HB4.out⟩)

theorem numbers_out (x : UInt8) (o : Option Addr) (n c : Nat) (w : World) (hL : Laid w) (hn : n = 0 ∨ 40 < n) :
    Calls Tryd.prog 8 #[.slice o n c, .int .u8 (x.toNat : Int)] w fun e w' => e = .returned (.bool true) ∧ Below w.heap.size w w' := by
  have HL := Lib.hid hL
  clear hL
  have T0 : n = 0 ∨ ((n : Int) == 0) = false ∧ 40 < n := by
    rcases hn with h | h
    · exact .inl h
    · exact .inr ⟨by rw [beq_eq_false_iff_ne]; omega, h⟩
  clear hn
  rcases T0 with rfl | ⟨t0, h⟩
  all_goals
    go_enter Tryd.func8, Tryd.ntmps8
    go_wp2_with fail
    refine (awake _ HL.out).mono ?_
    rintro e w1 ⟨rfl, hb1⟩
    have HB1 := Lib.hid hb1
    clear hb1
    go_wp2_with fail
    refine (awake _ (HL.out.below HB1.out HL.out.size)).mono ?_
    rintro e w2 ⟨rfl, hb2⟩
    have HB2 := Lib.hid (HB1.out.trans (hb2.mono HB1.out.size))
    clear hb2
    go_wp2_with fail
    all_goals (go_ret; exact ⟨rfl, HB2.out⟩)

theorem numbers_walk (v : Value) (l : List UInt8) (a : Int) (w : World) (hL : Laid w) (hv : Rd w v l) (_ : l.length ≤ 140737488351232) (ha : 0 ≤ a) (ha' : a ≤ 255) :
    Calls Tryd.prog 8 #[v, .int .u8 a] w fun e w' => e = .returned (.bool true) ∧ Below w.heap.size w w' := by
  obtain ⟨x, rfl⟩ : ∃ x : UInt8, a = (x.toNat : Int) := ⟨UInt8.ofNat a.toNat, by rw [UInt8.toNat_ofNat_of_lt' (by simp; omega)]; omega⟩
  by_cases h : 0 < l.length ∧ l.length ≤ 40
  · rcases hv.row with ⟨rfl, _⟩ | ⟨b, off, c, rfl, h1, h2, h3, h4⟩
    · simp at h
    · exact numbers_row x b off c l w hL h.2 h1 h2 h3 h4
  · obtain ⟨o, c, rfl⟩ := hv.form
    exact numbers_out x o _ c w hL (by omega)
end Go.Proofs.YtdpbjcdbdikenaaDoor
