/- The law of a log that keeps what it was given: WalKeeps. -/
import Derived.Test.YtdckcjcddibglaaGWv
import Derived.Deep.RegionHeld3
import Derived.OrdersHeld
import Derived.BigRegion
namespace Go.Proofs.Ytdckcjcddibglaa
open Go.RowKit OctM

/-- The i-th entry. -/
def kE (l : List UInt8) (i : Nat) : En := ⟨1, i, 0, l⟩
def kL (l : List UInt8) (n : Nat) : List En := (List.range n).map (kE l)
theorem kL_succ (l : List UInt8) (n : Nat) : kL l (n + 1) = kL l n ++ [kE l n] := by simp [kL, List.range_succ]
theorem kL_length (l : List UInt8) (n : Nat) : (kL l n).length = n := by simp [kL]
theorem kL_ok (l : List UInt8) (hl : l.length ≤ 500) (n : Nat) (hn : n ≤ 5) : ∀ x ∈ kL l n, x.Ok := by
  intro x hx
  obtain ⟨i, hi, rfl⟩ := List.mem_map.1 hx
  have := List.mem_range.1 hi
  exact ⟨by show 1 < _; omega, by show i < _; omega, by show 0 < _; omega, by show l.length ≤ 4000; omega⟩

/-- What the law has laid: a row with bytes of its own, and one of which the bytes are the argument's, in a box. -/
structure KI (w2 wr : World) (nb : Nat) (cv : Value) (l : List UInt8) (j : Nat) (L LW : Value) : Prop where
  bel : Below nb w2 wr
  box : wr.heap[nb]? = some (.cells #[.int .u64 7, .int .i64 2, .int .u64 0, LW] 31 (0, 0))
  rows : ∃ ps ws, ps.map Prod.fst = kL l j ∧ ws.map Prod.fst = kL l j ∧ (∀ q ∈ ws, q.2 = cv) ∧ OwnL wr (nb + 1) L ps ∧ OwnR wr (nb + 1) LW ws ∧ ∀ g, L.ownBlock = some g → LW.ownBlock ≠ some g

set_option maxHeartbeats 8000000 in
set_option maxRecDepth 100000 in
theorem wkeeps_walk (N : Int) (v : Value) (l : List UInt8) (w : World) (hN0 : 0 ≤ N) (hN1 : N ≤ 255) (h : Rd w v l) (hl : l.length ≤ 140737488351232) :
    Calls Try.prog 3 #[v, .int .u8 N] w fun e w' => e = .returned (.bool true) ∧ Below w.heap.size w w' := by
  obtain ⟨o, c, hv⟩ : ∃ o c, v = .slice o l.length c := by rcases h with ⟨rfl, rfl⟩ | ⟨_, c, rfl, _⟩ <;> exact ⟨_, _, rfl⟩
  subst hv
  have HR := Lib.hid h
  clear h
  go_enter Try.func3, Try.ntmps3
  go_wp2_with fail
  refine (wawake _).mono ?_
  rintro e w1 ⟨rfl, hb1⟩
  have HB1 := Lib.hid hb1
  clear hb1
  by_cases h0 : l.length = 0
  · have hlI : ((l.length : Int) == 0) = true := by rw [h0]; rfl
    clear h0
    go_wp2_with fail
    refine (wawake _).mono ?_
    rintro e w2 ⟨rfl, hb2⟩
    have HB2 := Lib.hid (HB1.out.trans (hb2.mono HB1.out.size))
    clear hb2
    go_wp2_with fail
    go_ret
    exact ⟨rfl, HB2.out⟩
  have hlI : ((l.length : Int) == 0) = false := by rw [beq_eq_false_iff_ne]; omega
  by_cases hlong : 500 < l.length
  · have hlD : decide ((500 : Int) < (l.length : Int)) = true := by rw [decide_eq_true_eq]; omega
    clear hlong h0
    go_wp2_with fail
    refine (wawake _).mono ?_
    rintro e w2 ⟨rfl, hb2⟩
    have HB2 := Lib.hid (HB1.out.trans (hb2.mono HB1.out.size))
    clear hb2
    go_wp2_with fail
    go_ret
    exact ⟨rfl, HB2.out⟩
  have hlD : decide ((500 : Int) < (l.length : Int)) = false := by rw [decide_eq_false_iff_not]; omega
  have HL0 : Hid (0 < l.length) := by show 0 < l.length; omega
  have HL5 : Hid (l.length ≤ 500) := by show l.length ≤ 500; omega
  clear h0 hlong
  have H2 := Lib.hid (lopen_any 20000 w1 (by omega) (by omega))
  rw [show ((20000 : Nat) : Int) = 20000 from rfl] at H2
  go_wp2_with fail
  refine H2.out.mono ?_
  rintro e w2 ⟨D, T, X0, rfl, hat, hb2, hT⟩
  have HAT := Lib.hid hat
  have hs1 := HB1.out.size
  have hs2 := hb2.size
  have HB2 := Lib.hid (HB1.out.trans (hb2.mono hs1))
  clear hat hb2 H2 HB1
  go_upto_region 11 with fail
  obtain ⟨W3, hW3⟩ : ∃ W3, w2.alloc (.cells #[.int .u64 7, .int .i64 2, .int .u64 0, .slice none 0 0] 31) = W3 := ⟨_, rfl⟩
  have hbox := heap_alloc_new w2 (.cells #[.int .u64 7, .int .i64 2, .int .u64 0, .slice none 0 0] 31)
  have hb3 : Below w2.heap.size w2 (w2.alloc (.cells #[.int .u64 7, .int .i64 2, .int .u64 0, .slice none 0 0] 31)) := (Below.refl _ _).alloc (Nat.le_refl _) _
  rw [hW3] at hbox hb3
  rw [hW3]
  have hki : KI w2 W3 w2.heap.size (.slice o l.length c) l 0 (.slice none 0 0) (.slice none 0 0) := ⟨hb3, hbox, [], [], rfl, rfl, fun q hq => (List.not_mem_nil hq).elim, ownL_nil _ _, World.ownsRow_nil _ _ _ _, fun g hg => by cases hg⟩
  have HKI := Lib.hid hki
  obtain ⟨K, hK⟩ : ∃ K : Nat, 1 + N % 5 = (K : Int) := ⟨(1 + N % 5).toNat, by omega⟩
  have hK5 : K ≤ 5 := by omega
  have hK1 : 1 ≤ K := by omega
  rw [hK]
  clear hb3 hbox hW3 hki hK
  obtain ⟨nb, hnb⟩ : ∃ nb, w2.heap.size = nb := ⟨_, rfl⟩
  have HNB := Lib.hid hnb
  rw [hnb] at HKI HAT hs2
  rw [hnb]
  clear hnb
  go_wp2_with fail
  go_loopw [7, 10] (fun L i wr => ∃ (j : Nat) (LL LW : Value), LL = L ∧ j ≤ K ∧ i = .int .i64 (j : Int) ∧ Hid (KI w2 wr nb (.slice o l.length c) l j L LW)) (fun _ i _ => K + 1 - (intOf i).toNat)
  case atStart => exact ⟨0, _, _, rfl, by omega, rfl, HKI⟩
  case round =>
    obtain ⟨j, LL, LW, hLL, hj, rfl, HJ⟩ := hrel
    subst hLL
    by_cases hlt : j < K
    · have i1 : (j : Int) < (K : Int) := by omega
      have hbel := HJ.out.bel
      have hbox := HJ.out.box
      obtain ⟨ps, ws, hps, hws, hcv, hol, how, hap⟩ := HJ.out.rows
      have hpl : ps.length = j := by have := congrArg List.length hps; rw [List.length_map, kL_length] at this; exact this
      have hwl : ws.length = j := by have := congrArg List.length hws; rw [List.length_map, kL_length] at this; exact this
      have hnbl := lt_of_block hbox
      have hrd : Rd wr (.slice o l.length c) l := HR.out.below (HB2.out.trans (hbel.mono (by rw [← HNB.out]; exact HB2.out.size)))
      obtain ⟨o', cap', w5, hr1, ho1, hg1, -, -⟩ := append_two (World.ownsRow_nil wr wr.heap.size 5 1) (l := []) hrd (by simp; have := HL5.out; omega) (Nat.le_refl _) 22
      simp only [List.length_nil, Nat.zero_add, List.nil_append] at hr1 ho1
      have hb5 : Below wr.heap.size wr w5 := (Below.refl _ wr).grown hg1 (Nat.le_refl _) (by intro k hk; cases hk)
      have hs5 := hb5.size
      obtain ⟨oL, cL, w6, hr2, hol6, hk6, hor6⟩ := more_en2 (kE l j, .slice o' l.length cap') (hol.below hb5 (Nat.le_refl _)) (own_base ho1 (by omega : nb + 1 ≤ wr.heap.size)) (fun g hg hv => by
        have h5 := (ho1.lt g hg).1
        have h6 := (hol.row.lt g hv).2
        omega) (by omega) (by omega)
      rw [hpl] at hr2 hol6 hor6
      have how6 : OwnR w6 (nb + 1) LW ws := own_kept (own_kept how (kept_of_below (S := fun _ => False) hb5) (fun _ _ h => h)) hk6 (fun g hg hv => hap g hv hg)
      have hbox6 : w6.heap[nb]? = _ := (hk6.block nb (by omega) (fun hv => by have := (hol.row.lt nb hv).1; omega)).trans ((hb5.block nb hnbl).trans hbox)
      have hs6 := hk6.size
      obtain ⟨oW, cW, w7, hr3, how7, hk7, hor7⟩ := row_more (kE l j, .slice o l.length c) how6 rfl (by omega) (by omega)
      rw [hwl] at hr3 how7 hor7
      have hltW : ∀ g, LW.ownBlock = some g → g < wr.heap.size := fun g hg => (how.lt g hg).2
      have hap6 : ∀ g, (Value.slice oL (j + 1) cL).ownBlock = some g → LW.ownBlock ≠ some g := fun g hg hw => by
        rcases hor6 with h4 | ⟨g', h4, h5⟩
        · rw [h4] at hg
          exact hap g hg hw
        · rw [h4] at hg
          injection hg with hg
          have := hltW g hw
          omega
      have hol7 : OwnL w7 (nb + 1) (.slice oL (j + 1) cL) (ps ++ [(kE l j, .slice o' l.length cap')]) := hol6.kept hk7 (fun g hg hw => hap6 g hg hw) (fun p hp g hg hw => own_ne2 (hol6.cells p hp) how6 (by decide) g hg hw)
      have hbox7 : w7.heap[nb]? = _ := (hk7.block nb (by omega) (fun hv => by have := (how6.lt nb hv).1; omega)).trans hbox6
      have hap7 : ∀ g, (Value.slice oL (j + 1) cL).ownBlock = some g → (Value.slice oW (j + 1) cW).ownBlock ≠ some g := fun g hg hw => by
        rcases hor7 with h4 | ⟨g', h4, h5⟩
        · rw [h4] at hw
          exact hap6 g hg hw
        · rw [h4] at hw
          injection hw with hw
          have := (hol6.row.lt g hg).2
          omega
      have hs7 := hk7.size
      have hbel7 : Below nb w2 w7 := ((hbel.trans (hb5.mono (by omega))).trans (hk6.below (by omega) (fun k hk => by have := (hol.row.lt k hk).1; omega))).trans (hk7.below (by omega) (fun k hk => by have := (how6.lt k hk).1; omega))
      have hnx : KI w2 (w7.setCell ⟨nb, 3, none⟩ (.slice oW (j + 1) cW)) nb (.slice o l.length c) l (j + 1) (.slice oL (j + 1) cL) (.slice oW (j + 1) cW) := by
        refine ⟨hbel7.setCell (p := ⟨nb, 3, none⟩) (Nat.le_refl _) _, ?_, ps ++ [(kE l j, .slice o' l.length cap')], ws ++ [(kE l j, .slice o l.length c)], ?_, ?_, ?_, hol7.beside (by omega) 3 _, ?_, hap7⟩
        · simp [World.setCell, Array.getElem?_modify, hbox7]
        · rw [List.map_append, hps, kL_succ]; rfl
        · rw [List.map_append, hws, kL_succ]; rfl
        · intro q hq
          rcases List.mem_append.1 hq with hq | hq
          · exact hcv q hq
          · obtain rfl := List.mem_singleton.1 hq
            rfl
        · exact ownsRow_setCell_other (a := ⟨nb, 3, none⟩) how7 (fun e => by have := (how7.lt nb e).1; omega) _
      have HNX := Lib.hid hnx
      have b3 : w6.cell? ⟨nb, 3, none⟩ = some LW := cellk hbox6 rfl
      have c3 : w7.cell? ⟨nb, 3, none⟩ = some LW := cellk hbox7 rfl
      have cf : w7.frozen? ⟨nb, 3, none⟩ = false := by simp [World.frozen?, hbox7]
      have wj : IntKind.u64.wrap (j : Int) = (j : Int) := by rw [IntKind.wrap_u64]; omega
      have wi : IntKind.i64.wrap ((j : Int) + 1) = (j : Int) + 1 := IntWalk.i64_in _ (by omega)
      have hn6 : nb < w6.heap.size := by omega
      have hn7 : nb < w7.heap.size := by omega
      clear hol6 how6 hol7 hnx hap7 hap6 hbel7 hor7 hor6 hk7 hk6 how hol hps hws hcv hap hrd ho1 hg1 how7 hbox hbox6 hbox7 hltW hbel
      go_upto_region 15 with (at_builtin; first | refine wpList_append_known rfl _ _ _ _ rfl _ _ _ rfl rfl hr1 ?_ | refine wpList_append_known rfl _ _ _ _ rfl _ _ _ rfl rfl hr2 ?_)
      go_wp2_with (at_builtin; refine wpList_append_known rfl _ _ _ _ rfl _ _ _ rfl rfl hr3 ?_)
      go_roundw
      case rel => exact ⟨j + 1, _, .slice oW (j + 1) cW, rfl, by omega, by go_num, HNX⟩
      case measure => simp [intOf]; omega
    · skip
      obtain rfl : j = K := by omega
      have hbel := HJ.out.bel
      have hbox := HJ.out.box
      obtain ⟨ps, ws, hps, hws, hcv, hol, how, hap⟩ := HJ.out.rows
      have hnbl := lt_of_block hbox
      have hpl : ps.length = j := by have := congrArg List.length hps; rw [List.length_map, kL_length] at this; exact this
      have hhead : ∃ rest, kL l j = kE l 0 :: rest := by
        obtain ⟨m, rfl⟩ : ∃ m, j = m + 1 := ⟨j - 1, by omega⟩
        exact ⟨(List.range m).map (fun i => kE l (i + 1)), by simp [kL, List.range_succ_eq_map, Function.comp_def]⟩
      obtain ⟨rest, hrest⟩ := hhead
      have hatr := HAT.out.block (w' := wr) (fun g hg => hbel.block g hg.2) (fun _ h => h) (fun k hk => Nat.lt_trans hk.2 hnbl)
      have hrdl := hol.rd
      rw [hps] at hrdl
      have hlen5 := wholeB_len 500 1 ⟨7, 2, 0, kL l j⟩ (fun x hx => by
        obtain ⟨i, _, rfl⟩ := List.mem_map.1 hx
        exact HL5.out)
      have hkl := kL_length l j
      have e1 : writeS (new 3 20000) ((2 : Nat) : Int) (wholeB 1 ⟨7, 2, 0, kL l j⟩) = (0, wrT (new 3 20000) 2 (wholeB 1 ⟨7, 2, 0, kL l j⟩)) := calm_write (calm_new 20000) 2 (by omega) _ (by
        show _ ≤ 20000
        have h6 : (kL l j).length * (500 + 40) ≤ 5 * (500 + 40) := Nat.mul_le_mul_right _ (by omega)
        have h7 : (wholeB 1 ⟨7, 2, 0, kL l j⟩).length ≤ 60 + (kL l j).length * (500 + 40) := hlen5
        omega)
      have e2 : syncS (wrT (new 3 20000) 2 (wholeB 1 ⟨7, 2, 0, kL l j⟩)) ((2 : Nat) : Int) = (0, syT (wrT (new 3 20000) 2 (wholeB 1 ⟨7, 2, 0, kL l j⟩)) 2) := calm_sync ((calm_new 20000).wr 2 _) 2 (by omega)
      have HSV := Lib.hid (save_any 7 2 1 (kL l j) LL wr (r := ⟨syT (wrT (new 3 20000) 2 (wholeB 1 ⟨7, 2, 0, kL l j⟩)) 2, 2, 1, 1, false, ⟨7, 2, 0, kL l j⟩⟩) hatr hrdl (kL_ok l HL5.out j hK5) (by omega) (by omega) (by omega) ⟨by omega, by omega⟩ 0 rfl (.inr ⟨rfl, rfl⟩) (by omega) (by show (kL l j).length ≤ 1000; omega) (by show 0 < 1000000; omega) (by show 0 ≤ 900000; omega) (by show 1 ≤ 900000; omega) (.inl ⟨rfl, e1, e2, rfl⟩))
      obtain ⟨gL, cL, hLv, -, -, -⟩ : ∃ g c, LL = .slice (some ⟨g, 0, none⟩) ps.length c ∧ True ∧ True ∧ True := by
        obtain ⟨g, c, _, _, _, h1, _⟩ := own_first hol (by rw [hps, hrest]) HL0.out
        exact ⟨g, c, h1, trivial, trivial, trivial⟩
      rw [hpl] at hLv
      have hLWB : ∀ g, LW.ownBlock = some g → nb + 1 ≤ g ∧ g < wr.heap.size := fun g hg => how.lt g hg
      have HOL := Lib.hid hol
      have HOW := Lib.hid how
      have HAP := Lib.hid hap
      have HWS := Lib.hid hws
      have HCV := Lib.hid hcv
      have HPS := Lib.hid hps
      have HBX := Lib.hid hbox
      have HBE := Lib.hid hbel
      have HRE := Lib.hid hrest
      clear hatr hrdl hlen5 e1 e2 hol how hap hws hcv hps hbox hbel hrest hkl
      have i1 : ¬ (j : Int) < (j : Int) := by omega
      have hj1 : (0 : Int) < (j : Int) := by omega
      have HLV := Lib.hid hLv
      subst hLv
      go_wp2_with fail
      refine HSV.out.mono ?_
      rintro e w3 ⟨rfl, hat3, hk3⟩
      have hs3 := hk3.size
      have hno3 : ∀ g, nb ≤ g → ¬ (w1.heap.size ≤ g ∧ g < nb) := fun g hg hh => by omega
      have hol3 : OwnL w3 (nb + 1) _ ps := HOL.out.kept hk3 (fun g hg => hno3 g (by have := (HOL.out.row.lt g hg).1; omega)) (fun p hp g hg => hno3 g (by have := ((HOL.out.cells p hp).lt g hg).1; omega))
      have how3 : OwnR w3 (nb + 1) LW ws := own_kept HOW.out hk3 (fun g hg => hno3 g (by have := (hLWB g hg).1; omega))
      have hbx3 := (hk3.block nb hnbl (hno3 nb (Nat.le_refl _))).trans HBX.out
      obtain ⟨gL', cL', gb, cb, bb, hLv', hg1, hg2, hg3, hg4, hgn, q3, qb, qf, q0, qf0, -, hgne⟩ := own_first HOL.out (by rw [HPS.out, HRE.out]) HL0.out
      have ek1 : w3.heap[gL']? = wr.heap[gL']? := hk3.block gL' hg2 (hno3 _ (by omega))
      have ek2 : w3.heap[gb]? = wr.heap[gb]? := hk3.block gb hg4 (hno3 _ (by omega))
      replace q3 := (World.cell?_of_block (a := ⟨gL', 3, none⟩) ek1).trans q3
      replace qb := (World.cell?_of_block (a := ⟨gb, 0, none⟩) ek2).trans qb
      replace qf := (World.frozen?_of_block (a := ⟨gb, 0, none⟩) ek2).trans qf
      replace q0 := (World.cell?_of_block (a := ⟨gL', 0, none⟩) ek1).trans q0
      replace qf0 := (World.frozen?_of_block (a := ⟨gL', 0, none⟩) ek1).trans qf0
      clear ek1 ek2
      obtain ⟨hga, hca⟩ : gL' = gL ∧ cL' = cL := by
        injection hLv' with a b c
        injection a with a
        injection a with a
        exact ⟨a.symm, c.symm⟩
      subst hga hca
      replace q3 : w3.cell? ⟨gL', 3, none⟩ = some (.slice (some ⟨gb, 0, none⟩) l.length cb) := q3
      replace q0 : w3.cell? ⟨gL', 0, none⟩ = some (.int .u64 1) := q0
      have HOL3 := Lib.hid hol3
      have HOW3 := Lib.hid how3
      have HBX3 := Lib.hid hbx3
      have HAT3 := Lib.hid hat3
      have HK3 := Lib.hid hk3
      have HQ0 := Lib.hid q0
      have HQF := Lib.hid qf0
      have hl1 : (0 : Int) < (l.length : Int) := by have := HL0.out; omega
      have hjN : 0 < j := by omega
      have hlN : 0 < l.length := HL0.out
      have hln : ¬ l.length = 0 := by have := HL0.out; omega
      clear hol3 how3 hbx3 hat3 hk3 hLv' HSV hno3 q0 qf0 hlD hlI
      go_upto_region 18 with fail
      go_region
      go_upto_region 19 with fail
      generalize bits BinOp.xor IntKind.u8 bb 1 = XV at *
      have g0 : (w3.setCell ⟨gb, 0, none⟩ (.int .u8 XV)).cell? ⟨gL', 0, none⟩ = some (.int .u64 1) := (World.cell?_setCell_far _ _ _ _ (show gb ≠ gL' from fun e => hgn e.symm)).trans HQ0.out
      have gf : (w3.setCell ⟨gb, 0, none⟩ (.int .u8 XV)).frozen? ⟨gL', 0, none⟩ = false := by rw [World.frozen?_setCell]; exact HQF.out
      have gl : gL' < (w3.setCell ⟨gb, 0, none⟩ (.int .u8 XV)).heap.size := by rw [World.size_setCell]; omega
      go_upto_region 20 with fail
      have hk4 : Kept (fun k => k = gb ∨ k = gL') w3 ((w3.setCell ⟨gb, 0, none⟩ (.int .u8 XV)).setCell ⟨gL', 0, none⟩ (.int .u64 9)).drew := (((Kept.refl (fun k => k = gb ∨ k = gL') w3).setCell (p := ⟨gb, 0, none⟩) (.inl (.inl rfl)) _).setCell (p := ⟨gL', 0, none⟩) (.inl (.inr rfl)) _).drew
      generalize ((w3.setCell ⟨gb, 0, none⟩ (.int .u8 XV)).setCell ⟨gL', 0, none⟩ (.int .u64 9)).drew = W4 at *
      clear g0 gf gl q3 qb qf
      have hs4 := hk4.size
      have hlt3 := HAT3.out.lt
      have hat4 := HAT3.out.block (w' := W4) (fun g hg => hk4.block g (hlt3 g hg) (by
        rintro (e | e)
        · rcases hg with hg | hg <;> omega
        · rcases hg with hg | hg <;> omega)) (fun _ h => h) (fun k hk => by have := hlt3 k hk; omega)
      have how4 : OwnR W4 (nb + 1) LW ws := own_kept HOW3.out hk4 (by
        rintro g hg (e | e)
        · exact hgne _ _ _ _ HOW.out (e ▸ hg)
        · exact HAP.out gL' rfl (e ▸ hg))
      have hbx4 := (hk4.block nb (by omega) (by omega)).trans HBX3.out
      have hB4 : Below w.heap.size w W4 := ((HB2.out.trans (HBE.out.mono (by omega))).trans (HK3.out.below (by omega) (fun k hk => by have := hk.1; omega))).trans (hk4.below (by omega) (fun k hk => by omega))
      have hcl : ∀ q ∈ ws, q.1.cl = l := fun q hq => by
        have h1 : q.1 ∈ kL l j := by rw [← HWS.out]; exact List.mem_map_of_mem hq
        obtain ⟨i, _, h2⟩ := List.mem_map.1 h1
        rw [← h2]
        rfl
      have hrw4 : RdL W4 LW (kL l j) := by
        rw [← HWS.out]
        exact ownR_rdl how4 (fun q hq => by rw [HCV.out q hq, hcl q hq]; exact HR.out.below hB4)
      have HST := Lib.hid (state_any W4 hat4)
      have HAT4 := Lib.hid hat4
      have HB4 := Lib.hid hB4
      have HBX4 := Lib.hid hbx4
      have HRW4 := Lib.hid hrw4
      have hnb4 := lt_of_block hbx4
      have hfar4 : Hid (∀ k, Fr (fun k => w1.heap.size ≤ k ∧ k < nb) wr w3 k → k < W4.heap.size) := Lib.hid (fun k hk => by have := hlt3 k hk; omega)
      generalize Fr (fun k => w1.heap.size ≤ k ∧ k < nb) wr w3 = RQ at *
      clear hk4 hlt3 hat4 how4 hbx4 hB4 hcl hrw4 HOL3 HOW3 HBX3 HAT3 HK3 HQ0 HQF hgne hgn hg1 hg2 hg3 hg4 HOL HOW HAP HWS HCV HPS HBX HBE HRE HLV hLWB hs3 hs4 hnbl hpl
      go_wp2_with fail
      refine HST.out.mono ?_
      rintro e w5 ⟨v5, ps5, rfl, hps5, hol5, hb5⟩
      obtain ⟨o5, c5, rfl⟩ := hol5.form
      unfold wstV
      dsimp only
      have hs5 := hb5.size
      have HP5 := Lib.hid hps5
      have HO5 := Lib.hid hol5
      have HB5 := Lib.hid hb5
      obtain ⟨W6, hW6⟩ : ∃ W6, w5.alloc (.cells #[.int .u64 7, .int .i64 2, .int .u64 0, .slice o5 ps5.length c5] 36) = W6 := ⟨_, rfl⟩
      have hsb := heap_alloc_new w5 (.cells #[.int .u64 7, .int .i64 2, .int .u64 0, .slice o5 ps5.length c5] 36)
      have hb6 : Below w5.heap.size w5 (w5.alloc (.cells #[.int .u64 7, .int .i64 2, .int .u64 0, .slice o5 ps5.length c5] 36)) := (Below.refl _ _).alloc (Nat.le_refl _) _
      rw [hW6] at hsb hb6
      have HSB := Lib.hid hsb
      have HB6 := Lib.hid (HB5.out.trans (hb6.mono hs5))
      have HO6 := Lib.hid (hol5.below hb6 (Nat.le_refl _))
      have hs6 := hb6.size
      have hsbl := lt_of_block hsb
      have HW6 := Lib.hid hW6
      clear hps5 hol5 hb5 hsb hb6 hW6 HST HB5 HO5
      go_upto_region 21 with fail
      rw [HW6.out]
      clear HW6
      obtain ⟨sb, hsbe⟩ : ∃ sb, w5.heap.size = sb := ⟨_, rfl⟩
      rw [hsbe] at HSB hsbl hs5 hs6
      rw [hsbe]
      clear hsbe
      have HAT6 := Lib.hid (HAT4.out.below HB6.out)
      have HRW6 := Lib.hid (HRW4.out.below HB6.out)
      have hbx6 := (HB6.out.block nb hnb4).trans HBX4.out
      have HBX6 := Lib.hid hbx6
      have x0 : W6.cell? ⟨nb, 0, none⟩ = some (.int .u64 7) := cellk hbx6 rfl
      have x1 : W6.cell? ⟨nb, 1, none⟩ = some (.int .i64 2) := cellk hbx6 rfl
      have x2 : W6.cell? ⟨nb, 2, none⟩ = some (.int .u64 0) := cellk hbx6 rfl
      have x3 : W6.cell? ⟨nb, 3, none⟩ = some LW := cellk hbx6 rfl
      clear hbx6
      refine wp_region_held_drew (S := fun w' => w'.cell? ⟨nb, 0, none⟩ = some (.int .u64 7) ∧ w'.cell? ⟨nb, 1, none⟩ = some (.int .i64 2) ∧ w'.cell? ⟨nb, 2, none⟩ = some (.int .u64 0) ∧ w'.cell? ⟨nb, 3, none⟩ = some (LW)) (by kernel_rfl) ⟨x0, x1, x2, x3⟩ ?_
      intro hHeld
      refine wpAnyH_take (i := 0) (v := ?_) (by simp only [List.getElem?_toArray, List.getElem?_cons_zero]; rfl) (by kernel_rfl) (by kernel_rfl) (by kernel_rfl) (by intro _ _ _ h; exact h) (Or.inl ⟨by rfl, ?_⟩) (by assumption) ?_
      rotate_left
      · (intro w hSw; (try dsimp only at hSw); go_simp; try with_reducible rfl)
      try simp only [Act.put, List.setIfInBounds_toArray, List.set_cons_zero, List.set_cons_succ]
      refine wpAnyH_take (i := 2) (v := ?_) (by simp only [List.getElem?_toArray, List.getElem?_cons_succ, List.getElem?_cons_zero]; rfl) (by kernel_rfl) (by kernel_rfl) (by kernel_rfl) (by intro _ _ _ h; exact h) (Or.inl ⟨by rfl, ?_⟩) (by assumption) ?_
      rotate_left
      · (intro w hSw; (try dsimp only at hSw); go_simp; try with_reducible rfl)
      try simp only [Act.put, List.setIfInBounds_toArray, List.set_cons_zero, List.set_cons_succ]
      refine wpAnyH_ready (rs := [1]) (by kernel_rfl) (by simp) ?_
      refine AllReadyH.cons (by simp only [List.getElem?_toArray, List.getElem?_cons_succ, List.getElem?_cons_zero]; rfl) (fun K hK => ?_) AllReadyH.nil
      go_simp
      have hst := lstate_any W6.drew (HAT6.out.below ((Below.refl _ _).drew))
      refine hst.mono ?_
      rintro e w8a ⟨va, psa, rfl, hpsa, hola, hba⟩
      obtain ⟨oa, ca, rfl⟩ := hola.form
      unfold wstV
      try dsimp only
      have hva := hola.rd
      rw [hpsa] at hva
      have hbxw8a := (hba.block nb (lt_of_block HBX6.out)).trans (show W6.drew.heap[nb]? = _ from HBX6.out)
      have y0 : w8a.cell? ⟨nb, 0, none⟩ = some (.int .u64 7) := cellk hbxw8a rfl
      have y1 : w8a.cell? ⟨nb, 1, none⟩ = some (.int .i64 2) := cellk hbxw8a rfl
      have y2 : w8a.cell? ⟨nb, 2, none⟩ = some (.int .u64 0) := cellk hbxw8a rfl
      have y3 : w8a.cell? ⟨nb, 3, none⟩ = some (LW) := cellk hbxw8a rfl
      have HBaw8a : Hid (Below W6.heap.size W6 w8a) := Lib.hid ((Below.refl _ _).drew.trans hba)
      have HVa := Lib.hid hva
      have HBXw8a := Lib.hid hbxw8a
      clear hst hpsa hola hba hva hbxw8a
      try dsimp only
      refine hK.out _ _ ⟨y0, y1, y2, y3⟩ (fun hHeld => ?_)
      clear hK K
      try simp only [Act.put, List.setIfInBounds_toArray, List.set_cons_zero, List.set_cons_succ]
      refine wpAnyH_ready (rs := [3]) (by kernel_rfl) (by simp) ?_
      refine AllReadyH.cons (by simp only [List.getElem?_toArray, List.getElem?_cons_succ, List.getElem?_cons_zero]; rfl) (fun K hK => ?_) AllReadyH.nil
      go_simp
      have hsm := wsame_eq ⟨7, 2, 0, kL l j⟩ (.slice oa psa.length ca) LW _ HVa.out (HRW6.out.below HBaw8a.out) (by show (kL l j).length ≤ 1000; rw [kL_length]; omega)
      unfold wstV at hsm
      dsimp only at hsm
      simp only [show ((7 : Nat) : Int) = 7 from rfl, show ((0 : Nat) : Int) = 0 from rfl] at hsm
      with_reducible refine hsm.mono ?_
      rintro e w8b ⟨rfl, hbb⟩
      have hbxw8b := (hbb.block nb (lt_of_block HBXw8a.out)).trans HBXw8a.out
      have z0 : w8b.cell? ⟨nb, 0, none⟩ = some (.int .u64 7) := cellk hbxw8b rfl
      have z1 : w8b.cell? ⟨nb, 1, none⟩ = some (.int .i64 2) := cellk hbxw8b rfl
      have z2 : w8b.cell? ⟨nb, 2, none⟩ = some (.int .u64 0) := cellk hbxw8b rfl
      have z3 : w8b.cell? ⟨nb, 3, none⟩ = some (LW) := cellk hbxw8b rfl
      have HBw8b : Hid (Below W6.heap.size W6 w8b) := Lib.hid (HBaw8a.out.trans (hbb.mono HBaw8a.out.size))
      have HBXw8b := Lib.hid hbxw8b
      clear hsm hbb hbxw8b HVa
      try dsimp only
      refine hK.out _ _ ⟨z0, z1, z2, z3⟩ (fun hHeld => ?_)
      clear hK K
      try simp only [Act.put, List.setIfInBounds_toArray, List.set_cons_zero, List.set_cons_succ]
      refine wpAnyH_take (i := 4) (v := ?_) (by simp only [List.getElem?_toArray, List.getElem?_cons_succ, List.getElem?_cons_zero]; rfl) (by kernel_rfl) (by kernel_rfl) (by kernel_rfl) (by intro _ _ _ h; exact h) (Or.inl ⟨by rfl, ?_⟩) (by assumption) ?_
      rotate_left
      · (intro w hSw; (try dsimp only at hSw); go_simp; try with_reducible rfl)
      try simp only [Act.put, List.setIfInBounds_toArray, List.set_cons_zero, List.set_cons_succ]
      refine wpAnyH_done (by kernel_rfl) ?_ _
      clear hHeld x0 x1 x2 x3 y0 y1 y2 y3 z0 z1 z2 z3
      have hB8 := HBw8b.out
      have hO8 := HO6.out.below hB8 (Nat.le_refl _)
      have hsb8 := (hB8.block sb hsbl).trans HSB.out
      have hhead2 : ∃ rest, kL l j = kE l 0 :: rest := by
        obtain ⟨m, rfl⟩ : ∃ m, j = m + 1 := ⟨j - 1, by omega⟩
        exact ⟨(List.range m).map (fun i => kE l (i + 1)), by simp [kL, List.range_succ_eq_map, Function.comp_def]⟩
      obtain ⟨rest2, hrest2⟩ := hhead2
      obtain ⟨gS, cS, gt, ct, bt, hSv, k1, k2, k3, k4, kne, r3, rb, rf, r0, rf0, -, kgne⟩ := own_first hO8 (by rw [HP5.out, hrest2]) HL0.out
      obtain ⟨hoa, hca2⟩ : o5 = some ⟨gS, 0, none⟩ ∧ c5 = cS := by
        injection hSv with a b c
        exact ⟨a, c⟩
      subst hoa hca2
      replace r3 : w8b.cell? ⟨gS, 3, none⟩ = some (.slice (some ⟨gt, 0, none⟩) l.length ct) := r3
      replace r0 : w8b.cell? ⟨gS, 0, none⟩ = some (.int .u64 1) := r0
      have s3 : w8b.cell? ⟨sb, 3, none⟩ = some (.slice (some ⟨gS, 0, none⟩) ps5.length c5) := cellk hsb8 rfl
      have hp5 : ps5.length = j := by have := congrArg List.length HP5.out; rw [List.length_map] at this; rw [this]; exact kL_length l j
      rw [hp5] at s3
      have hs8 := hB8.size
      have hsb8l := lt_of_block hsb8
      have HAT8 := Lib.hid (HAT6.out.below hB8)
      have HRW8 := Lib.hid (HRW6.out.below hB8)
      have HB8 := Lib.hid (HB6.out.trans (hB8.mono HB6.out.size))
      have HR0 := Lib.hid r0
      have HRF0 := Lib.hid rf0
      have HSB8 := Lib.hid hsb8
      have KTS : Hid (gt ≠ sb) := Lib.hid (fun e => by
        have s0 : w8b.cell? ⟨sb, 0, none⟩ = some (.int .u64 7) := cellk hsb8 rfl
        rw [← e, rb] at s0
        cases s0)
      clear hB8 hO8 hsb8 hSv r0 rf0 HP5 hp5 hrest2 HO6 HSB HAT6 HRW6 HB6 HBX6 HBXw8a HBaw8a HBw8b
      go_upto_region 23 with fail
      go_region
      go_upto_region 24 with fail
      generalize bits BinOp.xor IntKind.u8 bt 2 = XV at *
      have g0 : (w8b.setCell ⟨gt, 0, none⟩ (.int .u8 XV)).cell? ⟨gS, 0, none⟩ = some (.int .u64 1) := (World.cell?_setCell_far _ _ _ _ (show gt ≠ gS from fun e => kne e.symm)).trans HR0.out
      have g3 : (w8b.setCell ⟨gt, 0, none⟩ (.int .u8 XV)).cell? ⟨sb, 3, none⟩ = some (.slice (some ⟨gS, 0, none⟩) j c5) := (World.cell?_setCell_far _ _ _ _ (show gt ≠ sb from fun e => KTS.out e)).trans s3
      have gf : (w8b.setCell ⟨gt, 0, none⟩ (.int .u8 XV)).frozen? ⟨gS, 0, none⟩ = false := by rw [World.frozen?_setCell]; exact HRF0.out
      have gl : gS < (w8b.setCell ⟨gt, 0, none⟩ (.int .u8 XV)).heap.size := by rw [World.size_setCell]; exact k2
      have gl2 : sb < (w8b.setCell ⟨gt, 0, none⟩ (.int .u8 XV)).heap.size := by rw [World.size_setCell]; exact hsb8l
      clear s3 r3 rb rf
      go_upto_region 25 with fail
      have hk9 : Kept (fun k => k = gt ∨ k = gS) w8b ((w8b.setCell ⟨gt, 0, none⟩ (.int .u8 XV)).setCell ⟨gS, 0, none⟩ (.int .u64 8)).drew := (((Kept.refl (fun k => k = gt ∨ k = gS) w8b).setCell (p := ⟨gt, 0, none⟩) (.inl (.inl rfl)) _).setCell (p := ⟨gS, 0, none⟩) (.inl (.inr rfl)) _).drew
      generalize ((w8b.setCell ⟨gt, 0, none⟩ (.int .u8 XV)).setCell ⟨gS, 0, none⟩ (.int .u64 8)).drew = W9 at *
      clear g0 g3 gf gl gl2
      have hat9 := HAT8.out.block (w' := W9) (fun g hg => hk9.block g (HAT8.out.lt g hg) (by
        have := hfar4.out g hg
        rintro (e | e) <;> omega)) (fun _ h => h) (fun k hk => Nat.lt_of_lt_of_le (HAT8.out.lt k hk) hk9.size)
      have hB9 : Below W4.heap.size W4 W9 := HB8.out.trans (hk9.below (by have := HB8.out.size; omega) (fun k hk => by omega))
      have hbx9 := (hB9.block nb hnb4).trans HBX4.out
      have HAT9 := Lib.hid hat9
      have HRW9 := Lib.hid (HRW4.out.below hB9)
      have HB9 := Lib.hid hB9
      have HBX9 := Lib.hid hbx9
      have x0 : W9.cell? ⟨nb, 0, none⟩ = some (.int .u64 7) := cellk hbx9 rfl
      have x1 : W9.cell? ⟨nb, 1, none⟩ = some (.int .i64 2) := cellk hbx9 rfl
      have x2 : W9.cell? ⟨nb, 2, none⟩ = some (.int .u64 0) := cellk hbx9 rfl
      have x3 : W9.cell? ⟨nb, 3, none⟩ = some LW := cellk hbx9 rfl
      clear hk9 hat9 hB9 hbx9 HAT8 HRW8 HB8 HR0 HRF0 HSB8 KTS
      refine wp_region_held_drew (S := fun w' => w'.cell? ⟨nb, 0, none⟩ = some (.int .u64 7) ∧ w'.cell? ⟨nb, 1, none⟩ = some (.int .i64 2) ∧ w'.cell? ⟨nb, 2, none⟩ = some (.int .u64 0) ∧ w'.cell? ⟨nb, 3, none⟩ = some (LW)) (by kernel_rfl) ⟨x0, x1, x2, x3⟩ ?_
      intro hHeld
      refine wpAnyH_take (i := 0) (v := ?_) (by simp only [List.getElem?_toArray, List.getElem?_cons_zero]; rfl) (by kernel_rfl) (by kernel_rfl) (by kernel_rfl) (by intro _ _ _ h; exact h) (Or.inl ⟨by rfl, ?_⟩) (by assumption) ?_
      rotate_left
      · (intro w hSw; (try dsimp only at hSw); go_simp; try with_reducible rfl)
      try simp only [Act.put, List.setIfInBounds_toArray, List.set_cons_zero, List.set_cons_succ]
      refine wpAnyH_take (i := 2) (v := ?_) (by simp only [List.getElem?_toArray, List.getElem?_cons_succ, List.getElem?_cons_zero]; rfl) (by kernel_rfl) (by kernel_rfl) (by kernel_rfl) (by intro _ _ _ h; exact h) (Or.inl ⟨by rfl, ?_⟩) (by assumption) ?_
      rotate_left
      · (intro w hSw; (try dsimp only at hSw); go_simp; try with_reducible rfl)
      try simp only [Act.put, List.setIfInBounds_toArray, List.set_cons_zero, List.set_cons_succ]
      refine wpAnyH_ready (rs := [1]) (by kernel_rfl) (by simp) ?_
      refine AllReadyH.cons (by simp only [List.getElem?_toArray, List.getElem?_cons_succ, List.getElem?_cons_zero]; rfl) (fun K hK => ?_) AllReadyH.nil
      go_simp
      have hst := lstate_any W9.drew (HAT9.out.below ((Below.refl _ _).drew))
      refine hst.mono ?_
      rintro e w10a ⟨va, psa, rfl, hpsa, hola, hba⟩
      obtain ⟨oa, ca, rfl⟩ := hola.form
      unfold wstV
      try dsimp only
      have hva := hola.rd
      rw [hpsa] at hva
      have hbxw10a := (hba.block nb (lt_of_block HBX9.out)).trans (show W9.drew.heap[nb]? = _ from HBX9.out)
      have y0 : w10a.cell? ⟨nb, 0, none⟩ = some (.int .u64 7) := cellk hbxw10a rfl
      have y1 : w10a.cell? ⟨nb, 1, none⟩ = some (.int .i64 2) := cellk hbxw10a rfl
      have y2 : w10a.cell? ⟨nb, 2, none⟩ = some (.int .u64 0) := cellk hbxw10a rfl
      have y3 : w10a.cell? ⟨nb, 3, none⟩ = some (LW) := cellk hbxw10a rfl
      have HBaw10a : Hid (Below W9.heap.size W9 w10a) := Lib.hid ((Below.refl _ _).drew.trans hba)
      have HVa := Lib.hid hva
      have HBXw10a := Lib.hid hbxw10a
      clear hst hpsa hola hba hva hbxw10a
      try dsimp only
      refine hK.out _ _ ⟨y0, y1, y2, y3⟩ (fun hHeld => ?_)
      clear hK K
      try simp only [Act.put, List.setIfInBounds_toArray, List.set_cons_zero, List.set_cons_succ]
      refine wpAnyH_ready (rs := [3]) (by kernel_rfl) (by simp) ?_
      refine AllReadyH.cons (by simp only [List.getElem?_toArray, List.getElem?_cons_succ, List.getElem?_cons_zero]; rfl) (fun K hK => ?_) AllReadyH.nil
      go_simp
      have hsm := wsame_eq ⟨7, 2, 0, kL l j⟩ (.slice oa psa.length ca) LW _ HVa.out (HRW9.out.below HBaw10a.out) (by show (kL l j).length ≤ 1000; rw [kL_length]; omega)
      unfold wstV at hsm
      dsimp only at hsm
      simp only [show ((7 : Nat) : Int) = 7 from rfl, show ((0 : Nat) : Int) = 0 from rfl] at hsm
      with_reducible refine hsm.mono ?_
      rintro e w10b ⟨rfl, hbb⟩
      have hbxw10b := (hbb.block nb (lt_of_block HBXw10a.out)).trans HBXw10a.out
      have z0 : w10b.cell? ⟨nb, 0, none⟩ = some (.int .u64 7) := cellk hbxw10b rfl
      have z1 : w10b.cell? ⟨nb, 1, none⟩ = some (.int .i64 2) := cellk hbxw10b rfl
      have z2 : w10b.cell? ⟨nb, 2, none⟩ = some (.int .u64 0) := cellk hbxw10b rfl
      have z3 : w10b.cell? ⟨nb, 3, none⟩ = some (LW) := cellk hbxw10b rfl
      have HBw10b : Hid (Below W9.heap.size W9 w10b) := Lib.hid (HBaw10a.out.trans (hbb.mono HBaw10a.out.size))
      have HBXw10b := Lib.hid hbxw10b
      clear hsm hbb hbxw10b HVa
      try dsimp only
      refine hK.out _ _ ⟨z0, z1, z2, z3⟩ (fun hHeld => ?_)
      clear hK K
      try simp only [Act.put, List.setIfInBounds_toArray, List.set_cons_zero, List.set_cons_succ]
      refine wpAnyH_take (i := 4) (v := ?_) (by simp only [List.getElem?_toArray, List.getElem?_cons_succ, List.getElem?_cons_zero]; rfl) (by kernel_rfl) (by kernel_rfl) (by kernel_rfl) (by intro _ _ _ h; exact h) (Or.inl ⟨by rfl, ?_⟩) (by assumption) ?_
      rotate_left
      · (intro w hSw; (try dsimp only at hSw); go_simp; try with_reducible rfl)
      try simp only [Act.put, List.setIfInBounds_toArray, List.set_cons_zero, List.set_cons_succ]
      refine wpAnyH_done (by kernel_rfl) ?_ _
      clear hHeld x0 x1 x2 x3 y0 y1 y2 y3 z0 z1 z2 z3
      go_wp2_with fail
      go_ret
      exact ⟨rfl, HB4.out.trans ((HB9.out.trans (HBw10b.out.mono HB9.out.size)).mono (by have := HB4.out.size; omega))⟩

theorem wkeeps_law (v : Value) (l : List UInt8) (N : Int) (w : World) (h : Rd w v l) (hl : l.length ≤ 140737488351232) (hN0 : 0 ≤ N) (hN1 : N ≤ 255) :
    Calls Try.prog 3 #[v, .int .u8 N] w fun e w' => e = .returned (.bool true) ∧ Below w.heap.size w w' := wkeeps_walk N v l w hN0 hN1 h hl
end Go.Proofs.Ytdckcjcddibglaa
