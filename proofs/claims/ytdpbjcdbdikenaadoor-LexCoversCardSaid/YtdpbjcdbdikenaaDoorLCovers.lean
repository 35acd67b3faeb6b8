/- The law of what the tokens cover. -/
import Derived.Test.YtdpbjcdbdikenaaDoorLCoversA
namespace Go.Proofs.YtdpbjcdbdikenaaDoor
open Go.RowKit LexM

set_option maxHeartbeats 8000000 in
set_option maxRecDepth 100000 in
theorem covers_walk (s : ByteArray) (w : World) (hL : Laid w) (hs : s.size ≤ 140737488351232) :
    Calls Tryd.prog 5 #[.string s] w fun e w' => e = .returned (.bool true) ∧ Below w.heap.size w w' := by
  have HL := Lib.hid hL
  clear hL
  go_enter Tryd.func5, Tryd.ntmps5
  go_wp2_with fail
  refine (awake _ HL.out).mono ?_
  rintro e w1 ⟨rfl, hb1⟩
  have HB1 := Lib.hid hb1
  clear hb1
  go_wp2_with fail
  refine (tokens_any s _ (HL.out.below HB1.out HL.out.size)).mono ?_
  rintro e w2 ⟨v, rfl, ho, hb2⟩
  have HB2 := Lib.hid (HB1.out.trans (hb2.mono HB1.out.size))
  have R := Lib.hid ho.rd
  clear hb2 ho
  have OK : (lexed (bs s)).1 = 0 → s.size ≤ 2000 ∧ (lexed (bs s)).2.1 = 0 ∧ (lexed (bs s)).2.2 ≠ [] ∧ (lexed (bs s)).2.2.length ≤ s.size + 1 ∧ Cov 0 (bs s) (lexed (bs s)).2.2 := by
    unfold lexed
    rw [bs_length]
    split
    · intro h; cases h
    · rename_i h2
      intro h
      have hl := toks_len 0 (bs s)
      rw [bs_length] at hl
      exact ⟨by omega, ((toks_ok 0 (bs s)).1 h).1, ((toks_ok 0 (bs s)).1 h).2, hl.1, toks_cov 0 (bs s) h⟩
  have BAD : (lexed (bs s)).1 ≠ 0 → (lexed (bs s)).2.1 ≤ s.size ∧ (lexed (bs s)).2.2 = [] := by
    unfold lexed
    rw [bs_length]
    split
    · intro _; exact ⟨by simp, rfl⟩
    · intro h
      have hp := toks_place 0 (bs s) h
      rw [bs_length] at hp
      exact ⟨by omega, (toks_ok 0 (bs s)).2 h⟩
  generalize lexed (bs s) = R0 at *
  obtain ⟨e0, a0, ts⟩ := R0
  dsimp only at OK BAD R ⊢
  by_cases he : e0 = 0
  · subst he
    obtain ⟨hs2, rfl, hne, hlen, hcov⟩ := OK rfl
    have hs3 : (s.size : Int) ≤ 2000 := by omega
    clear OK BAD hs
    rw [show ((0 : Nat) : Int) = 0 from rfl]
    have HV := Lib.hid hcov
    rcases R.out with ⟨_, _, _, _, h0⟩ | ⟨b, off, c, rfl, hpos, hn, hm, hcs⟩
    · exact absurd h0 hne
    · have HC := Lib.hid hcs
      have hlt2 : b < w2.heap.size := by
        have := World.block_lt_of_cell? w2 _ (hcs 0 ts[0] (by simp [hpos])).1
        exact this
      clear hcs hcov hne R
      go_wp2_with fail
      go_loopw [6] (fun i wr => ∃ k : Nat, k ≤ ts.length ∧ i = .int .i64 (k : Int) ∧ Below w2.heap.size w2 wr) (fun i _ => ts.length - (intOf i).toNat)
      case atStart => exact ⟨0, by omega, rfl, Below.refl _ _⟩
      case round =>
        obtain ⟨k, hk, rfl, hb⟩ := hrel
        have hcw := HC.out.below hb (Nat.le_refl _)
        have hsz := hb.size
        by_cases hlt : k < ts.length
        · have hget : ts[k]? = some ts[k] := List.getElem?_eq_getElem hlt
          obtain ⟨c0, c1, c2⟩ := hcw k _ hget
          obtain ⟨-, g2, g3, g4, g5, -⟩ := HV.out.one k _ hget
          rw [bs_length, Nat.zero_add, Nat.sub_zero] at g5
          rw [bs_length, Nat.zero_add] at g2
          have PRV : 0 < k → ∃ u : Nat, u < ts[k].at_ ∧ wr.cell? ⟨b, off + (k - 1) * 3 + 2, none⟩ = some (.int .i64 (u : Int)) := by
            intro hk0
            have hgp : ts[k - 1]? = some (ts[k - 1]'(by omega)) := List.getElem?_eq_getElem (by omega)
            refine ⟨_, HV.out.up (k - 1) _ _ hgp (by rw [show k - 1 + 1 = k by omega]; exact hget), (hcw (k - 1) _ hgp).2.2⟩
          have HB := Lib.hid hb
          unfold tkS at c1
          generalize ts[k] = t at *
          obtain ⟨kd, tx, q⟩ := t
          dsimp only at c0 c1 c2 g2 g3 g4 g5 PRV
          obtain ⟨S, hS⟩ : ∃ S : ByteArray, S = ⟨tx.toArray⟩ := ⟨_, rfl⟩
          rw [← hS] at c1
          have hSs : S.size = tx.length := by rw [hS]; simp [ByteArray.size]
          have hSb : bs S = tx := by rw [hS]
          rw [← hSs] at g5
          have HG3 := Lib.hid g3
          have HG5 := Lib.hid g5
          have HSb := Lib.hid hSb
          clear hget hcw hb g3 g5 hS hSs hSb
          generalize ts.length = n at *
          have HFIN : Hid (Below w2.heap.size w2 (wr.alloc (.cells #[.int .u8 (kd : Int), .string S, .int .i64 (q : Int)] 33))) := HB.out.alloc hsz _
          by_cases hk0 : 0 < k
          · obtain ⟨u, hu, cu⟩ := PRV hk0
            clear PRV
            have e1 : ((k : Int) - 1).toNat = k - 1 := by omega
            have u1 : (u : Int) < (q : Int) := by omega
            have KC : (kd = 0 ∧ k + 1 = n) ∨ (kd = 5 ∧ k + 1 ≠ n) ∨ (kd ≠ 0 ∧ kd ≠ 5 ∧ k + 1 ≠ n) := by
              have := HG3.out
              omega
            rcases KC with ⟨z1, z2⟩ | ⟨z1, z2⟩ | ⟨z0, z1, z2⟩
            · have t2 : ((kd : Int) == 0) = true := by rw [beq_iff_eq]; omega
              have t3 : ((k : Int) == (n : Int) - 1) = true := by rw [beq_iff_eq]; omega
              have t4 : ((kd : Int) != 5) = true := by rw [bne_iff_ne]; omega
              have t5 : ((kd : Int) != 0) = false := by rw [bne_eq_false_iff_eq]; omega
              clear z1 z2
              go_wp2_with fail
              have wn : IntKind.i64.wrap ((n : Int) - 1) = (n : Int) - 1 := IntWalk.i64_in _ (by omega)
              have wd : IntKind.i64.wrap ((s.size : Int) - (q : Int)) = (s.size : Int) - (q : Int) := IntWalk.i64_in _ (by omega)
              have wk1 : IntKind.i64.wrap ((k : Int) - 1) = (k : Int) - 1 := IntWalk.i64_in _ (by omega)
              have k0 : (1 : Int) ≤ (k : Int) := by omega
              have k1 : (k : Int) - 1 < (n : Int) := by omega
              generalize hW : wr.alloc _ = W
              have hblk : W.heap[wr.heap.size]? = some (.cells #[.int .u8 (kd : Int), .string S, .int .i64 (q : Int)] 33 (0, 0)) := by rw [← hW]; exact heap_alloc_new wr _
              have d0 := cell_of_row W wr.heap.size 0 _ _ _ hblk
              have d1 := cell_of_row W wr.heap.size 1 _ _ _ hblk
              have d2 := cell_of_row W wr.heap.size 2 _ _ _ hblk
              have cuW : W.cell? ⟨b, off + (k - 1) * 3 + 2, none⟩ = some (.int .i64 (u : Int)) := by rw [← hW]; exact (World.cell?_of_block (Below.heap_alloc wr _ b (World.block_lt_of_cell? wr _ cu))).trans cu
              have HFIN2 : Hid (Below w2.heap.size w2 W) := by show Below _ _ _; rw [← hW]; exact HFIN.out
              clear hW hblk c0 c1 c2 cu
              generalize wr.heap.size = nb at *
              go_quiet (fail)
              go_wp2_with fail
              go_quiet (fail)
              go_wp2_with fail
              go_roundw
              case rel => exact ⟨k + 1, by omega, by go_num, HFIN2.out.trans ⟨rfl, rfl, rfl, Nat.le_refl _, fun _ _ => rfl⟩⟩
              case measure => simp [intOf]; omega
            · have t2 : ((kd : Int) == 0) = false := by rw [beq_eq_false_iff_ne]; omega
              have t3 : ((k : Int) == (n : Int) - 1) = false := by rw [beq_eq_false_iff_ne]; omega
              have t4 : ((kd : Int) != 5) = false := by rw [bne_eq_false_iff_eq]; omega
              clear z1 z2
              go_wp2_with fail
              have wn : IntKind.i64.wrap ((n : Int) - 1) = (n : Int) - 1 := IntWalk.i64_in _ (by omega)
              have wd : IntKind.i64.wrap ((s.size : Int) - (q : Int)) = (s.size : Int) - (q : Int) := IntWalk.i64_in _ (by omega)
              have wk1 : IntKind.i64.wrap ((k : Int) - 1) = (k : Int) - 1 := IntWalk.i64_in _ (by omega)
              have k0 : (1 : Int) ≤ (k : Int) := by omega
              have k1 : (k : Int) - 1 < (n : Int) := by omega
              generalize hW : wr.alloc _ = W
              have hblk : W.heap[wr.heap.size]? = some (.cells #[.int .u8 (kd : Int), .string S, .int .i64 (q : Int)] 33 (0, 0)) := by rw [← hW]; exact heap_alloc_new wr _
              have d0 := cell_of_row W wr.heap.size 0 _ _ _ hblk
              have d1 := cell_of_row W wr.heap.size 1 _ _ _ hblk
              have d2 := cell_of_row W wr.heap.size 2 _ _ _ hblk
              have cuW : W.cell? ⟨b, off + (k - 1) * 3 + 2, none⟩ = some (.int .i64 (u : Int)) := by rw [← hW]; exact (World.cell?_of_block (Below.heap_alloc wr _ b (World.block_lt_of_cell? wr _ cu))).trans cu
              have HFIN2 : Hid (Below w2.heap.size w2 W) := by show Below _ _ _; rw [← hW]; exact HFIN.out
              clear hW hblk c0 c1 c2 cu
              generalize wr.heap.size = nb at *
              go_quiet (fail)
              go_wp2_with fail
              go_quiet (fail)
              go_wp2_with fail
              go_roundw
              case rel => exact ⟨k + 1, by omega, by go_num, HFIN2.out.trans ⟨rfl, rfl, rfl, Nat.le_refl _, fun _ _ => rfl⟩⟩
              case measure => simp [intOf]; omega
            · have t2 : ((kd : Int) == 0) = false := by rw [beq_eq_false_iff_ne]; omega
              have t3 : ((k : Int) == (n : Int) - 1) = false := by rw [beq_eq_false_iff_ne]; omega
              have t4 : ((kd : Int) != 5) = true := by rw [bne_iff_ne]; omega
              have t5 : ((kd : Int) != 0) = true := by rw [bne_iff_ne]; omega
              obtain ⟨f1, f2⟩ := HG5.out z1 z0
              have f3 : (S.size : Int) ≤ (s.size : Int) - (q : Int) := by omega
              have f4 : q + S.size ≤ s.size := by omega
              have l1 : (q : Int) ≤ (q : Int) + (S.size : Int) := by omega
              have l2 : (q : Int) + (S.size : Int) ≤ (s.size : Int) := by omega
              have l3 : ((q : Int) + (S.size : Int)).toNat = q + S.size := by omega
              have hx : (s.extract q (q + S.size)).data.toList = S.data.toList := by
                have := ex_bs s q (q + S.size)
                rw [Nat.add_sub_cancel_left, f2, ← HSb.out] at this
                exact this
              have t6 : ((s.extract q (q + S.size)).toList == S.toList) = true := by rw [Lib.toList_data, Lib.toList_data, hx]; simp
              have t7 : decide ((s.size : Int) - (q : Int) < (S.size : Int)) = false := by rw [decide_eq_false_iff_not]; omega
              clear z0 z1 z2 f1 f2 hx
              go_wp2_with fail
              have wn : IntKind.i64.wrap ((n : Int) - 1) = (n : Int) - 1 := IntWalk.i64_in _ (by omega)
              have wd : IntKind.i64.wrap ((s.size : Int) - (q : Int)) = (s.size : Int) - (q : Int) := IntWalk.i64_in _ (by omega)
              have ws : IntKind.i64.wrap ((q : Int) + (S.size : Int)) = (q : Int) + (S.size : Int) := IntWalk.i64_in _ (by omega)
              have wk1 : IntKind.i64.wrap ((k : Int) - 1) = (k : Int) - 1 := IntWalk.i64_in _ (by omega)
              have k0 : (1 : Int) ≤ (k : Int) := by omega
              have k1 : (k : Int) - 1 < (n : Int) := by omega
              generalize hW : wr.alloc _ = W
              have hblk : W.heap[wr.heap.size]? = some (.cells #[.int .u8 (kd : Int), .string S, .int .i64 (q : Int)] 33 (0, 0)) := by rw [← hW]; exact heap_alloc_new wr _
              have d0 := cell_of_row W wr.heap.size 0 _ _ _ hblk
              have d1 := cell_of_row W wr.heap.size 1 _ _ _ hblk
              have d2 := cell_of_row W wr.heap.size 2 _ _ _ hblk
              have cuW : W.cell? ⟨b, off + (k - 1) * 3 + 2, none⟩ = some (.int .i64 (u : Int)) := by rw [← hW]; exact (World.cell?_of_block (Below.heap_alloc wr _ b (World.block_lt_of_cell? wr _ cu))).trans cu
              have HFIN2 : Hid (Below w2.heap.size w2 W) := by show Below _ _ _; rw [← hW]; exact HFIN.out
              clear hW hblk c0 c1 c2 cu
              generalize wr.heap.size = nb at *
              go_quiet (fail)
              go_wp2_with fail
              go_quiet (fail)
              go_wp2_with fail
              go_roundw
              case rel => exact ⟨k + 1, by omega, by go_num, HFIN2.out.trans ⟨rfl, rfl, rfl, Nat.le_refl _, fun _ _ => rfl⟩⟩
              case measure => simp [intOf]; omega
          · have hk1 : decide (0 < k) = false := by rw [decide_eq_false_iff_not]; exact hk0
            clear PRV hk0
            have q1 : (q : Int) ≤ (s.size : Int) := by omega
            have q2 : ¬ s.size < q := by omega
            have KC : (kd = 0 ∧ k + 1 = n) ∨ (kd = 5 ∧ k + 1 ≠ n) ∨ (kd ≠ 0 ∧ kd ≠ 5 ∧ k + 1 ≠ n) := by
              have := HG3.out
              omega
            rcases KC with ⟨z1, z2⟩ | ⟨z1, z2⟩ | ⟨z0, z1, z2⟩
            · have t2 : ((kd : Int) == 0) = true := by rw [beq_iff_eq]; omega
              have t3 : ((k : Int) == (n : Int) - 1) = true := by rw [beq_iff_eq]; omega
              have t4 : ((kd : Int) != 5) = true := by rw [bne_iff_ne]; omega
              have t5 : ((kd : Int) != 0) = false := by rw [bne_eq_false_iff_eq]; omega
              clear z1 z2
              go_wp2_with fail
              have wn : IntKind.i64.wrap ((n : Int) - 1) = (n : Int) - 1 := IntWalk.i64_in _ (by omega)
              have wd : IntKind.i64.wrap ((s.size : Int) - (q : Int)) = (s.size : Int) - (q : Int) := IntWalk.i64_in _ (by omega)
              generalize hW : wr.alloc _ = W
              have hblk : W.heap[wr.heap.size]? = some (.cells #[.int .u8 (kd : Int), .string S, .int .i64 (q : Int)] 33 (0, 0)) := by rw [← hW]; exact heap_alloc_new wr _
              have d0 := cell_of_row W wr.heap.size 0 _ _ _ hblk
              have d1 := cell_of_row W wr.heap.size 1 _ _ _ hblk
              have d2 := cell_of_row W wr.heap.size 2 _ _ _ hblk
              have HFIN2 : Hid (Below w2.heap.size w2 W) := by show Below _ _ _; rw [← hW]; exact HFIN.out
              clear hW hblk c0 c1 c2
              generalize wr.heap.size = nb at *
              go_quiet (fail)
              go_wp2_with fail
              go_quiet (fail)
              go_wp2_with fail
              go_roundw
              case rel => exact ⟨k + 1, by omega, by go_num, HFIN2.out.trans ⟨rfl, rfl, rfl, Nat.le_refl _, fun _ _ => rfl⟩⟩
              case measure => simp [intOf]; omega
            · have t2 : ((kd : Int) == 0) = false := by rw [beq_eq_false_iff_ne]; omega
              have t3 : ((k : Int) == (n : Int) - 1) = false := by rw [beq_eq_false_iff_ne]; omega
              have t4 : ((kd : Int) != 5) = false := by rw [bne_eq_false_iff_eq]; omega
              clear z1 z2
              go_wp2_with fail
              have wn : IntKind.i64.wrap ((n : Int) - 1) = (n : Int) - 1 := IntWalk.i64_in _ (by omega)
              have wd : IntKind.i64.wrap ((s.size : Int) - (q : Int)) = (s.size : Int) - (q : Int) := IntWalk.i64_in _ (by omega)
              generalize hW : wr.alloc _ = W
              have hblk : W.heap[wr.heap.size]? = some (.cells #[.int .u8 (kd : Int), .string S, .int .i64 (q : Int)] 33 (0, 0)) := by rw [← hW]; exact heap_alloc_new wr _
              have d0 := cell_of_row W wr.heap.size 0 _ _ _ hblk
              have d1 := cell_of_row W wr.heap.size 1 _ _ _ hblk
              have d2 := cell_of_row W wr.heap.size 2 _ _ _ hblk
              have HFIN2 : Hid (Below w2.heap.size w2 W) := by show Below _ _ _; rw [← hW]; exact HFIN.out
              clear hW hblk c0 c1 c2
              generalize wr.heap.size = nb at *
              go_quiet (fail)
              go_wp2_with fail
              go_quiet (fail)
              go_wp2_with fail
              go_roundw
              case rel => exact ⟨k + 1, by omega, by go_num, HFIN2.out.trans ⟨rfl, rfl, rfl, Nat.le_refl _, fun _ _ => rfl⟩⟩
              case measure => simp [intOf]; omega
            · have t2 : ((kd : Int) == 0) = false := by rw [beq_eq_false_iff_ne]; omega
              have t3 : ((k : Int) == (n : Int) - 1) = false := by rw [beq_eq_false_iff_ne]; omega
              have t4 : ((kd : Int) != 5) = true := by rw [bne_iff_ne]; omega
              have t5 : ((kd : Int) != 0) = true := by rw [bne_iff_ne]; omega
              obtain ⟨f1, f2⟩ := HG5.out z1 z0
              have f3 : (S.size : Int) ≤ (s.size : Int) - (q : Int) := by omega
              have f4 : q + S.size ≤ s.size := by omega
              have l1 : (q : Int) ≤ (q : Int) + (S.size : Int) := by omega
              have l2 : (q : Int) + (S.size : Int) ≤ (s.size : Int) := by omega
              have l3 : ((q : Int) + (S.size : Int)).toNat = q + S.size := by omega
              have hx : (s.extract q (q + S.size)).data.toList = S.data.toList := by
                have := ex_bs s q (q + S.size)
                rw [Nat.add_sub_cancel_left, f2, ← HSb.out] at this
                exact this
              have t6 : ((s.extract q (q + S.size)).toList == S.toList) = true := by rw [Lib.toList_data, Lib.toList_data, hx]; simp
              have t7 : decide ((s.size : Int) - (q : Int) < (S.size : Int)) = false := by rw [decide_eq_false_iff_not]; omega
              clear z0 z1 z2 f1 f2 hx
              go_wp2_with fail
              have wn : IntKind.i64.wrap ((n : Int) - 1) = (n : Int) - 1 := IntWalk.i64_in _ (by omega)
              have wd : IntKind.i64.wrap ((s.size : Int) - (q : Int)) = (s.size : Int) - (q : Int) := IntWalk.i64_in _ (by omega)
              have ws : IntKind.i64.wrap ((q : Int) + (S.size : Int)) = (q : Int) + (S.size : Int) := IntWalk.i64_in _ (by omega)
              generalize hW : wr.alloc _ = W
              have hblk : W.heap[wr.heap.size]? = some (.cells #[.int .u8 (kd : Int), .string S, .int .i64 (q : Int)] 33 (0, 0)) := by rw [← hW]; exact heap_alloc_new wr _
              have d0 := cell_of_row W wr.heap.size 0 _ _ _ hblk
              have d1 := cell_of_row W wr.heap.size 1 _ _ _ hblk
              have d2 := cell_of_row W wr.heap.size 2 _ _ _ hblk
              have HFIN2 : Hid (Below w2.heap.size w2 W) := by show Below _ _ _; rw [← hW]; exact HFIN.out
              clear hW hblk c0 c1 c2
              generalize wr.heap.size = nb at *
              go_quiet (fail)
              go_wp2_with fail
              go_quiet (fail)
              go_wp2_with fail
              go_roundw
              case rel => exact ⟨k + 1, by omega, by go_num, HFIN2.out.trans ⟨rfl, rfl, rfl, Nat.le_refl _, fun _ _ => rfl⟩⟩
              case measure => simp [intOf]; omega
        · obtain rfl : k = ts.length := by omega
          have hlast : ts[ts.length - 1]? = some (ts[ts.length - 1]'(by omega)) := List.getElem?_eq_getElem (by omega)
          obtain ⟨d0, d1, d2⟩ := hcw (ts.length - 1) _ hlast
          have hat := (HV.out.one _ _ hlast).2.2.2.2.2 (by omega)
          rw [bs_length, Nat.zero_add] at hat
          rw [hat] at d2
          have HBf := Lib.hid (HB2.out.trans (hb.mono HB2.out.size))
          clear hlast hat hcw hb d0 d1 hlt
          have hpi : (0 : Int) < (ts.length : Int) := by omega
          generalize ts.length = n at *
          have e1 : ((n : Int) - 1).toNat = n - 1 := by omega
          go_wp2
          go_ret
          exact ⟨rfl, HBf.out⟩
  · obtain ⟨ha, rfl⟩ := BAD he
    obtain ⟨o, c, rfl⟩ := R.out.form
    have t0 : ((e0 : Int) != 0) = true := by rw [bne_iff_ne]; omega
    have ha0 : (a0 : Int) ≤ (s.size : Int) := by omega
    clear OK BAD R he
    go_wp2
    go_ret
    exact ⟨rfl, HB2.out⟩
end Go.Proofs.YtdpbjcdbdikenaaDoor
