/- The reference's Encode: a message as bytes. -/
import Derived.Test.YtjbailnnaigjbaaBnB
import Derived.Test.YtjbailnnaigjbaaOctI
import Derived.Test.YtjbailnnaigjbaaOctT
namespace Go.Proofs.Ytjbailnnaigjbaa
open Go.RowKit OctM

theorem append_own2 {w : World} {base : Nat} {v s : Value} {l k : List UInt8} (hown : Own w base v l) (hs : Rd w s k) (hb : l.length + k.length ≤ 140737488355328) (hbase : base ≤ w.heap.size) (ty : TypeId) :
    ∃ v' w', (Builtin.append_ #[35, 35] ty #[v, s]).run Try.prog w = .ok v' w' ∧ Own w' base v' (l ++ k) ∧ w.grownBy w' v.ownBlock ∧ (v'.ownBlock = v.ownBlock ∨ v'.ownBlock = some w.heap.size) := by
  obtain ⟨i0, hi0, hz0, hz1, hz2⟩ := info_parts u8info
  rcases hs with ⟨rfl, rfl⟩ | ⟨a, c, rfl, hn, hm, hc⟩
  · exact ⟨v, w, run_append_owned_none (P := Try.prog) (w := w) base 35 ty 5 i0 1 Try.underlying35 hi0 _ _ _ hown, by simpa [Own] using hown, World.grownBy.refl w _, .inl rfl⟩
  · obtain ⟨v', w', hr, h2, h3, _, h5⟩ := run_append_own_at (P := Try.prog) w base 35 ty 5 i0 (.int .u8 0) 1 1 Try.underlying35 hi0 hz0 hz1 hz2 rfl (by decide) v l.length (Bs l) hown a k.length c (Bs k)
      (by rw [Bs_length, Nat.mul_one]) (fun j u hj => by
        obtain ⟨b, hb, rfl⟩ : ∃ b, k[j]? = some b ∧ B b = u := by simpa [Bs] using hj
        exact hc j b hb) (Bs_one k) (by unfold maxLen; omega) (by omega) hbase
    refine ⟨v', w', hr, ?_, h3, h5⟩
    unfold Own
    rw [List.length_append, Bs_append]
    exact h2

/-- Bytes behind others. -/
theorem app_step {w wi w1 : World} {p v : Value} {bs k : List UInt8} (hB : Below w.heap.size w wi) (ho : Own wi w.heap.size p bs) (hc : Rd w1 v k) (hb1 : Below wi.heap.size wi w1) (hl : bs.length + k.length ≤ 140737488355328) :
    ∃ p2 w2, (Builtin.append_ #[35, 35] 35 #[p, v]).run Try.prog w1 = .ok p2 w2 ∧ Own w2 w.heap.size p2 (bs ++ k) ∧ Below w.heap.size w w2 ∧
      ∀ ib o, wi.heap[ib]? = some o → p.ownBlock ≠ some ib → w2.heap[ib]? = some o ∧ p2.ownBlock ≠ some ib := by
  have hz := hB.size
  have ho1 := own_below ho hb1 (Nat.le_refl _)
  obtain ⟨p2, w2, hr, ho2, hg, hat⟩ := append_own2 ho1 hc hl (by have := hb1.size; omega) 35
  refine ⟨p2, w2, hr, ho2, (hB.trans (hb1.mono hz)).grown hg (by have := hb1.size; omega) (fun k hk => (ho.lt k hk).1), fun ib o hf hne => ?_⟩
  have hlt := lt_of_block hf
  refine ⟨(hg.block ib (by have := hb1.size; omega) (fun h => hne h.symm)).trans ((hb1.block ib hlt).trans hf), ?_⟩
  rcases hat with e | e
  · rw [e]; exact hne
  · rw [e]
    intro h
    injection h with h
    have := hb1.size
    omega
theorem encB_le (k : List UInt8) {n : Nat} (h : k.length ≤ n) : (encB k).length ≤ n + 9 := Nat.le_trans (encB_length k) (by omega)
theorem enc_le (n : Nat) : (enc n).length ≤ 9 := by
  rw [enc_length]
  have := nd_le n
  omega

set_option maxHeartbeats 8000000 in
set_option maxRecDepth 100000 in
theorem rmencode (M : Mg) (ve vd : Value) (w : World) (hre : RE w ve M.es) (hrd : Rd w vd M.dt) (hM : OkM M) (hT : (encI M).length ≤ 1000000000) :
    Calls Try.prog 13 #[mgV M ve vd] w fun e w' => ∃ v, e = .returned v ∧ Own w' w.heap.size v (encM M) ∧ Below w.heap.size w w' := by
  obtain ⟨od, cd, hvd⟩ := (rd_form2 hrd)
  obtain ⟨oe, ce, hve, hall⟩ := hre
  subst hvd hve
  have HRD := Lib.hid hrd
  have HALL := Lib.hid hall
  obtain ⟨mk, mfr, mtg, mtm, mix, mlt, mcm, hes, hok, hdt⟩ := hM
  have HOK := Lib.hid hok
  clear hrd hall hok
  obtain ⟨bfr0, bfr1⟩ := zig_b mfr
  obtain ⟨btg0, btg1⟩ := zig_b mtg
  obtain ⟨k, fr, tg, tm, ix, lt, cm, ok, es, dt⟩ := M
  dsimp only at *
  obtain ⟨TT, hTT⟩ : ∃ TT, encI ⟨k, fr, tg, tm, ix, lt, cm, ok, es, dt⟩ = TT := ⟨_, rfl⟩
  have HTL : Hid (TT.length ≤ 1000000000) := by rw [← hTT]; exact hT
  have HTT : Hid (encI ⟨k, fr, tg, tm, ix, lt, cm, ok, es, dt⟩ = TT) := hTT
  unfold encM
  rw [hTT]
  clear hT hTT
  unfold encI at HTT
  dsimp only at HTT
  unfold mgV
  dsimp only
  obtain ⟨WB, hWB⟩ : ∃ WB, w.alloc (.cells #[.int .u8 (k : Int), .int .i64 fr, .int .i64 tg, .int .u64 (tm : Int), .int .u64 (ix : Int), .int .u64 (lt : Int), .int .u64 (cm : Int), .bool ok, .slice oe es.length ce, .slice od dt.length cd] 57) = WB := ⟨_, rfl⟩
  have hmb : WB.heap[w.heap.size]? = some (.cells #[.int .u8 (k : Int), .int .i64 fr, .int .i64 tg, .int .u64 (tm : Int), .int .u64 (ix : Int), .int .u64 (lt : Int), .int .u64 (cm : Int), .bool ok, .slice oe es.length ce, .slice od dt.length cd] 57 (0, 0)) := by
    rw [← hWB]
    exact heap_alloc_new w _
  have hB1 : Below w.heap.size w WB := by
    rw [← hWB]
    exact (Below.refl _ _).alloc (Nat.le_refl _) _
  have hz1 : w.heap.size < WB.heap.size := by rw [← hWB]; simp
  have HMB := Lib.hid hmb
  have HB1 := Lib.hid hB1
  have HWB := Lib.hid hWB
  clear hmb hB1 hWB
  rcases ok with _ | _
  · as_aux_lemma =>
    rw [show okN ⟨k, fr, tg, tm, ix, lt, cm, false, es, dt⟩ = 0 from rfl] at HTT
    go_enter Try.func13, Try.ntmps13
    go_upto_region 1 with (fail)
    rw [HWB.out]
    generalize hmbe : w.heap.size = mb at *
    have HEB := Lib.hid hmbe
    clear HWB hmbe
    have d0 : IntKind.u64.wrap (k : Int) = (k : Int) := by rw [IntKind.wrap_u64]; omega
    have d1 : IntKind.u64.wrap (es.length : Int) = (es.length : Int) := by rw [IntKind.wrap_u64]; omega
    have g0 : WB.cell? ⟨mb, 0, none⟩ = some (.int .u8 (k : Int)) := cellk HMB.out rfl
    go_wp2_with fail
    refine (refuint (k : Int) _ (by omega) (by omega)).mono ?_
    rintro e W1 ⟨p1, rfl, ho, hb⟩
    simp only [Int.toNat_natCast] at ho
    obtain ⟨bs1, hbs⟩ : ∃ z, enc k = z := ⟨_, rfl⟩
    rw [hbs] at ho HTT
    have HB1' := HTT
    have hl1 := lenE HB1' HTL
    have HO1 := Lib.hid ho
    have HL1 := Lib.hid hb
    have hzb1 := hb.size
    have g1 : W1.cell? ⟨mb, 1, none⟩ = some (.int .i64 fr) := cellk ((HL1.out.block _ hz1).trans HMB.out) rfl
    clear ho hb hbs HTT g0
    dsimp only
    go_wp2_with fail
    refine (refint fr _ (by omega) (by omega)).mono ?_
    rintro e V ⟨v, rfl, ho, hb⟩
    try simp only [Int.toNat_natCast, Int.toNat_one, Int.toNat_zero] at ho
    obtain ⟨p2, W2, hrun, ho2, hb2, -⟩ := app_step HL1.out HO1.out (Rd.of_own ho) hb (by have := enc_le ((zig fr)); omega)
    have HB2' := stepE HB1'
    obtain ⟨bs2, hbs⟩ : ∃ z, bs1 ++ enc (zig fr) = z := ⟨_, rfl⟩
    rw [hbs] at ho2 HB2'
    have hl2 := lenE HB2' HTL
    have HO2 := Lib.hid ho2
    have HL2 := Lib.hid hb2
    have HRUN := Lib.hid hrun
    have hzb2 := hb2.size
    clear ho hb ho2 hb2 hrun hbs HB1' HO1 HL1
    try clear g1
    try clear g2
    try clear g3
    try clear g4
    try clear g5
    try clear g6
    try clear g7
    try clear g8
    have g2 : W2.cell? ⟨mb, 2, none⟩ = some (.int .i64 tg) := cellk ((HL2.out.block _ hz1).trans HMB.out) rfl
    dsimp only
    go_wp2_with (at_builtin; refine wpList_append_known rfl (.tmp 10) (.tmp 13) 35 35 (by rfl) _ _ _ (by rfl) (by rfl) HRUN.out ?_)
    clear HRUN
    refine (refint tg _ (by omega) (by omega)).mono ?_
    rintro e V ⟨v, rfl, ho, hb⟩
    try simp only [Int.toNat_natCast, Int.toNat_one, Int.toNat_zero] at ho
    obtain ⟨p3, W3, hrun, ho2, hb2, -⟩ := app_step HL2.out HO2.out (Rd.of_own ho) hb (by have := enc_le ((zig tg)); omega)
    have HB3' := stepE HB2'
    obtain ⟨bs3, hbs⟩ : ∃ z, bs2 ++ enc (zig tg) = z := ⟨_, rfl⟩
    rw [hbs] at ho2 HB3'
    have hl3 := lenE HB3' HTL
    have HO3 := Lib.hid ho2
    have HL3 := Lib.hid hb2
    have HRUN := Lib.hid hrun
    have hzb3 := hb2.size
    clear ho hb ho2 hb2 hrun hbs HB2' HO2 HL2
    try clear g1
    try clear g2
    try clear g3
    try clear g4
    try clear g5
    try clear g6
    try clear g7
    try clear g8
    have g3 : W3.cell? ⟨mb, 3, none⟩ = some (.int .u64 (tm : Int)) := cellk ((HL3.out.block _ hz1).trans HMB.out) rfl
    dsimp only
    go_wp2_with (at_builtin; refine wpList_append_known rfl (.tmp 15) (.tmp 18) 35 35 (by rfl) _ _ _ (by rfl) (by rfl) HRUN.out ?_)
    clear HRUN
    refine (refuint (tm : Int) _ (by omega) (by omega)).mono ?_
    rintro e V ⟨v, rfl, ho, hb⟩
    try simp only [Int.toNat_natCast] at ho
    obtain ⟨p4, W4, hrun, ho2, hb2, -⟩ := app_step HL3.out HO3.out (Rd.of_own ho) hb (by have := enc_le (tm); omega)
    have HB4' := stepE HB3'
    obtain ⟨bs4, hbs⟩ : ∃ z, bs3 ++ enc tm = z := ⟨_, rfl⟩
    rw [hbs] at ho2 HB4'
    have hl4 := lenE HB4' HTL
    have HO4 := Lib.hid ho2
    have HL4 := Lib.hid hb2
    have HRUN := Lib.hid hrun
    have hzb4 := hb2.size
    clear ho hb ho2 hb2 hrun hbs HB3' HO3 HL3
    try clear g1
    try clear g2
    try clear g3
    try clear g4
    try clear g5
    try clear g6
    try clear g7
    try clear g8
    have g4 : W4.cell? ⟨mb, 4, none⟩ = some (.int .u64 (ix : Int)) := cellk ((HL4.out.block _ hz1).trans HMB.out) rfl
    dsimp only
    go_wp2_with (at_builtin; refine wpList_append_known rfl (.tmp 20) (.tmp 23) 35 35 (by rfl) _ _ _ (by rfl) (by rfl) HRUN.out ?_)
    clear HRUN
    refine (refuint (ix : Int) _ (by omega) (by omega)).mono ?_
    rintro e V ⟨v, rfl, ho, hb⟩
    try simp only [Int.toNat_natCast] at ho
    obtain ⟨p5, W5, hrun, ho2, hb2, -⟩ := app_step HL4.out HO4.out (Rd.of_own ho) hb (by have := enc_le (ix); omega)
    have HB5' := stepE HB4'
    obtain ⟨bs5, hbs⟩ : ∃ z, bs4 ++ enc ix = z := ⟨_, rfl⟩
    rw [hbs] at ho2 HB5'
    have hl5 := lenE HB5' HTL
    have HO5 := Lib.hid ho2
    have HL5 := Lib.hid hb2
    have HRUN := Lib.hid hrun
    have hzb5 := hb2.size
    clear ho hb ho2 hb2 hrun hbs HB4' HO4 HL4
    try clear g1
    try clear g2
    try clear g3
    try clear g4
    try clear g5
    try clear g6
    try clear g7
    try clear g8
    have g5 : W5.cell? ⟨mb, 5, none⟩ = some (.int .u64 (lt : Int)) := cellk ((HL5.out.block _ hz1).trans HMB.out) rfl
    dsimp only
    go_wp2_with (at_builtin; refine wpList_append_known rfl (.tmp 25) (.tmp 28) 35 35 (by rfl) _ _ _ (by rfl) (by rfl) HRUN.out ?_)
    clear HRUN
    refine (refuint (lt : Int) _ (by omega) (by omega)).mono ?_
    rintro e V ⟨v, rfl, ho, hb⟩
    try simp only [Int.toNat_natCast] at ho
    obtain ⟨p6, W6, hrun, ho2, hb2, -⟩ := app_step HL5.out HO5.out (Rd.of_own ho) hb (by have := enc_le (lt); omega)
    have HB6' := stepE HB5'
    obtain ⟨bs6, hbs⟩ : ∃ z, bs5 ++ enc lt = z := ⟨_, rfl⟩
    rw [hbs] at ho2 HB6'
    have hl6 := lenE HB6' HTL
    have HO6 := Lib.hid ho2
    have HL6 := Lib.hid hb2
    have HRUN := Lib.hid hrun
    have hzb6 := hb2.size
    clear ho hb ho2 hb2 hrun hbs HB5' HO5 HL5
    try clear g1
    try clear g2
    try clear g3
    try clear g4
    try clear g5
    try clear g6
    try clear g7
    try clear g8
    have g6 : W6.cell? ⟨mb, 6, none⟩ = some (.int .u64 (cm : Int)) := cellk ((HL6.out.block _ hz1).trans HMB.out) rfl
    dsimp only
    go_wp2_with (at_builtin; refine wpList_append_known rfl (.tmp 30) (.tmp 33) 35 35 (by rfl) _ _ _ (by rfl) (by rfl) HRUN.out ?_)
    clear HRUN
    refine (refuint (cm : Int) _ (by omega) (by omega)).mono ?_
    rintro e V ⟨v, rfl, ho, hb⟩
    try simp only [Int.toNat_natCast] at ho
    obtain ⟨p7, W7, hrun, ho2, hb2, -⟩ := app_step HL6.out HO6.out (Rd.of_own ho) hb (by have := enc_le (cm); omega)
    have HB7' := stepE HB6'
    obtain ⟨bs7, hbs⟩ : ∃ z, bs6 ++ enc cm = z := ⟨_, rfl⟩
    rw [hbs] at ho2 HB7'
    have hl7 := lenE HB7' HTL
    have HO7 := Lib.hid ho2
    have HL7 := Lib.hid hb2
    have HRUN := Lib.hid hrun
    have hzb7 := hb2.size
    clear ho hb ho2 hb2 hrun hbs HB6' HO6 HL6
    try clear g1
    try clear g2
    try clear g3
    try clear g4
    try clear g5
    try clear g6
    try clear g7
    try clear g8
    have g7 : W7.cell? ⟨mb, 7, none⟩ = some (.bool false) := cellk ((HL7.out.block _ hz1).trans HMB.out) rfl
    dsimp only
    go_wp2_with (at_builtin; refine wpList_append_known rfl (.tmp 35) (.tmp 38) 35 35 (by rfl) _ _ _ (by rfl) (by rfl) HRUN.out ?_)
    clear HRUN
    refine (refuint 0 _ (by omega) (by omega)).mono ?_
    rintro e V ⟨v, rfl, ho, hb⟩
    try simp only [Int.toNat_zero] at ho
    obtain ⟨p8, W8, hrun, ho2, hb2, -⟩ := app_step HL7.out HO7.out (Rd.of_own ho) hb (by have := enc_le (0); omega)
    have HB8' := stepE HB7'
    obtain ⟨bs8, hbs⟩ : ∃ z, bs7 ++ enc 0 = z := ⟨_, rfl⟩
    rw [hbs] at ho2 HB8'
    have hl8 := lenE HB8' HTL
    have HO8 := Lib.hid ho2
    have HL8 := Lib.hid hb2
    have HRUN := Lib.hid hrun
    have hzb8 := hb2.size
    clear ho hb ho2 hb2 hrun hbs HB7' HO7 HL7
    try clear g1
    try clear g2
    try clear g3
    try clear g4
    try clear g5
    try clear g6
    try clear g7
    try clear g8
    have g8 : W8.cell? ⟨mb, 8, none⟩ = some (.slice oe es.length ce) := cellk ((HL8.out.block _ hz1).trans HMB.out) rfl
    dsimp only
    go_wp2_with (at_builtin; refine wpList_append_known rfl (.tmp 45) (.tmp 46) 35 35 (by rfl) _ _ _ (by rfl) (by rfl) HRUN.out ?_)
    clear HRUN
    refine (refuint (es.length : Int) _ (by omega) (by omega)).mono ?_
    rintro e V ⟨v, rfl, ho, hb⟩
    try simp only [Int.toNat_natCast] at ho
    obtain ⟨p9, W9, hrun, ho2, hb2, -⟩ := app_step HL8.out HO8.out (Rd.of_own ho) hb (by have := enc_le (es.length); omega)
    have HB9' := stepE HB8'
    obtain ⟨bs9, hbs⟩ : ∃ z, bs8 ++ enc es.length = z := ⟨_, rfl⟩
    rw [hbs] at ho2 HB9'
    have hl9 := lenE HB9' HTL
    have HO9 := Lib.hid ho2
    have HL9 := Lib.hid hb2
    have HRUN := Lib.hid hrun
    have hzb9 := hb2.size
    clear ho hb ho2 hb2 hrun hbs HB8' HO8 HL8
    try clear g1
    try clear g2
    try clear g3
    try clear g4
    try clear g5
    try clear g6
    try clear g7
    try clear g8
    have g8 : W9.cell? ⟨mb, 8, none⟩ = some (.slice oe es.length ce) := cellk ((HL9.out.block _ hz1).trans HMB.out) rfl
    dsimp only
    go_wp2_with (at_builtin; refine wpList_append_known rfl (.tmp 48) (.tmp 53) 35 35 (by rfl) _ _ _ (by rfl) (by rfl) HRUN.out ?_)
    clear HRUN
    try clear g8
    go_loopw [3, 4] (fun p i wr => ∃ (j : Nat) (pp : Value) (bs : List UInt8), pp = p ∧ j ≤ es.length ∧ i = .int .i64 (j : Int) ∧ Hid (Own wr WB.heap.size p bs) ∧ Hid (Below WB.heap.size WB wr) ∧ Hid (bs ++ (enEs (es.drop j) ++ encB dt) = TT)) (fun _ i _ => es.length - (intOf i).toNat)
    case atStart => exact ⟨0, _, bs9, rfl, by omega, rfl, HO9, HL9, HB9'⟩
    case round =>
      obtain ⟨j, pp, bs0, hpp, hj, rfl, HO0, HL0, HB⟩ := hrel
      subst hpp
      generalize wr = wi at *
      have hlow : ∀ p v, w.cell? p = some v → p.block < mb := fun p v h => by
        have h1 := World.block_lt_of_cell? w p h
        rw [HEB.out] at h1
        exact h1
      have hbw : Below mb w wi := HB1.out.trans (HL0.out.mono (Nat.le_of_lt hz1))
      have g8 : wi.cell? ⟨mb, 8, none⟩ = some (.slice oe es.length ce) := cellk ((HL0.out.block _ hz1).trans HMB.out) rfl
      by_cases hlt : j < es.length
      · have hx : es[j]? = some es[j] := List.getElem?_eq_getElem hlt
        obtain ⟨bb, off, hoe, hat⟩ := HALL.out j _ hx
        subst hoe
        have hxo := HOK.out es[j] (List.getElem_mem hlt)
        have hdr := enEs_drop hlt
        have hjI : (j : Int) < (es.length : Int) := by omega
        generalize es[j] = x at *
        obtain ⟨xt, xs, xn, xl⟩ := x
        obtain ⟨xv, z0, z1, z2, z3, hxr⟩ := hat
        dsimp only at z0 z1 z2 z3 hxr
        obtain ⟨ox, cx, rfl⟩ := (rd_form2 hxr)
        have y0 : wi.cell? ⟨bb, off + j * 4, none⟩ = some (.int .u64 (xt : Int)) := (hbw.cell (hlow _ _ z0)).trans z0
        have y1 : wi.cell? ⟨bb, off + j * 4 + 1, none⟩ = some (.int .u64 (xs : Int)) := (hbw.cell (hlow _ _ z1)).trans z1
        have y2 : wi.cell? ⟨bb, off + j * 4 + 2, none⟩ = some (.int .u64 (xn : Int)) := (hbw.cell (hlow _ _ z2)).trans z2
        have y3 : wi.cell? ⟨bb, off + j * 4 + 3, none⟩ = some (.slice ox xl.length cx) := (hbw.cell (hlow _ _ z3)).trans z3
        have ybl := World.block_lt_of_cell? wi _ y0
        simp only at ybl
        have HRB : Hid (∀ W, Below mb w W → Rd W (.slice ox xl.length cx) xl) := Lib.hid (fun W hb => hxr.below (by rw [HEB.out]; exact hb))
        have HB0' : Hid (bs0 ++ (enc xt ++ (enc xs ++ (enc xn ++ (encB xl ++ (enEs (es.drop (j + 1)) ++ encB dt))))) = TT) := Lib.hid (by
          have h5 := HB.out
          rw [hdr] at h5
          simpa [enE, List.append_assoc] using h5)
        obtain ⟨tmb, ssb, nmb, clb'⟩ := hxo
        dsimp only at tmb ssb nmb clb'
        have hl0 := lenE HB0' HTL
        have hWF := heap_alloc_new wi (.cells #[.int .u64 (xt : Int), .int .u64 (xs : Int), .int .u64 (xn : Int), .slice ox xl.length cx] 51)
        obtain ⟨wf, hwf⟩ : ∃ wf, wi.alloc (.cells #[.int .u64 (xt : Int), .int .u64 (xs : Int), .int .u64 (xn : Int), .slice ox xl.length cx] 51) = wf := ⟨_, rfl⟩
        have hba : Below wi.heap.size wi wf := by rw [← hwf]; exact (Below.refl _ _).alloc (Nat.le_refl _) _
        rw [hwf] at hWF
        have hfv0 : pp.ownBlock ≠ some wi.heap.size := fun h => by have := (HO0.out.lt _ h).2; omega
        have hzi := HL0.out.size
        have HO1 : Hid (Own wf WB.heap.size pp bs0) := Lib.hid (own_below HO0.out hba (Nat.le_refl _))
        have HL1 : Hid (Below WB.heap.size WB wf) := Lib.hid (HL0.out.trans (hba.mono hzi))
        have HX0 := Lib.hid hWF
        clear hx hdr z0 z1 z2 z3 hxr hba hWF HB hbw hlow HO0 HL0
        go_upto_region 16 with (fail)
        try rw [hwf]
        generalize wi.heap.size = xb at *
        clear hwf y0 y1 y2 y3 ybl g8
        have HO0 := HO1
        have HL0 := HL1
        clear HO1 HL1
        have g0 : wf.cell? ⟨xb, 0, none⟩ = some (.int .u64 (xt : Int)) := cellk HX0.out rfl
        obtain ⟨p0, hp0⟩ : ∃ z, pp = z := ⟨_, rfl⟩
        subst hp0
        go_wp2_with fail
        refine (refuint (xt : Int) _ (by omega) (by omega)).mono ?_
        rintro e V ⟨v, rfl, ho, hb⟩
        try simp only [Int.toNat_natCast] at ho
        obtain ⟨p1, V1, hrun, ho2, hb2, hoth⟩ := app_step HL0.out HO0.out (Rd.of_own ho) hb (by have := enc_le xt; omega)
        obtain ⟨hbox, hfv1⟩ := hoth _ _ HX0.out hfv0
        have HB1' := stepE HB0'
        obtain ⟨bs1, hbs⟩ : ∃ z, bs0 ++ enc xt = z := ⟨_, rfl⟩
        rw [hbs] at ho2 HB1'
        have hl1 := lenE HB1' HTL
        have HO1 := Lib.hid ho2
        have HL1 := Lib.hid hb2
        have HX1 := Lib.hid hbox
        have HRUN := Lib.hid hrun
        clear ho hb ho2 hb2 hrun hbs hoth hbox HB0' HO0 HL0
        try clear g0
        have g1 : V1.cell? ⟨xb, 1, none⟩ = some (.int .u64 (xs : Int)) := cellk HX1.out rfl
        dsimp only
        go_wp2_with (at_builtin; refine wpList_append_known rfl (.tmp 67) (.tmp 70) 35 35 (by rfl) _ _ _ (by rfl) (by rfl) HRUN.out ?_)
        clear HRUN
        refine (refuint (xs : Int) _ (by omega) (by omega)).mono ?_
        rintro e V ⟨v, rfl, ho, hb⟩
        try simp only [Int.toNat_natCast] at ho
        obtain ⟨p2, V2, hrun, ho2, hb2, hoth⟩ := app_step HL1.out HO1.out (Rd.of_own ho) hb (by have := enc_le xs; omega)
        obtain ⟨hbox, hfv2⟩ := hoth _ _ HX1.out hfv1
        have HB2' := stepE HB1'
        obtain ⟨bs2, hbs⟩ : ∃ z, bs1 ++ enc xs = z := ⟨_, rfl⟩
        rw [hbs] at ho2 HB2'
        have hl2 := lenE HB2' HTL
        have HO2 := Lib.hid ho2
        have HL2 := Lib.hid hb2
        have HX2 := Lib.hid hbox
        have HRUN := Lib.hid hrun
        clear ho hb ho2 hb2 hrun hbs hoth hbox HB1' HO1 HL1
        try clear g1
        have g2 : V2.cell? ⟨xb, 2, none⟩ = some (.int .u64 (xn : Int)) := cellk HX2.out rfl
        dsimp only
        go_wp2_with (at_builtin; refine wpList_append_known rfl (.tmp 72) (.tmp 75) 35 35 (by rfl) _ _ _ (by rfl) (by rfl) HRUN.out ?_)
        clear HRUN
        refine (refuint (xn : Int) _ (by omega) (by omega)).mono ?_
        rintro e V ⟨v, rfl, ho, hb⟩
        try simp only [Int.toNat_natCast] at ho
        obtain ⟨p3, V3, hrun, ho2, hb2, hoth⟩ := app_step HL2.out HO2.out (Rd.of_own ho) hb (by have := enc_le xn; omega)
        obtain ⟨hbox, hfv3⟩ := hoth _ _ HX2.out hfv2
        have HB3' := stepE HB2'
        obtain ⟨bs3, hbs⟩ : ∃ z, bs2 ++ enc xn = z := ⟨_, rfl⟩
        rw [hbs] at ho2 HB3'
        have hl3 := lenE HB3' HTL
        have HO3 := Lib.hid ho2
        have HL3 := Lib.hid hb2
        have HX3 := Lib.hid hbox
        have HRUN := Lib.hid hrun
        clear ho hb ho2 hb2 hrun hbs hoth hbox HB2' HO2 HL2
        try clear g2
        have g3 : V3.cell? ⟨xb, 3, none⟩ = some (.slice ox xl.length cx) := cellk HX3.out rfl
        dsimp only
        go_wp2_with (at_builtin; refine wpList_append_known rfl (.tmp 77) (.tmp 80) 35 35 (by rfl) _ _ _ (by rfl) (by rfl) HRUN.out ?_)
        clear HRUN
        refine (refbytes (.slice ox xl.length cx) xl _ (HRB.out _ (HB1.out.trans (HL3.out.mono (Nat.le_of_lt hz1)))) (by omega)).mono ?_
        rintro e V ⟨v, rfl, ho, hb⟩
        try simp only [Int.toNat_natCast] at ho
        obtain ⟨p4, V4, hrun, ho2, hb2, hoth⟩ := app_step HL3.out HO3.out (Rd.of_own ho) hb (by have := encB_le xl clb'; omega)
        obtain ⟨hbox, hfv4⟩ := hoth _ _ HX3.out hfv3
        have HB4' := stepE HB3'
        obtain ⟨bs4, hbs⟩ : ∃ z, bs3 ++ encB xl = z := ⟨_, rfl⟩
        rw [hbs] at ho2 HB4'
        have hl4 := lenE HB4' HTL
        have HO4 := Lib.hid ho2
        have HL4 := Lib.hid hb2
        have HX4 := Lib.hid hbox
        have HRUN := Lib.hid hrun
        clear ho hb ho2 hb2 hrun hbs hoth hbox HB3' HO3 HL3
        try clear g3
        dsimp only
        go_wp2_with (at_builtin; refine wpList_append_known rfl (.tmp 82) (.tmp 85) 35 35 (by rfl) _ _ _ (by rfl) (by rfl) HRUN.out ?_)
        clear HRUN
        go_roundw
        case rel => exact ⟨j + 1, _, bs4, rfl, by omega, by go_num, HO4, HL4, HB4'⟩
        case measure => simp [intOf]; omega
      · obtain rfl : j = es.length := by omega
        have hfin : bs0 ++ encB dt = TT := by
          have h5 := HB.out
          simpa [enEs] using h5
        have hl0 := lenE HB HTL
        have HFIN := Lib.hid hfin
        have hdl : dt.length ≤ 1048576 := hdt
        have g9 : wi.cell? ⟨mb, 9, none⟩ = some (.slice od dt.length cd) := cellk ((HL0.out.block _ hz1).trans HMB.out) rfl
        have hrb : Rd wi (.slice od dt.length cd) dt := HRD.out.below (by rw [HEB.out]; exact hbw)
        have HRB := Lib.hid hrb
        clear hfin hbw hlow HB hrb
        go_wp2_with fail
        refine (refbytes (.slice od dt.length cd) dt _ HRB.out (by omega)).mono ?_
        rintro e V ⟨v, rfl, ho, hb⟩
        obtain ⟨p1, V1, hrun, ho2, hb2, -⟩ := app_step HL0.out HO0.out (Rd.of_own ho) hb (by have := encB_le dt hdl; omega)
        rw [HFIN.out] at ho2
        have HO1 := Lib.hid ho2
        have HL1 := Lib.hid hb2
        have HRUN := Lib.hid hrun
        clear ho hb ho2 hb2 hrun g8 g9
        dsimp only
        go_wp2_with (at_builtin; refine wpList_append_known rfl (.tmp 87) (.tmp 90) 35 35 (by rfl) _ _ _ (by rfl) (by rfl) HRUN.out ?_)
        refine (refseal _ TT _ (Rd.of_own HO1.out) (by have := HTL.out; omega)).mono ?_
        rintro e V2 ⟨v2, rfl, ho3, hb3⟩
        have hz3 : mb ≤ V1.heap.size := by have := HL1.out.size; omega
        have HFo := Lib.hid (own_base ho3 hz3)
        have HFb : Hid (Below mb w V2) := Lib.hid ((HB1.out.trans (HL1.out.mono (Nat.le_of_lt hz1))).trans (hb3.mono hz3))
        clear ho3 hb3
        go_wp2_with fail
        go_ret
        exact ⟨v2, rfl, by first | exact HFo.out | (rw [HEB.out]; exact HFo.out), by rw [HEB.out]; exact HFb.out⟩
  · as_aux_lemma =>
    rw [show okN ⟨k, fr, tg, tm, ix, lt, cm, true, es, dt⟩ = 1 from rfl] at HTT
    go_enter Try.func13, Try.ntmps13
    go_upto_region 1 with (fail)
    rw [HWB.out]
    generalize hmbe : w.heap.size = mb at *
    have HEB := Lib.hid hmbe
    clear HWB hmbe
    have d0 : IntKind.u64.wrap (k : Int) = (k : Int) := by rw [IntKind.wrap_u64]; omega
    have d1 : IntKind.u64.wrap (es.length : Int) = (es.length : Int) := by rw [IntKind.wrap_u64]; omega
    have g0 : WB.cell? ⟨mb, 0, none⟩ = some (.int .u8 (k : Int)) := cellk HMB.out rfl
    go_wp2_with fail
    refine (refuint (k : Int) _ (by omega) (by omega)).mono ?_
    rintro e W1 ⟨p1, rfl, ho, hb⟩
    simp only [Int.toNat_natCast] at ho
    obtain ⟨bs1, hbs⟩ : ∃ z, enc k = z := ⟨_, rfl⟩
    rw [hbs] at ho HTT
    have HB1' := HTT
    have hl1 := lenE HB1' HTL
    have HO1 := Lib.hid ho
    have HL1 := Lib.hid hb
    have hzb1 := hb.size
    have g1 : W1.cell? ⟨mb, 1, none⟩ = some (.int .i64 fr) := cellk ((HL1.out.block _ hz1).trans HMB.out) rfl
    clear ho hb hbs HTT g0
    dsimp only
    go_wp2_with fail
    refine (refint fr _ (by omega) (by omega)).mono ?_
    rintro e V ⟨v, rfl, ho, hb⟩
    try simp only [Int.toNat_natCast, Int.toNat_one, Int.toNat_zero] at ho
    obtain ⟨p2, W2, hrun, ho2, hb2, -⟩ := app_step HL1.out HO1.out (Rd.of_own ho) hb (by have := enc_le ((zig fr)); omega)
    have HB2' := stepE HB1'
    obtain ⟨bs2, hbs⟩ : ∃ z, bs1 ++ enc (zig fr) = z := ⟨_, rfl⟩
    rw [hbs] at ho2 HB2'
    have hl2 := lenE HB2' HTL
    have HO2 := Lib.hid ho2
    have HL2 := Lib.hid hb2
    have HRUN := Lib.hid hrun
    have hzb2 := hb2.size
    clear ho hb ho2 hb2 hrun hbs HB1' HO1 HL1
    try clear g1
    try clear g2
    try clear g3
    try clear g4
    try clear g5
    try clear g6
    try clear g7
    try clear g8
    have g2 : W2.cell? ⟨mb, 2, none⟩ = some (.int .i64 tg) := cellk ((HL2.out.block _ hz1).trans HMB.out) rfl
    dsimp only
    go_wp2_with (at_builtin; refine wpList_append_known rfl (.tmp 10) (.tmp 13) 35 35 (by rfl) _ _ _ (by rfl) (by rfl) HRUN.out ?_)
    clear HRUN
    refine (refint tg _ (by omega) (by omega)).mono ?_
    rintro e V ⟨v, rfl, ho, hb⟩
    try simp only [Int.toNat_natCast, Int.toNat_one, Int.toNat_zero] at ho
    obtain ⟨p3, W3, hrun, ho2, hb2, -⟩ := app_step HL2.out HO2.out (Rd.of_own ho) hb (by have := enc_le ((zig tg)); omega)
    have HB3' := stepE HB2'
    obtain ⟨bs3, hbs⟩ : ∃ z, bs2 ++ enc (zig tg) = z := ⟨_, rfl⟩
    rw [hbs] at ho2 HB3'
    have hl3 := lenE HB3' HTL
    have HO3 := Lib.hid ho2
    have HL3 := Lib.hid hb2
    have HRUN := Lib.hid hrun
    have hzb3 := hb2.size
    clear ho hb ho2 hb2 hrun hbs HB2' HO2 HL2
    try clear g1
    try clear g2
    try clear g3
    try clear g4
    try clear g5
    try clear g6
    try clear g7
    try clear g8
    have g3 : W3.cell? ⟨mb, 3, none⟩ = some (.int .u64 (tm : Int)) := cellk ((HL3.out.block _ hz1).trans HMB.out) rfl
    dsimp only
    go_wp2_with (at_builtin; refine wpList_append_known rfl (.tmp 15) (.tmp 18) 35 35 (by rfl) _ _ _ (by rfl) (by rfl) HRUN.out ?_)
    clear HRUN
    refine (refuint (tm : Int) _ (by omega) (by omega)).mono ?_
    rintro e V ⟨v, rfl, ho, hb⟩
    try simp only [Int.toNat_natCast] at ho
    obtain ⟨p4, W4, hrun, ho2, hb2, -⟩ := app_step HL3.out HO3.out (Rd.of_own ho) hb (by have := enc_le (tm); omega)
    have HB4' := stepE HB3'
    obtain ⟨bs4, hbs⟩ : ∃ z, bs3 ++ enc tm = z := ⟨_, rfl⟩
    rw [hbs] at ho2 HB4'
    have hl4 := lenE HB4' HTL
    have HO4 := Lib.hid ho2
    have HL4 := Lib.hid hb2
    have HRUN := Lib.hid hrun
    have hzb4 := hb2.size
    clear ho hb ho2 hb2 hrun hbs HB3' HO3 HL3
    try clear g1
    try clear g2
    try clear g3
    try clear g4
    try clear g5
    try clear g6
    try clear g7
    try clear g8
    have g4 : W4.cell? ⟨mb, 4, none⟩ = some (.int .u64 (ix : Int)) := cellk ((HL4.out.block _ hz1).trans HMB.out) rfl
    dsimp only
    go_wp2_with (at_builtin; refine wpList_append_known rfl (.tmp 20) (.tmp 23) 35 35 (by rfl) _ _ _ (by rfl) (by rfl) HRUN.out ?_)
    clear HRUN
    refine (refuint (ix : Int) _ (by omega) (by omega)).mono ?_
    rintro e V ⟨v, rfl, ho, hb⟩
    try simp only [Int.toNat_natCast] at ho
    obtain ⟨p5, W5, hrun, ho2, hb2, -⟩ := app_step HL4.out HO4.out (Rd.of_own ho) hb (by have := enc_le (ix); omega)
    have HB5' := stepE HB4'
    obtain ⟨bs5, hbs⟩ : ∃ z, bs4 ++ enc ix = z := ⟨_, rfl⟩
    rw [hbs] at ho2 HB5'
    have hl5 := lenE HB5' HTL
    have HO5 := Lib.hid ho2
    have HL5 := Lib.hid hb2
    have HRUN := Lib.hid hrun
    have hzb5 := hb2.size
    clear ho hb ho2 hb2 hrun hbs HB4' HO4 HL4
    try clear g1
    try clear g2
    try clear g3
    try clear g4
    try clear g5
    try clear g6
    try clear g7
    try clear g8
    have g5 : W5.cell? ⟨mb, 5, none⟩ = some (.int .u64 (lt : Int)) := cellk ((HL5.out.block _ hz1).trans HMB.out) rfl
    dsimp only
    go_wp2_with (at_builtin; refine wpList_append_known rfl (.tmp 25) (.tmp 28) 35 35 (by rfl) _ _ _ (by rfl) (by rfl) HRUN.out ?_)
    clear HRUN
    refine (refuint (lt : Int) _ (by omega) (by omega)).mono ?_
    rintro e V ⟨v, rfl, ho, hb⟩
    try simp only [Int.toNat_natCast] at ho
    obtain ⟨p6, W6, hrun, ho2, hb2, -⟩ := app_step HL5.out HO5.out (Rd.of_own ho) hb (by have := enc_le (lt); omega)
    have HB6' := stepE HB5'
    obtain ⟨bs6, hbs⟩ : ∃ z, bs5 ++ enc lt = z := ⟨_, rfl⟩
    rw [hbs] at ho2 HB6'
    have hl6 := lenE HB6' HTL
    have HO6 := Lib.hid ho2
    have HL6 := Lib.hid hb2
    have HRUN := Lib.hid hrun
    have hzb6 := hb2.size
    clear ho hb ho2 hb2 hrun hbs HB5' HO5 HL5
    try clear g1
    try clear g2
    try clear g3
    try clear g4
    try clear g5
    try clear g6
    try clear g7
    try clear g8
    have g6 : W6.cell? ⟨mb, 6, none⟩ = some (.int .u64 (cm : Int)) := cellk ((HL6.out.block _ hz1).trans HMB.out) rfl
    dsimp only
    go_wp2_with (at_builtin; refine wpList_append_known rfl (.tmp 30) (.tmp 33) 35 35 (by rfl) _ _ _ (by rfl) (by rfl) HRUN.out ?_)
    clear HRUN
    refine (refuint (cm : Int) _ (by omega) (by omega)).mono ?_
    rintro e V ⟨v, rfl, ho, hb⟩
    try simp only [Int.toNat_natCast] at ho
    obtain ⟨p7, W7, hrun, ho2, hb2, -⟩ := app_step HL6.out HO6.out (Rd.of_own ho) hb (by have := enc_le (cm); omega)
    have HB7' := stepE HB6'
    obtain ⟨bs7, hbs⟩ : ∃ z, bs6 ++ enc cm = z := ⟨_, rfl⟩
    rw [hbs] at ho2 HB7'
    have hl7 := lenE HB7' HTL
    have HO7 := Lib.hid ho2
    have HL7 := Lib.hid hb2
    have HRUN := Lib.hid hrun
    have hzb7 := hb2.size
    clear ho hb ho2 hb2 hrun hbs HB6' HO6 HL6
    try clear g1
    try clear g2
    try clear g3
    try clear g4
    try clear g5
    try clear g6
    try clear g7
    try clear g8
    have g7 : W7.cell? ⟨mb, 7, none⟩ = some (.bool true) := cellk ((HL7.out.block _ hz1).trans HMB.out) rfl
    dsimp only
    go_wp2_with (at_builtin; refine wpList_append_known rfl (.tmp 35) (.tmp 38) 35 35 (by rfl) _ _ _ (by rfl) (by rfl) HRUN.out ?_)
    clear HRUN
    refine (refuint 1 _ (by omega) (by omega)).mono ?_
    rintro e V ⟨v, rfl, ho, hb⟩
    try simp only [Int.toNat_one] at ho
    obtain ⟨p8, W8, hrun, ho2, hb2, -⟩ := app_step HL7.out HO7.out (Rd.of_own ho) hb (by have := enc_le (1); omega)
    have HB8' := stepE HB7'
    obtain ⟨bs8, hbs⟩ : ∃ z, bs7 ++ enc 1 = z := ⟨_, rfl⟩
    rw [hbs] at ho2 HB8'
    have hl8 := lenE HB8' HTL
    have HO8 := Lib.hid ho2
    have HL8 := Lib.hid hb2
    have HRUN := Lib.hid hrun
    have hzb8 := hb2.size
    clear ho hb ho2 hb2 hrun hbs HB7' HO7 HL7
    try clear g1
    try clear g2
    try clear g3
    try clear g4
    try clear g5
    try clear g6
    try clear g7
    try clear g8
    have g8 : W8.cell? ⟨mb, 8, none⟩ = some (.slice oe es.length ce) := cellk ((HL8.out.block _ hz1).trans HMB.out) rfl
    dsimp only
    go_wp2_with (at_builtin; refine wpList_append_known rfl (.tmp 42) (.tmp 43) 35 35 (by rfl) _ _ _ (by rfl) (by rfl) HRUN.out ?_)
    clear HRUN
    refine (refuint (es.length : Int) _ (by omega) (by omega)).mono ?_
    rintro e V ⟨v, rfl, ho, hb⟩
    try simp only [Int.toNat_natCast] at ho
    obtain ⟨p9, W9, hrun, ho2, hb2, -⟩ := app_step HL8.out HO8.out (Rd.of_own ho) hb (by have := enc_le (es.length); omega)
    have HB9' := stepE HB8'
    obtain ⟨bs9, hbs⟩ : ∃ z, bs8 ++ enc es.length = z := ⟨_, rfl⟩
    rw [hbs] at ho2 HB9'
    have hl9 := lenE HB9' HTL
    have HO9 := Lib.hid ho2
    have HL9 := Lib.hid hb2
    have HRUN := Lib.hid hrun
    have hzb9 := hb2.size
    clear ho hb ho2 hb2 hrun hbs HB8' HO8 HL8
    try clear g1
    try clear g2
    try clear g3
    try clear g4
    try clear g5
    try clear g6
    try clear g7
    try clear g8
    have g8 : W9.cell? ⟨mb, 8, none⟩ = some (.slice oe es.length ce) := cellk ((HL9.out.block _ hz1).trans HMB.out) rfl
    dsimp only
    go_wp2_with (at_builtin; refine wpList_append_known rfl (.tmp 48) (.tmp 53) 35 35 (by rfl) _ _ _ (by rfl) (by rfl) HRUN.out ?_)
    clear HRUN
    try clear g8
    go_loopw [3, 4] (fun p i wr => ∃ (j : Nat) (pp : Value) (bs : List UInt8), pp = p ∧ j ≤ es.length ∧ i = .int .i64 (j : Int) ∧ Hid (Own wr WB.heap.size p bs) ∧ Hid (Below WB.heap.size WB wr) ∧ Hid (bs ++ (enEs (es.drop j) ++ encB dt) = TT)) (fun _ i _ => es.length - (intOf i).toNat)
    case atStart => exact ⟨0, _, bs9, rfl, by omega, rfl, HO9, HL9, HB9'⟩
    case round =>
      obtain ⟨j, pp, bs0, hpp, hj, rfl, HO0, HL0, HB⟩ := hrel
      subst hpp
      generalize wr = wi at *
      have hlow : ∀ p v, w.cell? p = some v → p.block < mb := fun p v h => by
        have h1 := World.block_lt_of_cell? w p h
        rw [HEB.out] at h1
        exact h1
      have hbw : Below mb w wi := HB1.out.trans (HL0.out.mono (Nat.le_of_lt hz1))
      have g8 : wi.cell? ⟨mb, 8, none⟩ = some (.slice oe es.length ce) := cellk ((HL0.out.block _ hz1).trans HMB.out) rfl
      by_cases hlt : j < es.length
      · have hx : es[j]? = some es[j] := List.getElem?_eq_getElem hlt
        obtain ⟨bb, off, hoe, hat⟩ := HALL.out j _ hx
        subst hoe
        have hxo := HOK.out es[j] (List.getElem_mem hlt)
        have hdr := enEs_drop hlt
        have hjI : (j : Int) < (es.length : Int) := by omega
        generalize es[j] = x at *
        obtain ⟨xt, xs, xn, xl⟩ := x
        obtain ⟨xv, z0, z1, z2, z3, hxr⟩ := hat
        dsimp only at z0 z1 z2 z3 hxr
        obtain ⟨ox, cx, rfl⟩ := (rd_form2 hxr)
        have y0 : wi.cell? ⟨bb, off + j * 4, none⟩ = some (.int .u64 (xt : Int)) := (hbw.cell (hlow _ _ z0)).trans z0
        have y1 : wi.cell? ⟨bb, off + j * 4 + 1, none⟩ = some (.int .u64 (xs : Int)) := (hbw.cell (hlow _ _ z1)).trans z1
        have y2 : wi.cell? ⟨bb, off + j * 4 + 2, none⟩ = some (.int .u64 (xn : Int)) := (hbw.cell (hlow _ _ z2)).trans z2
        have y3 : wi.cell? ⟨bb, off + j * 4 + 3, none⟩ = some (.slice ox xl.length cx) := (hbw.cell (hlow _ _ z3)).trans z3
        have ybl := World.block_lt_of_cell? wi _ y0
        simp only at ybl
        have HRB : Hid (∀ W, Below mb w W → Rd W (.slice ox xl.length cx) xl) := Lib.hid (fun W hb => hxr.below (by rw [HEB.out]; exact hb))
        have HB0' : Hid (bs0 ++ (enc xt ++ (enc xs ++ (enc xn ++ (encB xl ++ (enEs (es.drop (j + 1)) ++ encB dt))))) = TT) := Lib.hid (by
          have h5 := HB.out
          rw [hdr] at h5
          simpa [enE, List.append_assoc] using h5)
        obtain ⟨tmb, ssb, nmb, clb'⟩ := hxo
        dsimp only at tmb ssb nmb clb'
        have hl0 := lenE HB0' HTL
        have hWF := heap_alloc_new wi (.cells #[.int .u64 (xt : Int), .int .u64 (xs : Int), .int .u64 (xn : Int), .slice ox xl.length cx] 51)
        obtain ⟨wf, hwf⟩ : ∃ wf, wi.alloc (.cells #[.int .u64 (xt : Int), .int .u64 (xs : Int), .int .u64 (xn : Int), .slice ox xl.length cx] 51) = wf := ⟨_, rfl⟩
        have hba : Below wi.heap.size wi wf := by rw [← hwf]; exact (Below.refl _ _).alloc (Nat.le_refl _) _
        rw [hwf] at hWF
        have hfv0 : pp.ownBlock ≠ some wi.heap.size := fun h => by have := (HO0.out.lt _ h).2; omega
        have hzi := HL0.out.size
        have HO1 : Hid (Own wf WB.heap.size pp bs0) := Lib.hid (own_below HO0.out hba (Nat.le_refl _))
        have HL1 : Hid (Below WB.heap.size WB wf) := Lib.hid (HL0.out.trans (hba.mono hzi))
        have HX0 := Lib.hid hWF
        clear hx hdr z0 z1 z2 z3 hxr hba hWF HB hbw hlow HO0 HL0
        go_upto_region 16 with (fail)
        try rw [hwf]
        generalize wi.heap.size = xb at *
        clear hwf y0 y1 y2 y3 ybl g8
        have HO0 := HO1
        have HL0 := HL1
        clear HO1 HL1
        have g0 : wf.cell? ⟨xb, 0, none⟩ = some (.int .u64 (xt : Int)) := cellk HX0.out rfl
        obtain ⟨p0, hp0⟩ : ∃ z, pp = z := ⟨_, rfl⟩
        subst hp0
        go_wp2_with fail
        refine (refuint (xt : Int) _ (by omega) (by omega)).mono ?_
        rintro e V ⟨v, rfl, ho, hb⟩
        try simp only [Int.toNat_natCast] at ho
        obtain ⟨p1, V1, hrun, ho2, hb2, hoth⟩ := app_step HL0.out HO0.out (Rd.of_own ho) hb (by have := enc_le xt; omega)
        obtain ⟨hbox, hfv1⟩ := hoth _ _ HX0.out hfv0
        have HB1' := stepE HB0'
        obtain ⟨bs1, hbs⟩ : ∃ z, bs0 ++ enc xt = z := ⟨_, rfl⟩
        rw [hbs] at ho2 HB1'
        have hl1 := lenE HB1' HTL
        have HO1 := Lib.hid ho2
        have HL1 := Lib.hid hb2
        have HX1 := Lib.hid hbox
        have HRUN := Lib.hid hrun
        clear ho hb ho2 hb2 hrun hbs hoth hbox HB0' HO0 HL0
        try clear g0
        have g1 : V1.cell? ⟨xb, 1, none⟩ = some (.int .u64 (xs : Int)) := cellk HX1.out rfl
        dsimp only
        go_wp2_with (at_builtin; refine wpList_append_known rfl (.tmp 67) (.tmp 70) 35 35 (by rfl) _ _ _ (by rfl) (by rfl) HRUN.out ?_)
        clear HRUN
        refine (refuint (xs : Int) _ (by omega) (by omega)).mono ?_
        rintro e V ⟨v, rfl, ho, hb⟩
        try simp only [Int.toNat_natCast] at ho
        obtain ⟨p2, V2, hrun, ho2, hb2, hoth⟩ := app_step HL1.out HO1.out (Rd.of_own ho) hb (by have := enc_le xs; omega)
        obtain ⟨hbox, hfv2⟩ := hoth _ _ HX1.out hfv1
        have HB2' := stepE HB1'
        obtain ⟨bs2, hbs⟩ : ∃ z, bs1 ++ enc xs = z := ⟨_, rfl⟩
        rw [hbs] at ho2 HB2'
        have hl2 := lenE HB2' HTL
        have HO2 := Lib.hid ho2
        have HL2 := Lib.hid hb2
        have HX2 := Lib.hid hbox
        have HRUN := Lib.hid hrun
        clear ho hb ho2 hb2 hrun hbs hoth hbox HB1' HO1 HL1
        try clear g1
        have g2 : V2.cell? ⟨xb, 2, none⟩ = some (.int .u64 (xn : Int)) := cellk HX2.out rfl
        dsimp only
        go_wp2_with (at_builtin; refine wpList_append_known rfl (.tmp 72) (.tmp 75) 35 35 (by rfl) _ _ _ (by rfl) (by rfl) HRUN.out ?_)
        clear HRUN
        refine (refuint (xn : Int) _ (by omega) (by omega)).mono ?_
        rintro e V ⟨v, rfl, ho, hb⟩
        try simp only [Int.toNat_natCast] at ho
        obtain ⟨p3, V3, hrun, ho2, hb2, hoth⟩ := app_step HL2.out HO2.out (Rd.of_own ho) hb (by have := enc_le xn; omega)
        obtain ⟨hbox, hfv3⟩ := hoth _ _ HX2.out hfv2
        have HB3' := stepE HB2'
        obtain ⟨bs3, hbs⟩ : ∃ z, bs2 ++ enc xn = z := ⟨_, rfl⟩
        rw [hbs] at ho2 HB3'
        have hl3 := lenE HB3' HTL
        have HO3 := Lib.hid ho2
        have HL3 := Lib.hid hb2
        have HX3 := Lib.hid hbox
        have HRUN := Lib.hid hrun
        clear ho hb ho2 hb2 hrun hbs hoth hbox HB2' HO2 HL2
        try clear g2
        have g3 : V3.cell? ⟨xb, 3, none⟩ = some (.slice ox xl.length cx) := cellk HX3.out rfl
        dsimp only
        go_wp2_with (at_builtin; refine wpList_append_known rfl (.tmp 77) (.tmp 80) 35 35 (by rfl) _ _ _ (by rfl) (by rfl) HRUN.out ?_)
        clear HRUN
        refine (refbytes (.slice ox xl.length cx) xl _ (HRB.out _ (HB1.out.trans (HL3.out.mono (Nat.le_of_lt hz1)))) (by omega)).mono ?_
        rintro e V ⟨v, rfl, ho, hb⟩
        try simp only [Int.toNat_natCast] at ho
        obtain ⟨p4, V4, hrun, ho2, hb2, hoth⟩ := app_step HL3.out HO3.out (Rd.of_own ho) hb (by have := encB_le xl clb'; omega)
        obtain ⟨hbox, hfv4⟩ := hoth _ _ HX3.out hfv3
        have HB4' := stepE HB3'
        obtain ⟨bs4, hbs⟩ : ∃ z, bs3 ++ encB xl = z := ⟨_, rfl⟩
        rw [hbs] at ho2 HB4'
        have hl4 := lenE HB4' HTL
        have HO4 := Lib.hid ho2
        have HL4 := Lib.hid hb2
        have HX4 := Lib.hid hbox
        have HRUN := Lib.hid hrun
        clear ho hb ho2 hb2 hrun hbs hoth hbox HB3' HO3 HL3
        try clear g3
        dsimp only
        go_wp2_with (at_builtin; refine wpList_append_known rfl (.tmp 82) (.tmp 85) 35 35 (by rfl) _ _ _ (by rfl) (by rfl) HRUN.out ?_)
        clear HRUN
        go_roundw
        case rel => exact ⟨j + 1, _, bs4, rfl, by omega, by go_num, HO4, HL4, HB4'⟩
        case measure => simp [intOf]; omega
      · obtain rfl : j = es.length := by omega
        have hfin : bs0 ++ encB dt = TT := by
          have h5 := HB.out
          simpa [enEs] using h5
        have hl0 := lenE HB HTL
        have HFIN := Lib.hid hfin
        have hdl : dt.length ≤ 1048576 := hdt
        have g9 : wi.cell? ⟨mb, 9, none⟩ = some (.slice od dt.length cd) := cellk ((HL0.out.block _ hz1).trans HMB.out) rfl
        have hrb : Rd wi (.slice od dt.length cd) dt := HRD.out.below (by rw [HEB.out]; exact hbw)
        have HRB := Lib.hid hrb
        clear hfin hbw hlow HB hrb
        go_wp2_with fail
        refine (refbytes (.slice od dt.length cd) dt _ HRB.out (by omega)).mono ?_
        rintro e V ⟨v, rfl, ho, hb⟩
        obtain ⟨p1, V1, hrun, ho2, hb2, -⟩ := app_step HL0.out HO0.out (Rd.of_own ho) hb (by have := encB_le dt hdl; omega)
        rw [HFIN.out] at ho2
        have HO1 := Lib.hid ho2
        have HL1 := Lib.hid hb2
        have HRUN := Lib.hid hrun
        clear ho hb ho2 hb2 hrun g8 g9
        dsimp only
        go_wp2_with (at_builtin; refine wpList_append_known rfl (.tmp 87) (.tmp 90) 35 35 (by rfl) _ _ _ (by rfl) (by rfl) HRUN.out ?_)
        refine (refseal _ TT _ (Rd.of_own HO1.out) (by have := HTL.out; omega)).mono ?_
        rintro e V2 ⟨v2, rfl, ho3, hb3⟩
        have hz3 : mb ≤ V1.heap.size := by have := HL1.out.size; omega
        have HFo := Lib.hid (own_base ho3 hz3)
        have HFb : Hid (Below mb w V2) := Lib.hid ((HB1.out.trans (HL1.out.mono (Nat.le_of_lt hz1))).trans (hb3.mono hz3))
        clear ho3 hb3
        go_wp2_with fail
        go_ret
        exact ⟨v2, rfl, by first | exact HFo.out | (rw [HEB.out]; exact HFo.out), by rw [HEB.out]; exact HFb.out⟩
end Go.Proofs.Ytjbailnnaigjbaa
