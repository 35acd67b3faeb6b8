/- The law of messages as bytes: BallotCodes. -/
import Derived.Test.YtjbailnnaigjbaaBnC
import Derived.Test.YtjbailnnaigjbaaBmF
import Derived.Test.YtjbailnnaigjbaaBalM
import Derived.Deep.RegionHeld3
import Derived.OrdersHeld
namespace Go.Proofs.Ytjbailnnaigjbaa
open Go.RowKit OctM

/-- What the types say of a message's numbers. -/
structure EnT (x : En) : Prop where
  tm : x.tm < 18446744073709551616
  ss : x.ss < 18446744073709551616
  nm : x.nm < 18446744073709551616
structure OkT (m : Mg) : Prop where
  k : m.k ≤ 255
  fr0 : -9223372036854775808 ≤ m.fr
  fr1 : m.fr ≤ 9223372036854775807
  tg0 : -9223372036854775808 ≤ m.tg
  tg1 : m.tg ≤ 9223372036854775807
  tm : m.tm < 18446744073709551616
  ix : m.ix < 18446744073709551616
  lt : m.lt < 18446744073709551616
  cm : m.cm < 18446744073709551616
  all : ∀ x ∈ m.es, EnT x

theorem enEs_len : ∀ (es : List En), (∀ x ∈ es, x.cl.length ≤ 4000) → (enEs es).length ≤ es.length * 4040
  | [], _ => Nat.le_refl _
  | x :: es, h => by
    have ih := enEs_len es (fun y hy => h y (List.mem_cons_of_mem _ hy))
    have h1 := enc_le x.tm
    have h2 := enc_le x.ss
    have h3 := enc_le x.nm
    have h4 := encB_le x.cl (h x List.mem_cons_self)
    simp only [enEs, enE, List.length_append, List.length_cons]
    omega
theorem encI_len (m : Mg) (h1 : m.es.length ≤ 50) (h2 : ∀ x ∈ m.es, x.cl.length ≤ 4000) (h3 : m.dt.length ≤ 5000) : (encI m).length ≤ 300000 := by
  have he := enEs_len m.es h2
  have hd := encB_le m.dt h3
  have a1 := enc_le m.k
  have a2 := enc_le (zig m.fr)
  have a3 := enc_le (zig m.tg)
  have a4 := enc_le m.tm
  have a5 := enc_le m.ix
  have a6 := enc_le m.lt
  have a7 := enc_le m.cm
  have a8 := enc_le (okN m)
  have a9 := enc_le m.es.length
  simp only [encI, List.length_append]
  omega
theorem okM_of {m : Mg} (h : OkT m) (h1 : m.es.length ≤ 50) (h2 : ∀ x ∈ m.es, x.cl.length ≤ 4000) (h3 : m.dt.length ≤ 5000) : OkM m := by
  have z1 := zig_le m.fr h.fr0 h.fr1
  have z2 := zig_le m.tg h.tg0 h.tg1
  exact ⟨h.k, by omega, by omega, h.tm, h.ix, h.lt, h.cm, by omega, fun x hx => ⟨(h.all x hx).tm, (h.all x hx).ss, (h.all x hx).nm, h2 x hx⟩, by omega⟩

set_option maxHeartbeats 4000000 in
set_option maxRecDepth 100000 in
theorem msg_any (M : Mg) (oe : Option Addr) (ne ce : Nat) (od : Option Addr) (nd cd : Nat) (w : World) :
    Calls Try.prog 14 #[mgV M (.slice oe ne ce) (.slice od nd cd)] w fun e w' => e = .returned (mgV M (.slice oe ne ce) (.slice od nd cd)) ∧ Below w.heap.size w w' := by
  obtain ⟨k, fr, tg, tm, ix, lt, cm, ok, es, dt⟩ := M
  unfold mgV
  dsimp only
  go_enter Try.func14, Try.ntmps14
  go_wp2_with fail
  refine bodyPost_ret (v := .agg #[.int .u8 (k : Int), .int .i64 fr, .int .i64 tg, .int .u64 (tm : Int), .int .u64 (ix : Int), .int .u64 (lt : Int), .int .u64 (cm : Int), .bool ok, .slice oe ne ce, .slice od nd cd]) (by simp [results, Try.results14, go_sem]) rfl ⟨rfl, ?_⟩
  exact ((Below.refl _ _).alloc (Nat.le_refl _) _).alloc (by simp) _

set_option maxHeartbeats 8000000 in
set_option maxRecDepth 100000 in
theorem bcodes_walk (M : Mg) (ve vd : Value) (w : World) (hre : RE w ve M.es) (hrd : Rd w vd M.dt) (hT : OkT M) :
    Calls Try.prog 4 #[mgV M ve vd] w fun e w' => e = .returned (.bool true) ∧ Below w.heap.size w w' := by
  obtain ⟨od, cd, hvd⟩ := hrd.form
  have HRE := Lib.hid hre
  obtain ⟨oe, ce, hve, hall⟩ := hre
  subst hvd hve
  have HRD := Lib.hid hrd
  have HALL := Lib.hid hall
  have HT := Lib.hid hT
  clear hrd hall hT
  obtain ⟨k, fr, tg, tm, ix, lt, cm, ok, es, dt⟩ := M
  dsimp only at *
  unfold mgV
  dsimp only
  obtain ⟨W0, hW0⟩ : ∃ W0, w.alloc (.cells #[.int .u8 (k : Int), .int .i64 fr, .int .i64 tg, .int .u64 (tm : Int), .int .u64 (ix : Int), .int .u64 (lt : Int), .int .u64 (cm : Int), .bool ok, .slice oe es.length ce, .slice od dt.length cd] 49) = W0 := ⟨_, rfl⟩
  have hmb : W0.heap[w.heap.size]? = some (.cells #[.int .u8 (k : Int), .int .i64 fr, .int .i64 tg, .int .u64 (tm : Int), .int .u64 (ix : Int), .int .u64 (lt : Int), .int .u64 (cm : Int), .bool ok, .slice oe es.length ce, .slice od dt.length cd] 49 (0, 0)) := by rw [← hW0]; exact heap_alloc_new w _
  have hB0 : Below w.heap.size w W0 := by rw [← hW0]; exact (Below.refl _ _).alloc (Nat.le_refl _) _
  have hz0 : w.heap.size < W0.heap.size := by rw [← hW0]; simp
  have HMB := Lib.hid hmb
  have HB0 := Lib.hid hB0
  have HW0 := Lib.hid hW0
  clear hmb hB0 hW0
  go_enter Try.func4, Try.ntmps4
  go_upto_region 1 with (fail)
  rw [HW0.out]
  go_wp2_with fail
  refine (bawake _).mono ?_
  rintro e W1 ⟨rfl, hb1⟩
  have g8 : W1.cell? ⟨w.heap.size, 8, none⟩ = some (.slice oe es.length ce) := cellk ((hb1.block _ hz0).trans HMB.out) rfl
  have g9 : W1.cell? ⟨w.heap.size, 9, none⟩ = some (.slice od dt.length cd) := cellk ((hb1.block _ hz0).trans HMB.out) rfl
  have hM1 := (hb1.block _ hz0).trans HMB.out
  have hz1 : w.heap.size < W1.heap.size := lt_of_block hM1
  have HM1 := Lib.hid hM1
  have HB1 := Lib.hid (HB0.out.trans (hb1.mono HB0.out.size))
  clear hb1 hM1 HW0 HB0 HMB hz0
  by_cases hlong : 50 < es.length
  · as_aux_lemma =>
    have hlI : decide ((50 : Int) < (es.length : Int)) = true := by simp; omega
    clear hlong
    go_wp2_with fail
    refine (bawake _).mono ?_
    rintro e w2 ⟨rfl, hb2⟩
    have HB2 := Lib.hid (HB1.out.trans (hb2.mono HB1.out.size))
    clear hb2
    go_wp2_with fail
    go_ret
    exact ⟨rfl, HB2.out⟩
  have hlI : decide ((50 : Int) < (es.length : Int)) = false := by simp; omega
  have hl50 : es.length ≤ 50 := by omega
  have HL50 := Lib.hid hl50
  clear hlong
  by_cases hlong : 5000 < dt.length
  · as_aux_lemma =>
    have hlD : decide ((5000 : Int) < (dt.length : Int)) = true := by simp; omega
    clear hlong hl50
    go_wp2_with fail
    refine (bawake _).mono ?_
    rintro e w2 ⟨rfl, hb2⟩
    have HB2 := Lib.hid (HB1.out.trans (hb2.mono HB1.out.size))
    clear hb2
    go_wp2_with fail
    go_ret
    exact ⟨rfl, HB2.out⟩
  have hlD : decide ((5000 : Int) < (dt.length : Int)) = false := by simp; omega
  have HLD : Hid (dt.length ≤ 5000) := by show dt.length ≤ 5000; omega
  have hle : (es.length : Int) ≤ 50 := by omega
  clear hlong hl50
  go_wp2_with fail
  go_loopw [3] (fun i wr => ∃ (j : Nat), j ≤ es.length ∧ i = .int .i64 (j : Int) ∧ wr = W1 ∧ Hid (∀ x ∈ es.take j, x.cl.length ≤ 4000)) (fun i _ => es.length - (intOf i).toNat)
  case atStart => exact ⟨0, by omega, rfl, rfl, by simp [Hid]⟩
  case round =>
    obtain ⟨j, hj, rfl, rfl, HP⟩ := hrel
    by_cases hlt : j < es.length
    · as_aux_lemma =>
      have hx : es[j]? = some es[j] := List.getElem?_eq_getElem hlt
      have HTK := Lib.hid (List.take_succ_eq_append_getElem hlt)
      obtain ⟨bb, off, hoe, hat⟩ := HALL.out j _ hx
      subst hoe
      have hjI : (j : Int) < (es.length : Int) := by omega
      generalize es[j] = x at *
      obtain ⟨xt, xs, xn, xl⟩ := x
      obtain ⟨xv, z0, z1, z2, z3, hxr⟩ := hat
      dsimp only at z0 z1 z2 z3 hxr
      obtain ⟨ox, cx, rfl⟩ := hxr.form
      have y3 : wr.cell? ⟨bb, off + j * 4 + 3, none⟩ = some (.slice ox xl.length cx) := (HB1.out.cell (World.block_lt_of_cell? w _ z3)).trans z3
      clear hx z0 z1 z2 z3 hxr
      by_cases hc : 4000 < xl.length
      · have hcI : (4000 : Int) < (xl.length : Int) := by omega
        have hcd : decide ((4000 : Int) < (xl.length : Int)) = true := by rw [decide_eq_true_eq]; exact hcI
        clear hc
        go_wp2_with fail
        go_ret
        exact ⟨rfl, HB1.out⟩
      · have hcI : ¬ (4000 : Int) < (xl.length : Int) := by omega
        have hcd : decide ((4000 : Int) < (xl.length : Int)) = false := by rw [decide_eq_false_iff_not]; exact hcI
        have HC : Hid (xl.length ≤ 4000) := by show xl.length ≤ 4000; omega
        clear hc
        have HP2 : Hid (∀ x ∈ es.take (j + 1), x.cl.length ≤ 4000) := by
          intro g hg
          rw [HTK.out, List.mem_append, List.mem_singleton] at hg
          rcases hg with hg | rfl
          · exact HP.out g hg
          · exact HC.out
        go_wp2_with fail
        go_roundw
        case rel => exact ⟨j + 1, by omega, by go_num, by first | rfl | trivial, HP2⟩
        case measure => simp [intOf]; omega
    · as_aux_lemma =>
      obtain rfl : j = es.length := by omega
      have hcl : ∀ x ∈ es, x.cl.length ≤ 4000 := by
        have := HP.out
        rw [List.take_of_length_le (Nat.le_refl _)] at this
        exact this
      have hle2 := encI_len ⟨k, fr, tg, tm, ix, lt, cm, ok, es, dt⟩ HL50.out hcl HLD.out
      have HOK := Lib.hid (okM_of HT.out HL50.out hcl HLD.out)
      have hrem : Hid (∃ M : Mg, M = ⟨k, fr, tg, tm, ix, lt, cm, ok, es, dt⟩) := ⟨_, rfl⟩
      have HEN := Lib.hid (bencode ⟨k, fr, tg, tm, ix, lt, cm, ok, es, dt⟩ (.slice oe es.length ce) (.slice od dt.length cd) wr (HRE.out.below HB1.out) (HRD.out.below HB1.out) HOK.out (by omega))
      have HRN : Hid (∀ W, Below wr.heap.size wr W → Calls Try.prog 13 #[mgV ⟨k, fr, tg, tm, ix, lt, cm, ok, es, dt⟩ (.slice oe es.length ce) (.slice od dt.length cd)] W fun e w' => ∃ v, e = .returned v ∧ Own w' W.heap.size v (encM ⟨k, fr, tg, tm, ix, lt, cm, ok, es, dt⟩) ∧ Below W.heap.size W w') :=
        Lib.hid (fun W hb => rmencode ⟨k, fr, tg, tm, ix, lt, cm, ok, es, dt⟩ (.slice oe es.length ce) (.slice od dt.length cd) W ((HRE.out.below HB1.out).below hb) ((HRD.out.below HB1.out).below hb) HOK.out (by omega))
      have HDE := Lib.hid (decM_enc ⟨k, fr, tg, tm, ix, lt, cm, ok, es, dt⟩ HOK.out)
      have HLB : Hid ((encM ⟨k, fr, tg, tm, ix, lt, cm, ok, es, dt⟩).length ≤ 1000000) := by
        show (sealed _).length ≤ 1000000
        rw [sealed_length]
        omega
      have HREA := Lib.hid (HRE.out.below HB1.out)
      have HRDA := Lib.hid (HRD.out.below HB1.out)
      have HC1 : Hid (∀ (o1 : Option Addr) (n1 c1 : Nat) (o2 : Option Addr) (n2 c2 : Nat) W, Calls Try.prog 14 #[mgV ⟨k, fr, tg, tm, ix, lt, cm, ok, es, dt⟩ (.slice o1 n1 c1) (.slice o2 n2 c2)] W fun e w' => e = .returned (mgV ⟨k, fr, tg, tm, ix, lt, cm, ok, es, dt⟩ (.slice o1 n1 c1) (.slice o2 n2 c2)) ∧ Below W.heap.size W w') := Lib.hid (fun o1 n1 c1 o2 n2 c2 W => msg_any _ o1 n1 c1 o2 n2 c2 W)
      unfold mgV at HEN HRN HC1
      dsimp only at HEN HRN HC1
      generalize encM ⟨k, fr, tg, tm, ix, lt, cm, ok, es, dt⟩ = B at *
      have m0 : wr.cell? ⟨w.heap.size, 0, none⟩ = some (.int .u8 (k : Int)) := cellk HM1.out rfl
      have m1 : wr.cell? ⟨w.heap.size, 1, none⟩ = some (.int .i64 fr) := cellk HM1.out rfl
      have m2 : wr.cell? ⟨w.heap.size, 2, none⟩ = some (.int .i64 tg) := cellk HM1.out rfl
      have m3 : wr.cell? ⟨w.heap.size, 3, none⟩ = some (.int .u64 (tm : Int)) := cellk HM1.out rfl
      have m4 : wr.cell? ⟨w.heap.size, 4, none⟩ = some (.int .u64 (ix : Int)) := cellk HM1.out rfl
      have m5 : wr.cell? ⟨w.heap.size, 5, none⟩ = some (.int .u64 (lt : Int)) := cellk HM1.out rfl
      have m6 : wr.cell? ⟨w.heap.size, 6, none⟩ = some (.int .u64 (cm : Int)) := cellk HM1.out rfl
      have m7 : wr.cell? ⟨w.heap.size, 7, none⟩ = some (.bool ok) := cellk HM1.out rfl
      have m8 : wr.cell? ⟨w.heap.size, 8, none⟩ = some (.slice oe es.length ce) := cellk HM1.out rfl
      have m9 : wr.cell? ⟨w.heap.size, 9, none⟩ = some (.slice od dt.length cd) := cellk HM1.out rfl
      clear hle2 hcl hlt HP hrem g8 g9
      go_wp2_with fail
      refine HEN.out.mono ?_
      rintro e w2 ⟨p, rfl, hop, hb2⟩
      have HOP := Lib.hid hop
      have HBa := Lib.hid hb2
      have hza := hb2.size
      have H2 := Lib.hid (bdecode p B w2 (Rd.of_own hop) HLB.out)
      clear hop hb2 HEN
      go_wp2_with fail
      refine H2.out.mono ?_
      rintro e w3 ⟨hb3, v3, rfl, hmr⟩
      rw [HDE.out] at hmr
      obtain ⟨ve2, vd2, hv3, hre3, hrd3⟩ := hmr
      simp only [Option.getD_some] at hv3 hre3 hrd3
      obtain ⟨oe2, ce2, hve2⟩ : ∃ o c, ve2 = .slice o es.length c := by obtain ⟨o, c, h, _⟩ := hre3; exact ⟨o, c, h⟩
      obtain ⟨od2, cd2, hvd2⟩ := hrd3.form
      subst hv3 hve2 hvd2
      have hB3 : Below wr.heap.size wr w3 := HBa.out.trans (hb3.mono HBa.out.size)
      have HB3 := Lib.hid hB3
      have HOP3 := Lib.hid (own_below HOP.out hb3 (Nat.le_refl _))
      have HREB := Lib.hid hre3
      have HRDB := Lib.hid hrd3
      rw [HDE.out]
      clear hb3 hre3 hrd3 hB3 H2 HOP HBa
      unfold mgV
      dsimp only
      go_wp2_with (refine wpList_store_row rfl 49 (.tmp 5) (.tmp 42) rfl w3.heap.size (mgC ⟨k, fr, tg, tm, ix, lt, cm, ok, es, dt⟩ (.slice oe2 es.length ce2) (.slice od2 dt.length cd2)).toArray rfl rfl 49 (mgC mg0 (.slice none 0 0) (.slice none 0 0)).toArray (heap_alloc_new w3 _) (by kernel_rfl) rfl (by simp [mgC, Value.oneCell']) ?_; generalize hW : World.setRow _ _ _ = W2)
      have hal : Below w3.heap.size w3 (w3.alloc (.cells (mgC mg0 (.slice none 0 0) (.slice none 0 0)).toArray 49)) := (Below.refl _ _).alloc (Nat.le_refl _) _
      have hbW : Below w3.heap.size w3 W2 := by rw [← hW]; exact hal.trans ((row_kept _ _ _).below hal.size (fun k hk => by omega))
      have hY : W2.heap[w3.heap.size]? = some (.cells (mgC ⟨k, fr, tg, tm, ix, lt, cm, ok, es, dt⟩ (.slice oe2 es.length ce2) (.slice od2 dt.length cd2)).toArray 49 (0, 0)) := by rw [← hW]; exact setRow_heap _ _ _ _ _ _ (heap_alloc_new w3 _)
      have hB2 : Below wr.heap.size wr W2 := HB3.out.trans (hbW.mono HB3.out.size)
      have hA := (hB2.block _ hz1).trans HM1.out
      have HB2 := Lib.hid hB2
      have HOP2 := Lib.hid (own_below HOP3.out hbW (Nat.le_refl _))
      have HREA2 := Lib.hid (HREA.out.below hB2)
      have HRDA2 := Lib.hid (HRDA.out.below hB2)
      have HREB2 := Lib.hid (HREB.out.below hbW)
      have HRDB2 := Lib.hid (HRDB.out.below hbW)
      have l1 := lt_of_block hA
      have l2 := lt_of_block hY
      have x0 : W2.cell? ⟨w.heap.size, 0, none⟩ = some (.int .u8 (k : Int)) := cellk hA rfl
      have x1 : W2.cell? ⟨w.heap.size, 1, none⟩ = some (.int .i64 fr) := cellk hA rfl
      have x2 : W2.cell? ⟨w.heap.size, 2, none⟩ = some (.int .i64 tg) := cellk hA rfl
      have x3 : W2.cell? ⟨w.heap.size, 3, none⟩ = some (.int .u64 (tm : Int)) := cellk hA rfl
      have x4 : W2.cell? ⟨w.heap.size, 4, none⟩ = some (.int .u64 (ix : Int)) := cellk hA rfl
      have x5 : W2.cell? ⟨w.heap.size, 5, none⟩ = some (.int .u64 (lt : Int)) := cellk hA rfl
      have x6 : W2.cell? ⟨w.heap.size, 6, none⟩ = some (.int .u64 (cm : Int)) := cellk hA rfl
      have x7 : W2.cell? ⟨w.heap.size, 7, none⟩ = some (.bool ok) := cellk hA rfl
      have x8 : W2.cell? ⟨w.heap.size, 8, none⟩ = some (.slice oe es.length ce) := cellk hA rfl
      have x9 : W2.cell? ⟨w.heap.size, 9, none⟩ = some (.slice od dt.length cd) := cellk hA rfl
      have y0 : W2.cell? ⟨w3.heap.size, 0, none⟩ = some (.int .u8 (k : Int)) := cellk hY rfl
      have y1 : W2.cell? ⟨w3.heap.size, 1, none⟩ = some (.int .i64 fr) := cellk hY rfl
      have y2 : W2.cell? ⟨w3.heap.size, 2, none⟩ = some (.int .i64 tg) := cellk hY rfl
      have y3 : W2.cell? ⟨w3.heap.size, 3, none⟩ = some (.int .u64 (tm : Int)) := cellk hY rfl
      have y4 : W2.cell? ⟨w3.heap.size, 4, none⟩ = some (.int .u64 (ix : Int)) := cellk hY rfl
      have y5 : W2.cell? ⟨w3.heap.size, 5, none⟩ = some (.int .u64 (lt : Int)) := cellk hY rfl
      have y6 : W2.cell? ⟨w3.heap.size, 6, none⟩ = some (.int .u64 (cm : Int)) := cellk hY rfl
      have y7 : W2.cell? ⟨w3.heap.size, 7, none⟩ = some (.bool ok) := cellk hY rfl
      have y8 : W2.cell? ⟨w3.heap.size, 8, none⟩ = some (.slice oe2 es.length ce2) := cellk hY rfl
      have y9 : W2.cell? ⟨w3.heap.size, 9, none⟩ = some (.slice od2 dt.length cd2) := cellk hY rfl
      have HST : Hid (∀ W, Below W2.heap.size W2 W → (convert 35 9 p).run Try.prog W = .ok (.string ⟨B.toArray⟩) W) := Lib.hid (fun W hb => toStr (Rd.of_own (own_below HOP2.out hb (Nat.le_refl _))))
      have HRN2 := Lib.hid (fun W (hb : Below W2.heap.size W2 W) => HRN.out W (hB2.trans (hb.mono hB2.size)))
      have HSM : Hid (∀ W, Below W2.heap.size W2 W → Calls Try.prog 15 #[mgV ⟨k, fr, tg, tm, ix, lt, cm, ok, es, dt⟩ (.slice oe2 es.length ce2) (.slice od2 dt.length cd2), mgV ⟨k, fr, tg, tm, ix, lt, cm, ok, es, dt⟩ (.slice oe es.length ce) (.slice od dt.length cd)] W fun e w' => e = .returned (.bool true) ∧ Below W.heap.size W w') := Lib.hid (fun W hb => sameMsg_eq ⟨k, fr, tg, tm, ix, lt, cm, ok, es, dt⟩ _ _ _ _ W (HREB2.out.below hb) (HREA2.out.below hb) (HRDB2.out.below hb) (HRDA2.out.below hb) (by have := HL50.out; show es.length ≤ 65536; omega))
      unfold mgV at HSM
      dsimp only at HSM
      have HBZ := Lib.hid (HB1.out.trans (hB2.mono HB1.out.size))
      clear hal hbW hY hA hW hB2 HREA HRDA HREB HRDB HB3 HOP3 HOP2 HREA2 HRDA2 HREB2 HRDB2 HRN HB2 HRE HRD HALL HT HOK HDE
      generalize hg1e : w.heap.size = g1 at *
      have HG1 := Lib.hid hg1e
      clear hg1e
      generalize w3.heap.size = g2 at *
      refine wp_region_held_drew (S := fun w' => Below W2.heap.size W2 w') (by kernel_rfl) ((Below.refl _ _).drew) ?_
      intro hHeld
      refine wpAnyH_take (i := 0) (v := ?_) (by simp only [List.getElem?_toArray, List.getElem?_cons_zero]; rfl) (by kernel_rfl) (by kernel_rfl) (by kernel_rfl) (by intro _ _ _ h; exact h) (Or.inl ⟨by rfl, ?_⟩) (by assumption) ?_
      rotate_left
      · (intro w hSw; go_simp; try with_reducible rfl)
      try simp only [Act.put, List.setIfInBounds_toArray, List.set_cons_zero, List.set_cons_succ]
      refine wpAnyH_take (i := 1) (v := ?_) (by simp only [List.getElem?_toArray, List.getElem?_cons_succ, List.getElem?_cons_zero]; rfl) (by kernel_rfl) (by kernel_rfl) (by kernel_rfl) (by intro _ _ _ h; exact h) (Or.inl ⟨by rfl, ?_⟩) (by assumption) ?_
      rotate_left
      · (intro w hSw; have hcv := HST.out _ hSw; go_simp; try with_reducible rfl)
      try simp only [Act.put, List.setIfInBounds_toArray, List.set_cons_zero, List.set_cons_succ]
      refine wpAnyH_take (i := 2) (v := ?_) (by simp only [List.getElem?_toArray, List.getElem?_cons_succ, List.getElem?_cons_zero]; rfl) (by kernel_rfl) (by kernel_rfl) (by kernel_rfl) (by intro _ _ _ h; exact h) (Or.inl ⟨by rfl, ?_⟩) (by assumption) ?_
      rotate_left
      · (intro w hSw; have z0 := (hSw.cell (p := ⟨g1, 0, none⟩) l1).trans x0; have z1 := (hSw.cell (p := ⟨g1, 1, none⟩) l1).trans x1; have z2 := (hSw.cell (p := ⟨g1, 2, none⟩) l1).trans x2; have z3 := (hSw.cell (p := ⟨g1, 3, none⟩) l1).trans x3; have z4 := (hSw.cell (p := ⟨g1, 4, none⟩) l1).trans x4; have z5 := (hSw.cell (p := ⟨g1, 5, none⟩) l1).trans x5; have z6 := (hSw.cell (p := ⟨g1, 6, none⟩) l1).trans x6; have z7 := (hSw.cell (p := ⟨g1, 7, none⟩) l1).trans x7; have z8 := (hSw.cell (p := ⟨g1, 8, none⟩) l1).trans x8; have z9 := (hSw.cell (p := ⟨g1, 9, none⟩) l1).trans x9; have zl := Nat.lt_of_lt_of_le l1 hSw.size; go_simp; try with_reducible rfl)
      try simp only [Act.put, List.setIfInBounds_toArray, List.set_cons_zero, List.set_cons_succ]
      refine wpAnyH_ready (rs := [3]) (by kernel_rfl) (by simp) ?_
      refine AllReadyH.cons (by simp only [List.getElem?_toArray, List.getElem?_cons_succ, List.getElem?_cons_zero]; rfl) (fun K hK => ?_) AllReadyH.nil
      go_simp
      refine (HC1.out _ _ _ _ _ _ _).mono ?_
      rintro e wf ⟨rfl, hbf⟩
      have hS := hHeld.trans (hbf.mono hHeld.size)
      clear hbf
      dsimp only
      refine hK.out _ _ hS (fun hHeld => ?_)
      clear hK K
      try simp only [Act.put, List.setIfInBounds_toArray, List.set_cons_zero, List.set_cons_succ]
      refine wpAnyH_ready (rs := [4]) (by kernel_rfl) (by simp) ?_
      refine AllReadyH.cons (by simp only [List.getElem?_toArray, List.getElem?_cons_succ, List.getElem?_cons_zero]; rfl) (fun K hK => ?_) AllReadyH.nil
      go_simp
      refine (HRN2.out _ hHeld).mono ?_
      rintro e wg ⟨p9, rfl, hop9, hbg⟩
      have hc9 := toStr' hop9
      clear hop9
      have hS := hHeld.trans (hbg.mono hHeld.size)
      clear hbg
      dsimp only
      refine hK.out _ _ hS (fun hHeld => ?_)
      clear hK K
      try simp only [Act.put, List.setIfInBounds_toArray, List.set_cons_zero, List.set_cons_succ]
      refine wpAnyH_ready (rs := [5]) (by kernel_rfl) (by simp) ?_
      refine AllReadyH.cons (by simp only [List.getElem?_toArray, List.getElem?_cons_succ, List.getElem?_cons_zero]; rfl) (fun K hK => ?_) AllReadyH.nil
      go_simp
      have hS := hHeld
      refine hK.out _ _ hS (fun hHeld => ?_)
      clear hK K
      try simp only [Act.put, List.setIfInBounds_toArray, List.set_cons_zero, List.set_cons_succ]
      refine wpAnyH_take (i := 6) (v := ?_) (by simp only [List.getElem?_toArray, List.getElem?_cons_succ, List.getElem?_cons_zero]; rfl) (by kernel_rfl) (by kernel_rfl) (by kernel_rfl) (by intro _ _ _ h; exact h) (Or.inl ⟨by rfl, ?_⟩) (by assumption) ?_
      rotate_left
      · (intro w hSw; go_simp; (try simp only [beq_self_eq_true]); try with_reducible rfl)
      try simp only [Act.put, List.setIfInBounds_toArray, List.set_cons_zero, List.set_cons_succ]
      refine wpAnyH_take (i := 7) (v := ?_) (by simp only [List.getElem?_toArray, List.getElem?_cons_succ, List.getElem?_cons_zero]; rfl) (by kernel_rfl) (by kernel_rfl) (by kernel_rfl) (by intro _ _ _ h; exact h) (Or.inl ⟨by rfl, ?_⟩) (by assumption) ?_
      rotate_left
      · (intro w hSw; go_simp; try with_reducible rfl)
      try simp only [Act.put, List.setIfInBounds_toArray, List.set_cons_zero, List.set_cons_succ]
      refine wpAnyH_take (i := 8) (v := ?_) (by simp only [List.getElem?_toArray, List.getElem?_cons_succ, List.getElem?_cons_zero]; rfl) (by kernel_rfl) (by kernel_rfl) (by kernel_rfl) (by intro _ _ _ h; exact h) (Or.inl ⟨by rfl, ?_⟩) (by assumption) ?_
      rotate_left
      · (intro w hSw; go_simp; try with_reducible rfl)
      try simp only [Act.put, List.setIfInBounds_toArray, List.set_cons_zero, List.set_cons_succ]
      refine wpAnyH_take (i := 9) (v := ?_) (by simp only [List.getElem?_toArray, List.getElem?_cons_succ, List.getElem?_cons_zero]; rfl) (by kernel_rfl) (by kernel_rfl) (by kernel_rfl) (by intro _ _ _ h; exact h) (Or.inl ⟨by rfl, ?_⟩) (by assumption) ?_
      rotate_left
      · (intro w hSw; go_simp; try with_reducible rfl)
      try simp only [Act.put, List.setIfInBounds_toArray, List.set_cons_zero, List.set_cons_succ]
      refine wpAnyH_take (i := 10) (v := ?_) (by simp only [List.getElem?_toArray, List.getElem?_cons_succ, List.getElem?_cons_zero]; rfl) (by kernel_rfl) (by kernel_rfl) (by kernel_rfl) (by intro _ _ _ h; exact h) (Or.inl ⟨by rfl, ?_⟩) (by assumption) ?_
      rotate_left
      · (intro w hSw; go_simp; try with_reducible rfl)
      try simp only [Act.put, List.setIfInBounds_toArray, List.set_cons_zero, List.set_cons_succ]
      refine wpAnyH_take (i := 11) (v := ?_) (by simp only [List.getElem?_toArray, List.getElem?_cons_succ, List.getElem?_cons_zero]; rfl) (by kernel_rfl) (by kernel_rfl) (by kernel_rfl) (by intro _ _ _ h; exact h) (Or.inl ⟨by rfl, ?_⟩) (by assumption) ?_
      rotate_left
      · (intro w hSw; go_simp; try with_reducible rfl)
      try simp only [Act.put, List.setIfInBounds_toArray, List.set_cons_zero, List.set_cons_succ]
      refine wpAnyH_take (i := 12) (v := ?_) (by simp only [List.getElem?_toArray, List.getElem?_cons_succ, List.getElem?_cons_zero]; rfl) (by kernel_rfl) (by kernel_rfl) (by kernel_rfl) (by intro _ _ _ h; exact h) (Or.inl ⟨by rfl, ?_⟩) (by assumption) ?_
      rotate_left
      · (intro w hSw; have z0 := (hSw.cell (p := ⟨g2, 0, none⟩) l2).trans y0; have z1 := (hSw.cell (p := ⟨g2, 1, none⟩) l2).trans y1; have z2 := (hSw.cell (p := ⟨g2, 2, none⟩) l2).trans y2; have z3 := (hSw.cell (p := ⟨g2, 3, none⟩) l2).trans y3; have z4 := (hSw.cell (p := ⟨g2, 4, none⟩) l2).trans y4; have z5 := (hSw.cell (p := ⟨g2, 5, none⟩) l2).trans y5; have z6 := (hSw.cell (p := ⟨g2, 6, none⟩) l2).trans y6; have z7 := (hSw.cell (p := ⟨g2, 7, none⟩) l2).trans y7; have z8 := (hSw.cell (p := ⟨g2, 8, none⟩) l2).trans y8; have z9 := (hSw.cell (p := ⟨g2, 9, none⟩) l2).trans y9; have zl := Nat.lt_of_lt_of_le l2 hSw.size; go_simp; try with_reducible rfl)
      try simp only [Act.put, List.setIfInBounds_toArray, List.set_cons_zero, List.set_cons_succ]
      refine wpAnyH_take (i := 14) (v := ?_) (by simp only [List.getElem?_toArray, List.getElem?_cons_succ, List.getElem?_cons_zero]; rfl) (by kernel_rfl) (by kernel_rfl) (by kernel_rfl) (by intro _ _ _ h; exact h) (Or.inl ⟨by rfl, ?_⟩) (by assumption) ?_
      rotate_left
      · (intro w hSw; have z0 := (hSw.cell (p := ⟨g1, 0, none⟩) l1).trans x0; have z1 := (hSw.cell (p := ⟨g1, 1, none⟩) l1).trans x1; have z2 := (hSw.cell (p := ⟨g1, 2, none⟩) l1).trans x2; have z3 := (hSw.cell (p := ⟨g1, 3, none⟩) l1).trans x3; have z4 := (hSw.cell (p := ⟨g1, 4, none⟩) l1).trans x4; have z5 := (hSw.cell (p := ⟨g1, 5, none⟩) l1).trans x5; have z6 := (hSw.cell (p := ⟨g1, 6, none⟩) l1).trans x6; have z7 := (hSw.cell (p := ⟨g1, 7, none⟩) l1).trans x7; have z8 := (hSw.cell (p := ⟨g1, 8, none⟩) l1).trans x8; have z9 := (hSw.cell (p := ⟨g1, 9, none⟩) l1).trans x9; have zl := Nat.lt_of_lt_of_le l1 hSw.size; go_simp; try with_reducible rfl)
      try simp only [Act.put, List.setIfInBounds_toArray, List.set_cons_zero, List.set_cons_succ]
      refine wpAnyH_ready (rs := [13]) (by kernel_rfl) (by simp) ?_
      refine AllReadyH.cons (by simp only [List.getElem?_toArray, List.getElem?_cons_succ, List.getElem?_cons_zero]; rfl) (fun K hK => ?_) AllReadyH.nil
      go_simp
      refine (HC1.out _ _ _ _ _ _ _).mono ?_
      rintro e wh ⟨rfl, hbf⟩
      have hS := hHeld.trans (hbf.mono hHeld.size)
      clear hbf
      dsimp only
      refine hK.out _ _ hS (fun hHeld => ?_)
      clear hK K
      try simp only [Act.put, List.setIfInBounds_toArray, List.set_cons_zero, List.set_cons_succ]
      refine wpAnyH_ready (rs := [15]) (by kernel_rfl) (by simp) ?_
      refine AllReadyH.cons (by simp only [List.getElem?_toArray, List.getElem?_cons_succ, List.getElem?_cons_zero]; rfl) (fun K hK => ?_) AllReadyH.nil
      go_simp
      refine (HC1.out _ _ _ _ _ _ _).mono ?_
      rintro e wj ⟨rfl, hbf⟩
      have hS := hHeld.trans (hbf.mono hHeld.size)
      clear hbf
      dsimp only
      refine hK.out _ _ hS (fun hHeld => ?_)
      clear hK K
      try simp only [Act.put, List.setIfInBounds_toArray, List.set_cons_zero, List.set_cons_succ]
      refine wpAnyH_ready (rs := [16]) (by kernel_rfl) (by simp) ?_
      refine AllReadyH.cons (by simp only [List.getElem?_toArray, List.getElem?_cons_succ, List.getElem?_cons_zero]; rfl) (fun K hK => ?_) AllReadyH.nil
      go_simp
      refine (HSM.out _ hHeld).mono ?_
      rintro e wk ⟨rfl, hbf⟩
      have hS := hHeld.trans (hbf.mono hHeld.size)
      clear hbf
      dsimp only
      refine hK.out _ _ hS (fun hHeld => ?_)
      clear hK K
      try simp only [Act.put, List.setIfInBounds_toArray, List.set_cons_zero, List.set_cons_succ]
      refine wpAnyH_take (i := 17) (v := ?_) (by simp only [List.getElem?_toArray, List.getElem?_cons_succ, List.getElem?_cons_zero]; rfl) (by kernel_rfl) (by kernel_rfl) (by kernel_rfl) (by intro _ _ _ h; exact h) (Or.inl ⟨by rfl, ?_⟩) (by assumption) ?_
      rotate_left
      · (intro w hSw; go_simp; try with_reducible rfl)
      try simp only [Act.put, List.setIfInBounds_toArray, List.set_cons_zero, List.set_cons_succ]
      refine wpAnyH_take (i := 18) (v := ?_) (by simp only [List.getElem?_toArray, List.getElem?_cons_succ, List.getElem?_cons_zero]; rfl) (by kernel_rfl) (by kernel_rfl) (by kernel_rfl) (by intro _ _ _ h; exact h) (Or.inl ⟨by rfl, ?_⟩) (by assumption) ?_
      rotate_left
      · (intro w hSw; go_simp; try with_reducible rfl)
      try simp only [Act.put, List.setIfInBounds_toArray, List.set_cons_zero, List.set_cons_succ]
      refine wpAnyH_done (by kernel_rfl) ?_ _
      go_wp2_with fail
      go_ret
      exact ⟨rfl, by first | exact HBZ.out.trans (hHeld.mono (Nat.le_of_lt l1)) | (rw [HG1.out]; exact HBZ.out.trans (hHeld.mono (Nat.le_of_lt l1)))⟩
end Go.Proofs.Ytjbailnnaigjbaa
