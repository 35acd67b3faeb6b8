/- A message of bytes. -/
import Derived.Test.YtjbailnnaigjbaaBmB
import Derived.Test.YtjbailnnaigjbaaOctH
import Derived.Test.YtjbailnnaigjbaaBalJ
namespace Go.Proofs.Ytjbailnnaigjbaa
open Go.RowKit OctM

theorem OwnL.re {w : World} {base : Nat} {v : Value} {ps : List (En × Value)} (h : OwnL w base v ps) : RE w v (ps.map Prod.fst) := by
  obtain ⟨o, c, hv⟩ := own_slice' h.row
  refine ⟨o, c, by rw [List.length_map]; exact hv, fun i x hx => ?_⟩
  rw [List.getElem?_map] at hx
  obtain ⟨p, hp, rfl⟩ : ∃ p, ps[i]? = some p ∧ p.1 = x := by simpa using hx
  have hi := (List.getElem?_eq_some_iff.1 hp).1
  obtain ⟨g, c', hv', _, _, _, hc⟩ := own_at h.row (by omega)
  rw [hv] at hv'
  injection hv' with hv'
  have hget : ∀ j u, (cE p)[j]? = some u → w.cell? ⟨g, 0 + i * 4 + j, none⟩ = some u := fun j u hu => by
    have := hc _ _ (CsE_get ps i p hp j u hu)
    rwa [Nat.zero_add]
  refine ⟨g, 0, hv', p.2, hget 0 _ rfl, hget 1 _ rfl, hget 2 _ rfl, hget 3 _ rfl, Rd.of_own (h.cells p (List.mem_of_getElem? hp))⟩

/-- A message's cells. -/
def mgC (m : Mg) (ve vd : Value) : List Value := [.int .u8 (m.k : Int), .int .i64 m.fr, .int .i64 m.tg, .int .u64 (m.tm : Int), .int .u64 (m.ix : Int), .int .u64 (m.lt : Int), .int .u64 (m.cm : Int), .bool m.ok, ve, vd]

/-- A message that lies in the result's block. -/
theorem bdec_ret {w W : World} {l : List UInt8} {m : Mg} {ve vd : Value} {tm : Array Value} {t : TypeId} {er : Int} (hf : W.heap[w.heap.size]? = some (.cells (mgC m ve vd).toArray t (0, 0))) (hb : Below w.heap.size w W)
    (hm : MgR W (mgV m ve vd) m) (hd : decM l = (er, some m) ∨ (m = mg0 ∧ decM l = (er, none))) (h2 : tm.getD 2 undef = .pointer (some ⟨w.heap.size, 0, none⟩)) (h3 : tm.getD 3 undef = .int .i64 er) (ht : t = 49) :
    bodyPost Try.prog Try.f12 (DecP w l) .ret ⟨tm, []⟩ W := by
  subst ht
  have g2 : tm[2]?.getD undef = .pointer (some ⟨w.heap.size, 0, none⟩) := by simpa using h2
  have g3 : tm[3]?.getD undef = .int .i64 er := by simpa using h3
  have r0 : W.cell? ⟨w.heap.size, 0, none⟩ = some (.int .u8 (m.k : Int)) := cellk hf rfl
  have r1 : W.cell? ⟨w.heap.size, 1, none⟩ = some (.int .i64 m.fr) := cellk hf rfl
  have r2 : W.cell? ⟨w.heap.size, 2, none⟩ = some (.int .i64 m.tg) := cellk hf rfl
  have r3 : W.cell? ⟨w.heap.size, 3, none⟩ = some (.int .u64 (m.tm : Int)) := cellk hf rfl
  have r4 : W.cell? ⟨w.heap.size, 4, none⟩ = some (.int .u64 (m.ix : Int)) := cellk hf rfl
  have r5 : W.cell? ⟨w.heap.size, 5, none⟩ = some (.int .u64 (m.lt : Int)) := cellk hf rfl
  have r6 : W.cell? ⟨w.heap.size, 6, none⟩ = some (.int .u64 (m.cm : Int)) := cellk hf rfl
  have r7 : W.cell? ⟨w.heap.size, 7, none⟩ = some (.bool m.ok) := cellk hf rfl
  have r8 : W.cell? ⟨w.heap.size, 8, none⟩ = some ve := cellk hf rfl
  have r9 : W.cell? ⟨w.heap.size, 9, none⟩ = some vd := cellk hf rfl
  refine bodyPost_ret (v := .tuple #[mgV m ve vd, .int .i64 er]) (by simp [mgV, results, Try.results12, go_sem, g2, g3, r0, r1, r2, r3, r4, r5, r6, r7, r8, r9]) rfl ⟨hb, mgV m ve vd, ?_, ?_⟩
  · rcases hd with hd | ⟨_, hd⟩ <;> rw [hd]
  · rcases hd with hd | ⟨rfl, hd⟩ <;> rw [hd] <;> exact hm
theorem rd_kept {ptr : Option Addr} {n : Nat} (hp : ∀ a, ptr = some a → a.block < n) : ∀ g, n ≤ g → ¬ own1 ptr g := by
  rintro g hg ⟨a, ha, hb⟩
  have := hp a ha
  omega

set_option maxHeartbeats 8000000 in
set_option maxRecDepth 100000 in
theorem bdecode (b : Value) (l : List UInt8) (w : World) (h : Rd w b l) (hl : l.length ≤ 1000000) : Calls Try.prog 12 #[b] w (DecP w l) := by
  go_enter Try.func12, Try.ntmps12
  obtain ⟨W0, hW0⟩ : ∃ W0, w.alloc (.cells (mgC mg0 (.slice none 0 0) (.slice none 0 0)).toArray 49) = W0 := ⟨_, rfl⟩
  have hx0 := (congrArg (fun W => W.heap[w.heap.size]?) hW0).symm.trans (World.alloc_heap_new w (.cells (mgC mg0 (.slice none 0 0) (.slice none 0 0)).toArray 49))
  have hb0 : Below w.heap.size w W0 := by rw [← hW0]; exact (Below.refl _ _).alloc (Nat.le_refl _) _
  have hz0 : w.heap.size < W0.heap.size := by rw [← hW0]; simp
  have H1 := Lib.hid (openC b l W0 (h.below hb0) (by omega))
  have HX0 := Lib.hid hx0
  have HB0 := Lib.hid hb0
  have hW1 := hW0
  unfold mgC mg0 at hW1
  simp only [show ((0 : Nat) : Int) = 0 from rfl] at hW1
  have HW1 := Lib.hid hW1
  clear hx0 hb0 hW0 hW1 h
  go_wp2_with (rw [HW1.out])
  refine H1.out.mono ?_
  rintro e w1 ⟨⟨v, rfl, hrd⟩, hb1⟩
  have HDM : Hid (decM l = if (openS l).2 ≠ 0 then ((openS l).2, none) else finM (decI (openS l).1)) := rfl
  have HRD := Lib.hid hrd
  have HB1 := Lib.hid (HB0.out.trans (hb1.mono HB0.out.size))
  have HX1 := Lib.hid ((hb1.block _ hz0).trans HX0.out)
  have hz1 : w.heap.size < w1.heap.size := Nat.lt_of_lt_of_le hz0 hb1.size
  have hlp : (openS l).1.length ≤ 1000000 := by
    have : (openS l).1.length ≤ l.length := by
      unfold openS
      split
      · simp
      · split
        · simp only [List.length_take]
          omega
        · simp
    omega
  have HLP := Lib.hid hlp
  generalize (openS l).1 = p at *
  generalize (openS l).2 = er at *
  clear hrd hb1 hz0 hlp HW1 H1 HX0 HB0

  by_cases her : er = 0
  · subst her
    have hdm : decM l = finM (decI p) := by rw [HDM.out, if_neg (fun h => h rfl)]
    have HDN := Lib.hid hdm
    have HN := Lib.hid (D.newReader v p w1 HRD.out (by have := HLP.out; omega))
    clear hdm HDM
    go_wp2_with fail
    refine HN.out.mono ?_
    rintro e w2 ⟨br, rfl, hs2, hb2, hbr⟩
    have hbl := D.RS.lt hs2
    have hpp : ∀ (n : Nat), br < n → ∀ a, (some (⟨br, 0, none⟩ : Addr)) = some a → a.block < n := by
      intro n hn a ha
      injection ha with ha
      subst ha
      exact hn
    have HPP := Lib.hid hpp
    have hno : ∀ (W W' : World), Kept (own1 (some ⟨br, 0, none⟩)) W W' → br < W.heap.size → Below w.heap.size w W → Below w.heap.size w W' := fun W W' hk hn hb => hb.trans (hk.below hb.size (by rintro k ⟨a, ha, rfl⟩; injection ha with ha; subst ha; show w.heap.size ≤ br; omega))
    have HNO := Lib.hid hno
    have HK2 := Lib.hid (Kept.refl (own1 (some ⟨br, 0, none⟩)) w2)
    have HX2 := Lib.hid ((hb2.block _ hz1).trans HX1.out)
    have HB2 := Lib.hid (HB1.out.trans (hb2.mono HB1.out.size))
    have HS2 := Lib.hid hs2
    have HBR : Hid (w.heap.size < br ∧ br < w2.heap.size) := Lib.hid ⟨by omega, hbl⟩
    clear hs2 hb2 hbr hbl hpp hno hz1 HN HX1 HB1 HRD
    have HU1 := Lib.hid (D.rupto (some ⟨br, 0, none⟩) (some p) 255 w2 HS2.out (by omega) (by omega))
    have hm1 := uptoS_most (some p) 255
    go_wp2_with fail
    refine HU1.out.mono ?_
    rintro e w3 ⟨rfl, hs, hk⟩
    have HK3 := Lib.hid (HK2.out.trans hk)
    have HS3 := Lib.hid hs
    have HA1 : Hid ((uptoS (some p) 255) = ((uptoS (some p) 255).1, (uptoS (some p) 255).2)) := rfl
    generalize (uptoS (some p) 255).1 = a1 at *
    generalize (uptoS (some p) 255).2 = q1 at *
    clear hs hk HU1 HK2 HS2
    have i1 : (a1 : Int) ≤ 255 := by omega
    have i0 : (0 : Int) ≤ (a1 : Int) := by omega
    have wu : IntKind.u8.wrap (a1 : Int) = (a1 : Int) := IntWalk.u8_in _ ⟨i0, i1⟩
    have HU2 := Lib.hid (D.rint (some ⟨br, 0, none⟩) q1 w3 HS3.out)
    go_wp2_with fail
    refine HU2.out.mono ?_
    rintro e w4 ⟨rfl, hs, hk⟩
    have HK4 := Lib.hid (HK3.out.trans hk)
    have HS4 := Lib.hid hs
    have HA2 : Hid ((uintS q1) = ((uintS q1).1, (uintS q1).2)) := rfl
    generalize (uintS q1).1 = a2 at *
    generalize (uintS q1).2 = q2 at *
    clear hs hk HU2 HK3 HS3
    have HU3 := Lib.hid (D.rint (some ⟨br, 0, none⟩) q2 w4 HS4.out)
    go_wp2_with fail
    refine HU3.out.mono ?_
    rintro e w5 ⟨rfl, hs, hk⟩
    have HK5 := Lib.hid (HK4.out.trans hk)
    have HS5 := Lib.hid hs
    have HA3 : Hid ((uintS q2) = ((uintS q2).1, (uintS q2).2)) := rfl
    generalize (uintS q2).1 = a3 at *
    generalize (uintS q2).2 = q3 at *
    clear hs hk HU3 HK4 HS4
    have HU4 := Lib.hid (D.ruint (some ⟨br, 0, none⟩) q3 w5 HS5.out)
    go_wp2_with fail
    refine HU4.out.mono ?_
    rintro e w6 ⟨rfl, hs, hk⟩
    have HK6 := Lib.hid (HK5.out.trans hk)
    have HS6 := Lib.hid hs
    have HA4 : Hid ((uintS q3) = ((uintS q3).1, (uintS q3).2)) := rfl
    generalize (uintS q3).1 = a4 at *
    generalize (uintS q3).2 = q4 at *
    clear hs hk HU4 HK5 HS5
    have HU5 := Lib.hid (D.ruint (some ⟨br, 0, none⟩) q4 w6 HS6.out)
    go_wp2_with fail
    refine HU5.out.mono ?_
    rintro e w7 ⟨rfl, hs, hk⟩
    have HK7 := Lib.hid (HK6.out.trans hk)
    have HS7 := Lib.hid hs
    have HA5 : Hid ((uintS q4) = ((uintS q4).1, (uintS q4).2)) := rfl
    generalize (uintS q4).1 = a5 at *
    generalize (uintS q4).2 = q5 at *
    clear hs hk HU5 HK6 HS6
    have HU6 := Lib.hid (D.ruint (some ⟨br, 0, none⟩) q5 w7 HS7.out)
    go_wp2_with fail
    refine HU6.out.mono ?_
    rintro e w8 ⟨rfl, hs, hk⟩
    have HK8 := Lib.hid (HK7.out.trans hk)
    have HS8 := Lib.hid hs
    have HA6 : Hid ((uintS q5) = ((uintS q5).1, (uintS q5).2)) := rfl
    generalize (uintS q5).1 = a6 at *
    generalize (uintS q5).2 = q6 at *
    clear hs hk HU6 HK7 HS7
    have HU7 := Lib.hid (D.ruint (some ⟨br, 0, none⟩) q6 w8 HS8.out)
    go_wp2_with fail
    refine HU7.out.mono ?_
    rintro e w9 ⟨rfl, hs, hk⟩
    have HK9 := Lib.hid (HK8.out.trans hk)
    have HS9 := Lib.hid hs
    have HA7 : Hid ((uintS q6) = ((uintS q6).1, (uintS q6).2)) := rfl
    generalize (uintS q6).1 = a7 at *
    generalize (uintS q6).2 = q7 at *
    clear hs hk HU7 HK8 HS8
    have HU8 := Lib.hid (D.rupto (some ⟨br, 0, none⟩) q7 1 w9 HS9.out (by omega) (by omega))
    have hm8 := uptoS_most q7 1
    go_wp2_with fail
    refine HU8.out.mono ?_
    rintro e w10 ⟨rfl, hs, hk⟩
    have HK10 := Lib.hid (HK9.out.trans hk)
    have HS10 := Lib.hid hs
    have HA8 : Hid ((uptoS q7 1) = ((uptoS q7 1).1, (uptoS q7 1).2)) := rfl
    generalize (uptoS q7 1).1 = a8 at *
    generalize (uptoS q7 1).2 = q8 at *
    clear hs hk HU8 HK9 HS9
    have hsz : br < w10.heap.size := by have := HBR.out.2; have := HK10.out.size; omega
    have HU9 := Lib.hid (readEntries (some ⟨br, 0, none⟩) q8 br w10 HS10.out (HPP.out _ hsz) (by omega))
    go_wp2_with fail
    refine HU9.out.mono ?_
    rintro e w11 ⟨⟨ve, ps, rfl, hO, hF⟩, hs, hk⟩
    have HA9 : Hid ((entsS (uptoS q8 65536).1 (uptoS q8 65536).2) = ((entsS (uptoS q8 65536).1 (uptoS q8 65536).2).1, (entsS (uptoS q8 65536).1 (uptoS q8 65536).2).2)) := rfl
    generalize (entsS (uptoS q8 65536).1 (uptoS q8 65536).2).1 = es at *
    generalize (entsS (uptoS q8 65536).1 (uptoS q8 65536).2).2 = q9 at *
    obtain ⟨oe, ce, hve⟩ := own_slice' hO.row
    subst hve
    have HF := Lib.hid hF
    have HO11 := Lib.hid hO
    have HK11 := Lib.hid (HK10.out.trans hk)
    have HS11 := Lib.hid hs
    have hn9 : q9 = none → (bytesS q9 1048576).2 = none := by rintro rfl; rw [bytesS_none]
    have HN9 := Lib.hid hn9
    have HU10 := Lib.hid (D.rbytes (some ⟨br, 0, none⟩) q9 1048576 w11 hs (by omega) (by omega) (Nat.le_trans (bytesS_le q9 1048576) (by omega)))
    have HZ10 := Lib.hid hsz
    have HZ11 := Lib.hid hk.size
    have HZW : Hid (w.heap.size < w10.heap.size ∧ w.heap.size < w11.heap.size) := Lib.hid (by have := HBR.out.1; have := hk.size; omega)
    clear hs hk hO hF hn9 hsz HU9 HK10 HS10 HS11
    go_wp2_with fail
    refine HU10.out.mono ?_
    rintro e w12 ⟨vd, rfl, hod, hs, hk⟩
    have HA10 : Hid (bytesS q9 1048576 = ((bytesS q9 1048576).1, (bytesS q9 1048576).2)) := rfl
    generalize (bytesS q9 1048576).1 = dt at *
    generalize (bytesS q9 1048576).2 = q10 at *
    obtain ⟨od, cd, hvd⟩ := own_slice' hod
    subst hvd
    have hns := rd_kept (HPP.out _ HZ10.out)
    have HO12 := Lib.hid (HO11.out.kept hk (fun g hg => hns g (HO11.out.row.lt g hg).1) (fun p hp g hg => hns g ((HO11.out.cells p hp).lt g hg).1))
    have HD12 := Lib.hid hod
    have HK12 := Lib.hid (HK11.out.trans hk)
    have HS12 := Lib.hid hs
    have hbr2 := HBR.out
    have hX12 := (HK12.out.block _ (by omega) (by rintro ⟨a, ha, hb⟩; injection ha with ha; subst ha; have : br = w.heap.size := hb; omega)).trans HX2.out
    have HX12 := Lib.hid hX12
    have HB12 := Lib.hid (HNO.out _ _ HK12.out hbr2.2 HB2.out)
    obtain ⟨M, hM⟩ : ∃ M : Mg, M = ⟨a1, unzig a2, unzig a3, a4, a5, a6, a7, decide ((a8 : Int) = 1), ps.map Prod.fst, dt⟩ := ⟨_, rfl⟩
    have HM := Lib.hid hM
    clear hs hk hod hns hX12 hbr2 hM HU10 HK11 HO11 HNO HX2 HB2 HZ10 HZ11
    go_wp2_with (refine wpList_store_row rfl 49 (.tmp 7) (.tmp 41) rfl w12.heap.size (mgC ⟨a1, unzig a2, unzig a3, a4, a5, a6, a7, decide ((a8 : Int) = 1), ps.map Prod.fst, dt⟩ (.slice oe ps.length ce) (.slice od dt.length cd)).toArray rfl rfl 49 (mgC mg0 (.slice none 0 0) (.slice none 0 0)).toArray (heap_alloc_new w12 _) (by kernel_rfl) rfl (by simp [mgC, Value.oneCell']) ?_; generalize hW : World.setRow _ _ _ = W)
    have hal : Below w12.heap.size w12 (w12.alloc (.cells (mgC mg0 (.slice none 0 0) (.slice none 0 0)).toArray 49)) := (Below.refl _ _).alloc (Nat.le_refl _) _
    have hbW : Below w12.heap.size w12 W := by rw [← hW]; exact hal.trans ((row_kept _ _ _).below hal.size (fun k hk => by omega))
    have hY : W.heap[w12.heap.size]? = some (.cells (mgC M (.slice oe ps.length ce) (.slice od dt.length cd)).toArray 49 (0, 0)) := by rw [← hW, HM.out]; exact setRow_heap _ _ _ _ _ _ (heap_alloc_new w12 _)
    have hX := (hbW.block _ (lt_of_block HX12.out)).trans HX12.out
    have HXW := Lib.hid hX
    have HBW := Lib.hid (HB12.out.trans (hbW.mono HB12.out.size))
    have HOW := Lib.hid (HO12.out.below hbW (Nat.le_refl _))
    have HDW := Lib.hid (own_kept HD12.out (kept_of_below (S := fun _ => False) hbW) (fun _ _ h => h))
    have HRE := Lib.hid (D.rend (some ⟨br, 0, none⟩) q10 W (HS12.out.below hbW))
    have HY := Lib.hid hY
    clear hal hbW hY hX hW HX12 HB12 HO12 HD12 HS12 HK12
    refine HRE.out.mono ?_
    rintro e w' ⟨rfl, rfl⟩
    by_cases hq : q10 = some []
    · have hes : ps.map Prod.fst = es := HF.out (fun h => by have := HN9.out h; rw [hq] at this; cases this)
      have hok : decide ((a8 : Int) = 1) = (a8 == 1) := by
        by_cases h : a8 = 1
        · subst h; rfl
        · rw [decide_eq_false (by omega)]; simp [h]
      have hdm : decM l = (0, some M) := by
        rw [HDN.out]
        simp only [decI, headS, HA1.out, HA2.out, HA3.out, HA4.out, HA5.out, HA6.out, HA7.out, HA8.out, HA9.out, HA10.out]
        rw [if_pos hq, HM.out, hok, hes]
        rfl
      have hme : M.es = ps.map Prod.fst ∧ M.dt = dt := by rw [HM.out]; exact ⟨rfl, rfl⟩
      have HME := Lib.hid hme
      have HDM := Lib.hid hdm
      have b0 : W.cell? ⟨w12.heap.size, 0, none⟩ = some (.int .u8 (M.k : Int)) := cellk HY.out rfl
      have b1 : W.cell? ⟨w12.heap.size, 1, none⟩ = some (.int .i64 M.fr) := cellk HY.out rfl
      have b2 : W.cell? ⟨w12.heap.size, 2, none⟩ = some (.int .i64 M.tg) := cellk HY.out rfl
      have b3 : W.cell? ⟨w12.heap.size, 3, none⟩ = some (.int .u64 (M.tm : Int)) := cellk HY.out rfl
      have b4 : W.cell? ⟨w12.heap.size, 4, none⟩ = some (.int .u64 (M.ix : Int)) := cellk HY.out rfl
      have b5 : W.cell? ⟨w12.heap.size, 5, none⟩ = some (.int .u64 (M.lt : Int)) := cellk HY.out rfl
      have b6 : W.cell? ⟨w12.heap.size, 6, none⟩ = some (.int .u64 (M.cm : Int)) := cellk HY.out rfl
      have b7 : W.cell? ⟨w12.heap.size, 7, none⟩ = some (.bool M.ok) := cellk HY.out rfl
      have b8 : W.cell? ⟨w12.heap.size, 8, none⟩ = some (.slice oe ps.length ce) := cellk HY.out rfl
      have b9 : W.cell? ⟨w12.heap.size, 9, none⟩ = some (.slice od dt.length cd) := cellk HY.out rfl
      have bl := lt_of_block HY.out
      clear hes hok hdm hme i0 i1 wu HM HF HN9 HRE HPP HDN HA1 HA2 HA3 HA4 HA5 HA6 HA7 HA8 HA9 HA10
      subst hq
      go_wp2_with (refine wpList_store_row rfl 49 (.tmp 2) (.tmp 46) rfl w.heap.size (mgC M (.slice oe ps.length ce) (.slice od dt.length cd)).toArray rfl rfl 49 _ HXW.out (by kernel_rfl) rfl (by simp [mgC, Value.oneCell']) ?_)
      refine bdec_ret (setRow_heap _ _ _ _ _ _ HXW.out) (HBW.out.trans ((row_kept _ _ _).below HBW.out.size (fun k hk => by omega))) ⟨_, _, rfl, ?_, ?_⟩ (.inl HDM.out) rfl rfl rfl
      · rw [HME.out.1]; exact (HOW.out.kept (row_kept _ _ _) (fun g hg e => by have h1 := (HOW.out.row.lt g hg).1; have h2 := HZW.out.1; have h3 : g = w.heap.size := e; omega) (fun p hp g hg e => by have h1 := ((HOW.out.cells p hp).lt g hg).1; have h2 := HZW.out.1; have h3 : g = w.heap.size := e; omega)).re
      · rw [HME.out.2]; exact Rd.of_own (own_kept HDW.out (row_kept _ _ _) (fun g hg e => by have h1 := (HDW.out.lt g hg).1; have h2 := HZW.out.2; have h3 : g = w.heap.size := e; omega))
    · have hdm : decM l = (3, none) := by
        rw [HDN.out]
        simp only [decI, headS, HA1.out, HA2.out, HA3.out, HA4.out, HA5.out, HA6.out, HA7.out, HA8.out, HA9.out, HA10.out]
        rw [if_neg hq]
        rfl
      have HDM := Lib.hid hdm
      have hqb : (q10 == some []) = false := by simpa using hq
      clear hdm i0 i1 wu HM HF HN9 HRE HPP HDN HA1 HA2 HA3 HA4 HA5 HA6 HA7 HA8 HA9 HA10
      rw [hqb]
      go_wp2_with (refine wpList_store_row rfl 49 (.tmp 2) (.tmp 45) rfl w.heap.size (mgC mg0 (.slice none 0 0) (.slice none 0 0)).toArray rfl rfl 49 _ HXW.out (by kernel_rfl) rfl (by simp [mgC, mg0, Value.oneCell']) ?_)
      refine bdec_ret (setRow_heap _ _ _ _ _ _ HXW.out) (HBW.out.trans ((row_kept _ _ _).below HBW.out.size (fun k hk => by omega))) (mg0_r _) (.inr ⟨rfl, HDM.out⟩) rfl rfl rfl
  · have hdm : decM l = (er, none) := by rw [HDM.out, if_pos her]
    have HDN := Lib.hid hdm
    clear hdm HDM
    go_wp2_with (refine wpList_store_row rfl 49 (.tmp 2) (.tmp 15) rfl w.heap.size (mgC mg0 (.slice none 0 0) (.slice none 0 0)).toArray rfl rfl 49 _ HX1.out (by kernel_rfl) rfl (by simp [mgC, mg0, Value.oneCell']) ?_)
    refine bdec_ret (setRow_heap _ _ _ _ _ _ HX1.out) ((HB1.out.trans ((row_kept _ _ _).below HB1.out.size (fun k hk => by omega)))) (mg0_r _) (.inr ⟨rfl, HDN.out⟩) rfl rfl rfl
end Go.Proofs.Ytjbailnnaigjbaa
