/- The reference's message of bytes: the walk. -/
import Derived.Test.YtdofddgodinphaaBmD
import Derived.Test.YtdofddgodinphaaBmO
namespace Go.Proofs.Ytdofddgodinphaa
open Go.RowKit OctM

theorem row_re {w : World} {base : Nat} {v : Value} {ps : List (En × Value)} (h : w.ownsRow base 29 4 v ps.length (CsE ps)) (hq : ∀ q ∈ ps, Rd w q.2 q.1.cl) : RE w v (ps.map Prod.fst) := by
  obtain ⟨o, c, hv⟩ := own_slice' h
  refine ⟨o, c, by rw [List.length_map]; exact hv, fun i x hx => ?_⟩
  rw [List.getElem?_map] at hx
  obtain ⟨p, hp, rfl⟩ : ∃ p, ps[i]? = some p ∧ p.1 = x := by simpa using hx
  have hi := (List.getElem?_eq_some_iff.1 hp).1
  obtain ⟨g, c', hv', _, _, _, hc⟩ := own_at h (by omega)
  rw [hv] at hv'
  injection hv' with hv'
  have hget : ∀ j u, (cE p)[j]? = some u → w.cell? ⟨g, 0 + i * 4 + j, none⟩ = some u := fun j u hu => by
    have := hc _ _ (CsE_get ps i p hp j u hu)
    rwa [Nat.zero_add]
  refine ⟨g, 0, hv', p.2, hget 0 _ rfl, hget 1 _ rfl, hget 2 _ rfl, hget 3 _ rfl, hq p (List.mem_of_getElem? hp)⟩

/-- What is told of bytes by the reference. -/
theorem rdec_ret {w W : World} {l : List UInt8} {m : Mg} {ve vd : Value} {tm : Array Value} {er : Int} (hf : W.heap[w.heap.size]? = some (.cells (mgC m ve vd).toArray 35 (0, 0))) (hb : Below w.heap.size w W)
    (hm : MgR W (mgV m ve vd) m) (hd : decM l = (er, some m) ∨ (m = mg0 ∧ decM l = (er, none))) (h2 : tm.getD 2 undef = .pointer (some ⟨w.heap.size, 0, none⟩)) (h3 : tm.getD 3 undef = .int .i64 er) :
    bodyPost Try.prog Try.f11 (DecP w l) .ret ⟨tm, []⟩ W := by
  have g2 : tm[2]?.getD undef = .pointer (some ⟨w.heap.size, 0, none⟩) := by simpa using h2
  have g3 : tm[3]?.getD undef = .int .i64 er := by simpa using h3
  have r0 : W.cell? ⟨w.heap.size, 0, none⟩ = some (.int .u8 (m.k : Int)) := cellk hf rfl
  have r1 : W.cell? ⟨w.heap.size, 1, none⟩ = some (.int .i64 m.fr) := cellk hf rfl
  have r2 : W.cell? ⟨w.heap.size, 2, none⟩ = some (.int .i64 m.tg) := cellk hf rfl
  have r3 : W.cell? ⟨w.heap.size, 3, none⟩ = some (.int .u64 (m.tm : Int)) := cellk hf rfl
  have r4 : W.cell? ⟨w.heap.size, 4, none⟩ = some (.int .u64 (m.ix : Int)) := cellk hf rfl
  have r5 : W.cell? ⟨w.heap.size, 5, none⟩ = some (.int .u64 (m.lt : Int)) := cellk hf rfl
  have r6 : W.cell? ⟨w.heap.size, 6, none⟩ = some (.int .u64 (m.cm : Int)) := cellk hf rfl
  have r7 : W.cell? ⟨w.heap.size, 7, none⟩ = some (.bool m.ok) := cellk hf rfl
  have r8 : W.cell? ⟨w.heap.size, 8, none⟩ = some ve := cellk hf rfl
  have r9 : W.cell? ⟨w.heap.size, 9, none⟩ = some vd := cellk hf rfl
  refine bodyPost_ret (v := .tuple #[mgV m ve vd, .int .i64 er]) (by simp [mgV, results, Try.results11, go_sem, g2, g3, r0, r1, r2, r3, r4, r5, r6, r7, r8, r9]) rfl ⟨hb, mgV m ve vd, ?_, ?_⟩
  · rcases hd with hd | ⟨_, hd⟩ <;> rw [hd]
  · rcases hd with hd | ⟨rfl, hd⟩ <;> rw [hd] <;> exact hm

set_option maxHeartbeats 8000000 in
set_option maxRecDepth 100000 in
theorem rdecode (b : Value) (l : List UInt8) (w : World) (h : Rd w b l) (hl : l.length ≤ 1000000) : Calls Try.prog 11 #[b] w (DecP w l) := by
  go_enter Try.func11, Try.ntmps11
  obtain ⟨W0, hW0⟩ : ∃ W0, w.alloc (.cells (mgC mg0 (.slice none 0 0) (.slice none 0 0)).toArray 35) = W0 := ⟨_, rfl⟩
  have hx0 := (congrArg (fun W => W.heap[w.heap.size]?) hW0).symm.trans (World.alloc_heap_new w (.cells (mgC mg0 (.slice none 0 0) (.slice none 0 0)).toArray 35))
  have hb0 : Below w.heap.size w W0 := by rw [← hW0]; exact (Below.refl _ _).alloc (Nat.le_refl _) _
  have hz0 : w.heap.size < W0.heap.size := by rw [← hW0]; simp
  have H1 := Lib.hid (refopen2 b l W0 (h.below hb0) (by omega))
  have HX0 := Lib.hid hx0
  have HB0 := Lib.hid hb0
  have hW1 := hW0
  unfold mgC mg0 at hW1
  simp only [show ((0 : Nat) : Int) = 0 from rfl] at hW1
  have HW1 := Lib.hid hW1
  have HH := Lib.hid h
  clear hx0 hb0 hW0 hW1 h
  go_wp2_with (rw [HW1.out])
  refine H1.out.mono ?_
  rintro e w1 ⟨⟨v, rfl, hall⟩, hb1⟩
  have hrd := hall w1 (HH.out.below (HB0.out.trans (hb1.mono HB0.out.size)))
  have HVA := Lib.hid hall
  have HDM : Hid (decM l = if (openS l).2 ≠ 0 then ((openS l).2, none) else finM (decI (openS l).1)) := rfl
  have HB1 := Lib.hid (HB0.out.trans (hb1.mono HB0.out.size))
  have HX1 := Lib.hid ((hb1.block _ hz0).trans HX0.out)
  have hz1 : w.heap.size < w1.heap.size := Nat.lt_of_lt_of_le hz0 hb1.size
  have hlp : (openS l).1.length ≤ 1000000 := by
    have : (openS l).1.length ≤ l.length := by
      unfold openS
      split
      · simp
      · split
        · simp only [List.length_take]
          omega
        · simp
    omega
  generalize (openS l).1 = p at *
  generalize (openS l).2 = er at *
  clear hall hb1 hz0 HW1 H1 HX0 HB0
  by_cases her : er = 0
  · subst her
    have hdm : decM l = finM (decI p) := by rw [HDM.out, if_neg (fun h => h rfl)]
    have HDN := Lib.hid hdm
    obtain ⟨ox, cx, rfl⟩ : ∃ o c, v = .slice o p.length c := by
      rcases hrd with ⟨rfl, rfl⟩ | ⟨_, c, rfl, _⟩ <;> exact ⟨_, _, rfl⟩
    have HRD := Lib.hid hrd
    have hm1 : (p.length : Int) ≤ 1000000 := by omega
    generalize hm : p.length = m at *
    have HPM := Lib.hid hm
    have HLM : Hid (p.length ≤ 140737488351232) := Lib.hid (by rw [hm]; omega)
    have hal : Below w1.heap.size w1 (w1.alloc (.cells #[.slice ox m cx, .int .i64 0] 76)) := (Below.refl _ _).alloc (Nat.le_refl _) _
    have hrr : RR (w1.alloc (.cells #[.slice ox m cx, .int .i64 0] 76)) w1.heap.size (.slice ox m cx) p (some p) := rr_init hrd (Nat.le_refl _) (heap_alloc_new w1 _) hal
    have HU1 := Lib.hid (rrupto w1.heap.size (.slice ox m cx) p (some p) 255 _ hrr HLM.out (by omega) (by omega))
    have HXB : Hid (p ≠ [] → ∀ g, (Value.slice ox m cx).ownBlock = some g → g < w1.heap.size) := Lib.hid (by
      intro hne g hg
      rcases HRD.out with ⟨h1, h2⟩ | ⟨a, c, h1, _, _, h4⟩
      · exact absurd h2 hne
      · injection h1 with h1 _ _
        subst h1
        have hg' : a.block = g := by simpa [Value.ownBlock] using hg
        rcases p with _ | ⟨y, t⟩
        · exact absurd rfl hne
        · have h5 := World.block_lt_of_cell? w1 _ (h4 0 y rfl)
          have h6 : (a.add 0).block = a.block := by unfold Addr.add; split <;> rfl
          rw [h6] at h5
          omega)
    have hn1 := uptoS_most (some p) 255
    clear hdm HDM hrd hm hal hrr
    go_wp2_with fail
    refine HU1.out.mono ?_
    rintro e w3 ⟨rfl, hs, hk⟩
    have HA1 : Hid (uptoS (some p) 255 = ((uptoS (some p) 255).1, (uptoS (some p) 255).2)) := rfl
    generalize (uptoS (some p) 255).1 = a1 at *
    generalize (uptoS (some p) 255).2 = q1 at *
    have i1 : (a1 : Int) ≤ 255 := by omega
    have i0 : (0 : Int) ≤ (a1 : Int) := by omega
    have wu : IntKind.u8.wrap (a1 : Int) = (a1 : Int) := IntWalk.u8_in _ ⟨i0, i1⟩
    have hal : Below w1.heap.size w1 (w1.alloc (.cells #[.slice ox m cx, .int .i64 0] 76)) := (Below.refl _ _).alloc (Nat.le_refl _) _
    have hb3 : Below w1.heap.size w1 w3 := hal.trans (hk.below hal.size (by rintro k ⟨a, ha, rfl⟩; injection ha with ha; subst ha; exact Nat.le_refl _))
    have hX3 := (hb3.block _ hz1).trans HX1.out
    have hz3 : w1.heap.size < w3.heap.size := lt_of_block hs.cell.choose_spec.1
    have HB3 := Lib.hid hb3
    have HX3 := Lib.hid hX3
    have HS3 := Lib.hid hs
    have HZ3 := Lib.hid hz3
    have HZ1 := Lib.hid hz1
    clear hs hk hal hb3 hX3 hz1 hz3 HX1 HU1
    generalize hrb : w1.heap.size = rb at *
    have HRB := Lib.hid hrb
    clear hrb
    go_wp2_with (refine wpList_store_row rfl 35 (.tmp 7) (.tmp 26) rfl w3.heap.size #[.int .u8 (a1 : Int), .int .i64 0, .int .i64 0, .int .u64 0, .int .u64 0, .int .u64 0, .int .u64 0, .bool false, .slice none 0 0, .slice none 0 0] rfl rfl 35 (mgC mg0 (.slice none 0 0) (.slice none 0 0)).toArray (heap_alloc_new w3 _) (by kernel_rfl) rfl (by simp [Value.oneCell']) ?_; generalize hW : World.setRow _ _ _ = W)

    have hal : Below w3.heap.size w3 (w3.alloc (.cells (mgC mg0 (.slice none 0 0) (.slice none 0 0)).toArray 35)) := (Below.refl _ _).alloc (Nat.le_refl _) _
    have hkW : Kept (fun k => w3.heap.size ≤ k) w3 W := by rw [← hW]; exact (kept_of_below hal).trans ((row_kept _ _ _).weak (fun k _ hk => by omega))
    have hxb : ∀ hp : p ≠ [], ∀ g, (Value.slice ox m cx).ownBlock = some g → g < rb := HXB.out
    have HM1 : Hid (RM w W rb w3.heap.size (.slice ox m cx) p q1 [.int .u8 (a1 : Int), .int .i64 0, .int .i64 0, .int .u64 0, .int .u64 0, .int .u64 0, .int .u64 0, .bool false, .slice none 0 0, .slice none 0 0]) := Lib.hid ⟨HS3.out.keep hkW (by have := HZ3.out; omega) (fun hp g hg e => by have h1 := hxb hp g hg; have h2 := HZ3.out; have h3 : w3.heap.size ≤ g := e; omega),
      by rw [← hW]; exact setRow_heap _ _ _ _ _ _ (heap_alloc_new w3 _), (hkW.block _ (lt_of_block HX3.out) (by have h1 := HZ1.out; have h2 := HZ3.out; intro h3; have h4 : w3.heap.size ≤ w.heap.size := h3; omega)).trans HX3.out,
      (HB1.out.trans ((by rw [HRB.out]; exact HB3.out : Below w1.heap.size w1 w3).mono HB1.out.size)).trans (hkW.below (Nat.le_of_lt (by have := lt_of_block HX3.out; exact this)) (fun k hk => by have h1 := HZ1.out; have h2 := HZ3.out; have h3 : w3.heap.size ≤ k := hk; omega)), HZ1.out, HZ3.out, hxb⟩
    clear hal hkW hxb hW HX3 HB3 HS3 HXB HB1 i0 i1 wu
    generalize w3.heap.size = mb at *
    have HU2 := Lib.hid (rrint rb (.slice ox m cx) p q1 _ HM1.out.rr HLM.out)
    go_wp2_with fail
    refine HU2.out.mono ?_
    rintro e y2 ⟨rfl, hs, hk⟩
    have hm1' := HM1.out.call hk hs
    have HA2 : Hid ((uintS q1) = ((uintS q1).1, (uintS q1).2)) := rfl
    generalize (uintS q1).1 = a2 at *
    generalize (uintS q1).2 = q2 at *
    have c2 : y2.cell? ⟨mb, 1, none⟩ = some (.int .i64 0) := hm1'.cell rfl
    have f2 := free_of hm1'.mc 1
    have l2 := lt_of_block hm1'.mc
    have HM2 : Hid (RM w (y2.setCell ⟨mb, 1, none⟩ (.int .i64 (unzig a2))) rb mb (.slice ox m cx) p q2 [.int .u8 (a1 : Int), .int .i64 (unzig a2), .int .i64 0, .int .u64 0, .int .u64 0, .int .u64 0, .int .u64 0, .bool false, .slice none 0 0, .slice none 0 0]) := Lib.hid (hm1'.set 1 (.int .i64 (unzig a2)))
    clear hs hk hm1' HU2 HM1
    have HU3 := Lib.hid (rrint rb (.slice ox m cx) p q2 _ HM2.out.rr HLM.out)
    go_wp2_with fail
    refine HU3.out.mono ?_
    rintro e y3 ⟨rfl, hs, hk⟩
    have hm1' := HM2.out.call hk hs
    have HA3 : Hid ((uintS q2) = ((uintS q2).1, (uintS q2).2)) := rfl
    generalize (uintS q2).1 = a3 at *
    generalize (uintS q2).2 = q3 at *
    have c3 : y3.cell? ⟨mb, 2, none⟩ = some (.int .i64 0) := hm1'.cell rfl
    have f3 := free_of hm1'.mc 2
    have l3 := lt_of_block hm1'.mc
    have HM3 : Hid (RM w (y3.setCell ⟨mb, 2, none⟩ (.int .i64 (unzig a3))) rb mb (.slice ox m cx) p q3 [.int .u8 (a1 : Int), .int .i64 (unzig a2), .int .i64 (unzig a3), .int .u64 0, .int .u64 0, .int .u64 0, .int .u64 0, .bool false, .slice none 0 0, .slice none 0 0]) := Lib.hid (hm1'.set 2 (.int .i64 (unzig a3)))
    clear hs hk hm1' HU3 HM2
    have HU4 := Lib.hid (rruint rb (.slice ox m cx) p q3 _ HM3.out.rr HLM.out)
    go_wp2_with fail
    refine HU4.out.mono ?_
    rintro e y4 ⟨rfl, hs, hk⟩
    have hm1' := HM3.out.call hk hs
    have HA4 : Hid ((uintS q3) = ((uintS q3).1, (uintS q3).2)) := rfl
    generalize (uintS q3).1 = a4 at *
    generalize (uintS q3).2 = q4 at *
    have c4 : y4.cell? ⟨mb, 3, none⟩ = some (.int .u64 0) := hm1'.cell rfl
    have f4 := free_of hm1'.mc 3
    have l4 := lt_of_block hm1'.mc
    have HM4 : Hid (RM w (y4.setCell ⟨mb, 3, none⟩ (.int .u64 (a4 : Int))) rb mb (.slice ox m cx) p q4 [.int .u8 (a1 : Int), .int .i64 (unzig a2), .int .i64 (unzig a3), .int .u64 (a4 : Int), .int .u64 0, .int .u64 0, .int .u64 0, .bool false, .slice none 0 0, .slice none 0 0]) := Lib.hid (hm1'.set 3 (.int .u64 (a4 : Int)))
    clear hs hk hm1' HU4 HM3
    have HU5 := Lib.hid (rruint rb (.slice ox m cx) p q4 _ HM4.out.rr HLM.out)
    go_wp2_with fail
    refine HU5.out.mono ?_
    rintro e y5 ⟨rfl, hs, hk⟩
    have hm1' := HM4.out.call hk hs
    have HA5 : Hid ((uintS q4) = ((uintS q4).1, (uintS q4).2)) := rfl
    generalize (uintS q4).1 = a5 at *
    generalize (uintS q4).2 = q5 at *
    have c5 : y5.cell? ⟨mb, 4, none⟩ = some (.int .u64 0) := hm1'.cell rfl
    have f5 := free_of hm1'.mc 4
    have l5 := lt_of_block hm1'.mc
    have HM5 : Hid (RM w (y5.setCell ⟨mb, 4, none⟩ (.int .u64 (a5 : Int))) rb mb (.slice ox m cx) p q5 [.int .u8 (a1 : Int), .int .i64 (unzig a2), .int .i64 (unzig a3), .int .u64 (a4 : Int), .int .u64 (a5 : Int), .int .u64 0, .int .u64 0, .bool false, .slice none 0 0, .slice none 0 0]) := Lib.hid (hm1'.set 4 (.int .u64 (a5 : Int)))
    clear hs hk hm1' HU5 HM4
    have HU6 := Lib.hid (rruint rb (.slice ox m cx) p q5 _ HM5.out.rr HLM.out)
    go_wp2_with fail
    refine HU6.out.mono ?_
    rintro e y6 ⟨rfl, hs, hk⟩
    have hm1' := HM5.out.call hk hs
    have HA6 : Hid ((uintS q5) = ((uintS q5).1, (uintS q5).2)) := rfl
    generalize (uintS q5).1 = a6 at *
    generalize (uintS q5).2 = q6 at *
    have c6 : y6.cell? ⟨mb, 5, none⟩ = some (.int .u64 0) := hm1'.cell rfl
    have f6 := free_of hm1'.mc 5
    have l6 := lt_of_block hm1'.mc
    have HM6 : Hid (RM w (y6.setCell ⟨mb, 5, none⟩ (.int .u64 (a6 : Int))) rb mb (.slice ox m cx) p q6 [.int .u8 (a1 : Int), .int .i64 (unzig a2), .int .i64 (unzig a3), .int .u64 (a4 : Int), .int .u64 (a5 : Int), .int .u64 (a6 : Int), .int .u64 0, .bool false, .slice none 0 0, .slice none 0 0]) := Lib.hid (hm1'.set 5 (.int .u64 (a6 : Int)))
    clear hs hk hm1' HU6 HM5
    have HU7 := Lib.hid (rruint rb (.slice ox m cx) p q6 _ HM6.out.rr HLM.out)
    go_wp2_with fail
    refine HU7.out.mono ?_
    rintro e y7 ⟨rfl, hs, hk⟩
    have hm1' := HM6.out.call hk hs
    have HA7 : Hid ((uintS q6) = ((uintS q6).1, (uintS q6).2)) := rfl
    generalize (uintS q6).1 = a7 at *
    generalize (uintS q6).2 = q7 at *
    have c7 : y7.cell? ⟨mb, 6, none⟩ = some (.int .u64 0) := hm1'.cell rfl
    have f7 := free_of hm1'.mc 6
    have l7 := lt_of_block hm1'.mc
    have HM7 : Hid (RM w (y7.setCell ⟨mb, 6, none⟩ (.int .u64 (a7 : Int))) rb mb (.slice ox m cx) p q7 [.int .u8 (a1 : Int), .int .i64 (unzig a2), .int .i64 (unzig a3), .int .u64 (a4 : Int), .int .u64 (a5 : Int), .int .u64 (a6 : Int), .int .u64 (a7 : Int), .bool false, .slice none 0 0, .slice none 0 0]) := Lib.hid (hm1'.set 6 (.int .u64 (a7 : Int)))
    clear hs hk hm1' HU7 HM6
    have HU8 := Lib.hid (rrupto rb (.slice ox m cx) p q7 1 _ HM7.out.rr HLM.out (by omega) (by omega))
    go_wp2_with fail
    refine HU8.out.mono ?_
    rintro e y8 ⟨rfl, hs, hk⟩
    have hm1' := HM7.out.call hk hs
    have HA8 : Hid ((uptoS q7 1) = ((uptoS q7 1).1, (uptoS q7 1).2)) := rfl
    generalize (uptoS q7 1).1 = a8 at *
    generalize (uptoS q7 1).2 = q8 at *
    have c8 : y8.cell? ⟨mb, 7, none⟩ = some (.bool false) := hm1'.cell rfl
    have f8 := free_of hm1'.mc 7
    have l8 := lt_of_block hm1'.mc
    have HM8 : Hid (RM w (y8.setCell ⟨mb, 7, none⟩ (.bool (decide ((a8 : Int) = 1)))) rb mb (.slice ox m cx) p q8 [.int .u8 (a1 : Int), .int .i64 (unzig a2), .int .i64 (unzig a3), .int .u64 (a4 : Int), .int .u64 (a5 : Int), .int .u64 (a6 : Int), .int .u64 (a7 : Int), .bool (decide ((a8 : Int) = 1)), .slice none 0 0, .slice none 0 0]) := Lib.hid (hm1'.set 7 (.bool (decide ((a8 : Int) = 1))))
    clear hs hk hm1' HU8 HM7
    have HU9 := Lib.hid (rrupto rb (.slice ox m cx) p q8 65536 _ HM8.out.rr HLM.out (by omega) (by omega))
    have hn9 := uptoS_most q8 65536
    go_wp2_with fail
    refine HU9.out.mono ?_
    rintro e y9 ⟨rfl, hs, hk⟩
    have HM9 := Lib.hid (HM8.out.call hk hs)
    have HA9 : Hid (uptoS q8 65536 = ((uptoS q8 65536).1, (uptoS q8 65536).2)) := rfl
    generalize (uptoS q8 65536).1 = N at *
    generalize (uptoS q8 65536).2 = q9 at *
    clear hs hk HU9 HM8
    have hNi : (N : Int) ≤ 65536 := by omega
    go_wp2_with fail
    go_loopg [9] (N + 1) (fun kx t9 wr => ∃ (j : Nat) (s : Option (List UInt8)) (ps : List (En × Value)) (lv : Value), j ≤ N ∧ t9 = .int .i64 (j : Int) ∧ N - j < kx ∧ Hid (ps.length = j) ∧ Hid (RM w wr rb mb (.slice ox m cx) p s [.int .u8 (a1 : Int), .int .i64 (unzig a2), .int .i64 (unzig a3), .int .u64 (a4 : Int), .int .u64 (a5 : Int), .int .u64 (a6 : Int), .int .u64 (a7 : Int), .bool (decide ((a8 : Int) = 1)), lv, .slice none 0 0]) ∧ Hid (wr.ownsRow (mb + 1) 29 4 lv ps.length (CsE ps)) ∧ Hid (∀ q ∈ ps, ∀ W, Rd W (.slice ox m cx) p → Rd W q.2 q.1.cl) ∧ Hid ((s ≠ none → entsS N q9 = (ps.map Prod.fst ++ (entsS (N - j) s).1, (entsS (N - j) s).2)) ∧ (s = none → (entsS N q9).2 = none)))
    case atStart => exact ⟨0, q9, [], .slice none 0 0, by omega, rfl, by omega, Lib.hid rfl, HM9, Lib.hid (World.ownsRow_nil _ _ _ _), Lib.hid (fun _ h => (List.not_mem_nil h).elim), Lib.hid ⟨fun _ => rfl, fun h => by rw [h]; exact (entsS_none _).1⟩⟩
    case round =>
      clear HM9
      obtain ⟨j, s, ps, lv, hj, rfl, hkx, HPL, HM, HO, HQ, HC⟩ := hrel
      by_cases hlt : j < N
      · have hltI : (j : Int) < (N : Int) := by omega
        rcases s with _ | rest
        · obtain ⟨⟨a0, hc0, ha0⟩, -⟩ := HM.out.rr
          obtain rfl : a0 = -1 := by
            rcases ha0 with ⟨_, h⟩ | ⟨k, _, _, h⟩
            · exact h
            · cases h
          have cR := cell1_of_two hc0
          have HE : Hid (entsS N q9 = ((entsS N q9).1, none)) := Lib.hid (by rw [← HC.out.2 rfl])
          generalize (entsS N q9).1 = es at *
          have HF : Hid ((none : Option (List UInt8)) ≠ none → ps.map Prod.fst = es) := Lib.hid (fun h => absurd rfl h)
          clear hc0 ha0 HC
          have HU10 := Lib.hid (rrbytes2 rb (.slice ox m cx) p none 1048576 _ HM.out.rr HLM.out (by omega) (by omega))
          go_wp2_with fail
          refine HU10.out.mono ?_
          rintro e z1 ⟨⟨u, rfl, hu⟩, hs, hk⟩
          have HA10 : Hid (bytesS none 1048576 = ((bytesS none 1048576).1, (bytesS none 1048576).2)) := rfl
          have HN10 : Hid ((none : Option (List UInt8)) = none → (bytesS none 1048576).2 = none) := Lib.hid (by intro hs; rw [hs, bytesS_none])
          generalize (bytesS none 1048576).1 = dt at *
          generalize (bytesS none 1048576).2 = qx at *
          have hm1' := HM.out.call hk hs
          have HOZ := Lib.hid (own_kept HO.out hk (by rintro g hg ⟨a, ha, hb⟩; injection ha with ha; subst ha; have h1 := (HO.out.lt g hg).1; have h2 := HM.out.hi; have h3 : rb = g := hb; omega))
          have hru := hu w1 HRD.out
          obtain ⟨ou, cu, rfl⟩ : ∃ o c, u = .slice o dt.length c := by
            rcases hru with ⟨rfl, rfl⟩ | ⟨_, c, rfl, _⟩ <;> exact ⟨_, _, rfl⟩
          have HU := Lib.hid hu
          have c9 : z1.cell? ⟨mb, 9, none⟩ = some (.slice none 0 0) := hm1'.cell rfl
          have f9 := free_of hm1'.mc 9
          have l9 := lt_of_block hm1'.mc
          have HMZ := Lib.hid (hm1'.set 9 (.slice ou dt.length cu))
          obtain ⟨⟨ax, hcx, hax⟩, -⟩ := HMZ.out.rr
          have cA := cell1_of_two hcx
          have HOY := Lib.hid (own_kept HOZ.out ((Kept.refl (fun k => k = mb) z1).setCell (p := ⟨mb, 9, none⟩) (.inl rfl) (.slice ou dt.length cu)) (fun g hg e => by have h1 := (HOZ.out.lt g hg).1; omega))
          clear hs hk hm1' hru hu hcx HU10 HM HO HOZ
          by_cases hq : qx = some []
          · have hes : ps.map Prod.fst = es := HF.out (fun h => by have := HN10.out h; rw [hq] at this; cases this)
            obtain rfl : ax = (m : Int) := by
              rcases hax with ⟨h1, _⟩ | ⟨k, h1, h2, h3⟩
              · rw [hq] at h1; cases h1
              · rw [hq] at h3
                injection h3 with h3
                have h4 := congrArg List.length h3
                rw [List.length_drop, HPM.out] at h4
                rw [HPM.out] at h2
                rw [h1]
                have h5 : k = m := by simp at h4; omega
                rw [h5]
            have hok : decide ((a8 : Int) = 1) = (a8 == 1) := by
              by_cases h : a8 = 1
              · subst h; rfl
              · rw [decide_eq_false (by omega)]; simp [h]
            have hdm : decM l = (0, some ⟨a1, unzig a2, unzig a3, a4, a5, a6, a7, decide ((a8 : Int) = 1), ps.map Prod.fst, dt⟩) := by
              rw [HDN.out]
              simp only [decI, headS, HA1.out, HA2.out, HA3.out, HA4.out, HA5.out, HA6.out, HA7.out, HA8.out, HA9.out, HE.out, HA10.out]
              rw [if_pos hq, hok, hes]
              rfl
            have HDM := Lib.hid hdm
            have b0 : (z1.setCell ⟨mb, 9, none⟩ (.slice ou dt.length cu)).cell? ⟨mb, 0, none⟩ = some (.int .u8 (a1 : Int)) := HMZ.out.cell rfl
            have b1 : (z1.setCell ⟨mb, 9, none⟩ (.slice ou dt.length cu)).cell? ⟨mb, 1, none⟩ = some (.int .i64 (unzig a2)) := HMZ.out.cell rfl
            have b2 : (z1.setCell ⟨mb, 9, none⟩ (.slice ou dt.length cu)).cell? ⟨mb, 2, none⟩ = some (.int .i64 (unzig a3)) := HMZ.out.cell rfl
            have b3 : (z1.setCell ⟨mb, 9, none⟩ (.slice ou dt.length cu)).cell? ⟨mb, 3, none⟩ = some (.int .u64 (a4 : Int)) := HMZ.out.cell rfl
            have b4 : (z1.setCell ⟨mb, 9, none⟩ (.slice ou dt.length cu)).cell? ⟨mb, 4, none⟩ = some (.int .u64 (a5 : Int)) := HMZ.out.cell rfl
            have b5 : (z1.setCell ⟨mb, 9, none⟩ (.slice ou dt.length cu)).cell? ⟨mb, 5, none⟩ = some (.int .u64 (a6 : Int)) := HMZ.out.cell rfl
            have b6 : (z1.setCell ⟨mb, 9, none⟩ (.slice ou dt.length cu)).cell? ⟨mb, 6, none⟩ = some (.int .u64 (a7 : Int)) := HMZ.out.cell rfl
            have b7 : (z1.setCell ⟨mb, 9, none⟩ (.slice ou dt.length cu)).cell? ⟨mb, 7, none⟩ = some (.bool (decide ((a8 : Int) = 1))) := HMZ.out.cell rfl
            have b8 : (z1.setCell ⟨mb, 9, none⟩ (.slice ou dt.length cu)).cell? ⟨mb, 8, none⟩ = some lv := HMZ.out.cell rfl
            have b9 : (z1.setCell ⟨mb, 9, none⟩ (.slice ou dt.length cu)).cell? ⟨mb, 9, none⟩ = some (.slice ou dt.length cu) := HMZ.out.cell rfl
            have bl := lt_of_block HMZ.out.mc
            obtain ⟨ol, cl, hlv⟩ := own_slice' HOY.out
            subst hlv
            clear hes hok hdm hax HF HN10 HDN HA1 HA2 HA3 HA4 HA5 HA6 HA7 HA8 HA9 HA10 HE
            subst hq
            go_wp2_with (refine wpList_store_row rfl 35 (.tmp 2) (.tmp 92) rfl w.heap.size (mgC ⟨a1, unzig a2, unzig a3, a4, a5, a6, a7, decide ((a8 : Int) = 1), ps.map Prod.fst, dt⟩ (.slice ol ps.length cl) (.slice ou dt.length cu)).toArray rfl rfl 35 _ HMZ.out.rc (by kernel_rfl) rfl (by simp [mgC, Value.oneCell']) ?_)
            have hbF := HMZ.out.bel.trans ((row_kept (z1.setCell ⟨mb, 9, none⟩ (.slice ou dt.length cu)) w.heap.size (mgC ⟨a1, unzig a2, unzig a3, a4, a5, a6, a7, decide ((a8 : Int) = 1), ps.map Prod.fst, dt⟩ (.slice ol ps.length cl) (.slice ou dt.length cu)).toArray).below HMZ.out.bel.size (fun k hk => by omega))
            have hrF := HVA.out _ (HH.out.below hbF)
            refine rdec_ret (setRow_heap _ _ _ _ _ _ HMZ.out.rc) hbF ⟨_, _, rfl, ?_, ?_⟩ (.inl HDM.out) rfl rfl
            · exact row_re (own_kept HOY.out (row_kept _ _ _) (fun g hg e => by have h1 := (HOY.out.lt g hg).1; have h2 := HMZ.out.hi; have h4 := HMZ.out.lo; have h3 : g = w.heap.size := e; omega)) (fun q hq => HQ.out q hq _ hrF)
            · exact HU.out _ hrF
          · have hdm : decM l = (3, none) := by
              rw [HDN.out]
              simp only [decI, headS, HA1.out, HA2.out, HA3.out, HA4.out, HA5.out, HA6.out, HA7.out, HA8.out, HA9.out, HE.out, HA10.out]
              rw [if_neg hq]
              rfl
            have HDM := Lib.hid hdm
            have hne : ¬ ax = (m : Int) := by
              intro h
              rcases hax with ⟨h1, h2⟩ | ⟨k, h1, h2, h3⟩
              · omega
              · apply hq
                rw [h3]
                congr 1
                apply List.drop_eq_nil_of_le
                rw [HPM.out]
                omega
            clear hdm hax HF HN10 HDN HA1 HA2 HA3 HA4 HA5 HA6 HA7 HA8 HA9 HA10 HE
            go_wp2_with (refine wpList_store_row rfl 35 (.tmp 2) (.tmp 91) rfl w.heap.size (mgC mg0 (.slice none 0 0) (.slice none 0 0)).toArray rfl rfl 35 _ HMZ.out.rc (by kernel_rfl) rfl (by simp [mgC, mg0, Value.oneCell']) ?_)
            refine rdec_ret (setRow_heap _ _ _ _ _ _ HMZ.out.rc) (HMZ.out.bel.trans ((row_kept _ _ _).below HMZ.out.bel.size (fun k hk => by omega))) (mg0_r _) (.inr ⟨rfl, HDM.out⟩) rfl rfl
        · obtain ⟨⟨a0, hc0, ha0⟩, -⟩ := HM.out.rr
          obtain ⟨k0, rfl⟩ : ∃ k : Nat, a0 = (k : Int) := by
            rcases ha0 with ⟨h, _⟩ | ⟨k, h, _⟩
            · cases h
            · exact ⟨k, h⟩
          have cR := cell1_of_two hc0
          have hk0 : (0 : Int) ≤ (k0 : Int) := by omega
          clear hc0 ha0
          have wi : IntKind.i64.wrap ((j : Int) + 1) = (j : Int) + 1 := IntWalk.i64_in _ (by omega)
          have HU1 := Lib.hid (rruint rb (.slice ox m cx) p (some rest) _ HM.out.rr HLM.out)
          go_wp2_with fail
          refine HU1.out.mono ?_
          rintro e x1 ⟨rfl, hs, hk⟩
          have HE1 : Hid (uintS (some rest) = ((uintS (some rest)).1, (uintS (some rest)).2)) := rfl
          have HES : Hid (entS (some rest) = (⟨(uintS (some rest)).1, (uintS (uintS (some rest)).2).1, (uintS (uintS (uintS (some rest)).2).2).1, (bytesS (uintS (uintS (uintS (some rest)).2).2).2 4000).1⟩, (bytesS (uintS (uintS (uintS (some rest)).2).2).2 4000).2)) := rfl
          generalize (uintS (some rest)).1 = n1 at *
          generalize (uintS (some rest)).2 = t1 at *
          have hm1 := HM.out.call hk hs
          have ho1 := own_kept HO.out hk (by rintro g hg ⟨a, ha, hb⟩; injection ha with ha; subst ha; have h1 := (HO.out.lt g hg).1; have h2 := HM.out.hi; have h3 : rb = g := hb; omega)
          have HM1 := Lib.hid hm1
          have HO1 := Lib.hid ho1
          clear hs hk hm1 ho1 HM HO HU1 cR
          go_wp2_with (refine wpList_store_row rfl 29 (.tmp 10) (.tmp 65) rfl x1.heap.size #[.int .u64 (n1 : Int), .int .u64 0, .int .u64 0, .slice none 0 0] rfl rfl 29 #[.int .u64 0, .int .u64 0, .int .u64 0, .slice none 0 0] (heap_alloc_new x1 _) (by kernel_rfl) rfl (by simp [Value.oneCell']) ?_; generalize hW : World.setRow _ _ _ = X)
          have hal : Below x1.heap.size x1 (x1.alloc (.cells #[.int .u64 0, .int .u64 0, .int .u64 0, .slice none 0 0] 29)) := (Below.refl _ _).alloc (Nat.le_refl _) _
          have hkX : Kept (fun k => x1.heap.size ≤ k) x1 X := by rw [← hW]; exact (kept_of_below hal).trans ((row_kept _ _ _).weak (fun k _ hk => by omega))
          have hxb : mb < x1.heap.size := lt_of_block HM1.out.mc
          have HLB : Hid (∀ g, lv.ownBlock = some g → g < x1.heap.size) := Lib.hid (fun g hg => (HO1.out.lt g hg).2)
          have HM2 := Lib.hid (HM1.out.up hkX (fun k hk => Nat.lt_of_lt_of_le hxb hk))
          have HO2 := Lib.hid (own_kept HO1.out hkX (fun g hg e => by have h1 := HLB.out g hg; have h2 : x1.heap.size ≤ g := e; omega))
          have HX2 : Hid (X.heap[x1.heap.size]? = some (.cells #[.int .u64 (n1 : Int), .int .u64 0, .int .u64 0, .slice none 0 0] 29 (0, 0))) := Lib.hid (by rw [← hW]; exact setRow_heap _ _ _ _ _ _ (heap_alloc_new x1 _))
          clear hal hkX hW HM1 HO1
          generalize x1.heap.size = xb at *
          have HU2 := Lib.hid (rruint rb (.slice ox m cx) p t1 _ HM2.out.rr HLM.out)
          go_wp2_with fail
          refine HU2.out.mono ?_
          rintro e x2 ⟨rfl, hs, hk⟩
          have HE2 : Hid (uintS t1 = ((uintS t1).1, (uintS t1).2)) := rfl
          generalize (uintS t1).1 = n2 at *
          generalize (uintS t1).2 = t2 at *
          have hm1' := HM2.out.call hk hs
          have ho1' := own_kept HO2.out hk (by rintro g hg ⟨a, ha, hb⟩; injection ha with ha; subst ha; have h1 := (HO2.out.lt g hg).1; have h2 := HM2.out.hi; have h3 : rb = g := hb; omega)
          have hx1' := (hk.block xb (lt_of_block HX2.out) (by rintro ⟨a, ha, hb⟩; injection ha with ha; subst ha; have h2 := HM2.out.hi; have h3 : rb = xb := hb; omega)).trans HX2.out
          have c1 : x2.cell? ⟨xb, 1, none⟩ = some (.int .u64 0) := cellk hx1' rfl
          have f1 := free_of hx1' 1
          have l1 := lt_of_block hx1'
          have hks : Kept (fun k => k = xb) x2 (x2.setCell ⟨xb, 1, none⟩ (.int .u64 (n2 : Int))) := (Kept.refl (fun k => k = xb) x2).setCell (p := ⟨xb, 1, none⟩) (.inl rfl) _
          have HM3 := Lib.hid (hm1'.up hks (fun k hk => by omega))
          have HO3 := Lib.hid (own_kept ho1' hks (fun g hg e => by have h1 := HLB.out g hg; omega))
          have HX3 : Hid ((x2.setCell ⟨xb, 1, none⟩ (.int .u64 (n2 : Int))).heap[xb]? = some (.cells #[.int .u64 (n1 : Int), .int .u64 (n2 : Int), .int .u64 0, .slice none 0 0] 29 (0, 0))) := Lib.hid (set_block hx1')
          clear hs hk hm1' ho1' hx1' hks HM2 HO2 HX2 HU2
          have HU3 := Lib.hid (rruint rb (.slice ox m cx) p t2 _ HM3.out.rr HLM.out)
          go_wp2_with fail
          refine HU3.out.mono ?_
          rintro e x3 ⟨rfl, hs, hk⟩
          have HE3 : Hid (uintS t2 = ((uintS t2).1, (uintS t2).2)) := rfl
          generalize (uintS t2).1 = n3 at *
          generalize (uintS t2).2 = t3 at *
          have hm1' := HM3.out.call hk hs
          have ho1' := own_kept HO3.out hk (by rintro g hg ⟨a, ha, hb⟩; injection ha with ha; subst ha; have h1 := (HO3.out.lt g hg).1; have h2 := HM3.out.hi; have h3 : rb = g := hb; omega)
          have hx1' := (hk.block xb (lt_of_block HX3.out) (by rintro ⟨a, ha, hb⟩; injection ha with ha; subst ha; have h2 := HM3.out.hi; have h3 : rb = xb := hb; omega)).trans HX3.out
          have c2 : x3.cell? ⟨xb, 2, none⟩ = some (.int .u64 0) := cellk hx1' rfl
          have f2 := free_of hx1' 2
          have l2 := lt_of_block hx1'
          have hks : Kept (fun k => k = xb) x3 (x3.setCell ⟨xb, 2, none⟩ (.int .u64 (n3 : Int))) := (Kept.refl (fun k => k = xb) x3).setCell (p := ⟨xb, 2, none⟩) (.inl rfl) _
          have HM4 := Lib.hid (hm1'.up hks (fun k hk => by omega))
          have HO4 := Lib.hid (own_kept ho1' hks (fun g hg e => by have h1 := HLB.out g hg; omega))
          have HX4 : Hid ((x3.setCell ⟨xb, 2, none⟩ (.int .u64 (n3 : Int))).heap[xb]? = some (.cells #[.int .u64 (n1 : Int), .int .u64 (n2 : Int), .int .u64 (n3 : Int), .slice none 0 0] 29 (0, 0))) := Lib.hid (set_block hx1')
          clear hs hk hm1' ho1' hx1' hks HM3 HO3 HX3 HU3
          have HU4 := Lib.hid (rrbytes2 rb (.slice ox m cx) p t3 4000 _ HM4.out.rr HLM.out (by omega) (by omega))
          go_wp2_with fail
          refine HU4.out.mono ?_
          rintro e x4 ⟨⟨u, rfl, hu⟩, hs, hk⟩
          generalize (bytesS t3 4000).1 = bb at *
          generalize (bytesS t3 4000).2 = t4 at *
          obtain ⟨ou, cu, rfl⟩ : ∃ o c, u = .slice o bb.length c := by
            rcases hu w1 HRD.out with ⟨rfl, rfl⟩ | ⟨_, c, rfl, _⟩ <;> exact ⟨_, _, rfl⟩
          have hm1' := HM4.out.call hk hs
          have ho1' := own_kept HO4.out hk (by rintro g hg ⟨a, ha, hb⟩; injection ha with ha; subst ha; have h1 := (HO4.out.lt g hg).1; have h2 := HM4.out.hi; have h3 : rb = g := hb; omega)
          have hx1' := (hk.block xb (lt_of_block HX4.out) (by rintro ⟨a, ha, hb⟩; injection ha with ha; subst ha; have h2 := HM4.out.hi; have h3 : rb = xb := hb; omega)).trans HX4.out
          have c3 : x4.cell? ⟨xb, 3, none⟩ = some (.slice none 0 0) := cellk hx1' rfl
          have f3 := free_of hx1' 3
          have l3 := lt_of_block hx1'
          have hks : Kept (fun k => k = xb) x4 (x4.setCell ⟨xb, 3, none⟩ (.slice ou bb.length cu)) := (Kept.refl (fun k => k = xb) x4).setCell (p := ⟨xb, 3, none⟩) (.inl rfl) _
          have HM5 := Lib.hid (hm1'.up hks (fun k hk => by omega))
          have HO5 := Lib.hid (own_kept ho1' hks (fun g hg e => by have h1 := HLB.out g hg; omega))
          have hx5 : (x4.setCell ⟨xb, 3, none⟩ (.slice ou bb.length cu)).heap[xb]? = some (.cells #[.int .u64 (n1 : Int), .int .u64 (n2 : Int), .int .u64 (n3 : Int), .slice ou bb.length cu] 29 (0, 0)) := set_block hx1'
          have d0 : (x4.setCell ⟨xb, 3, none⟩ (.slice ou bb.length cu)).cell? ⟨xb, 0, none⟩ = some (.int .u64 (n1 : Int)) := cellk hx5 rfl
          have d1 : (x4.setCell ⟨xb, 3, none⟩ (.slice ou bb.length cu)).cell? ⟨xb, 1, none⟩ = some (.int .u64 (n2 : Int)) := cellk hx5 rfl
          have d2 : (x4.setCell ⟨xb, 3, none⟩ (.slice ou bb.length cu)).cell? ⟨xb, 2, none⟩ = some (.int .u64 (n3 : Int)) := cellk hx5 rfl
          have d3 : (x4.setCell ⟨xb, 3, none⟩ (.slice ou bb.length cu)).cell? ⟨xb, 3, none⟩ = some (.slice ou bb.length cu) := cellk hx5 rfl
          have m8 : (x4.setCell ⟨xb, 3, none⟩ (.slice ou bb.length cu)).cell? ⟨mb, 8, none⟩ = some lv := HM5.out.cell rfl
          have dl := lt_of_block hx5
          have ml := lt_of_block HM5.out.mc
          obtain ⟨o6, c6, W6, hrun, ho6, hk6⟩ := append_row (w := (x4.setCell ⟨xb, 3, none⟩ (.slice ou bb.length cu))) ((⟨n1, n2, n3, bb⟩ : En), Value.slice ou bb.length cu) HO5.out ⟨ou, cu, rfl⟩ (by rw [HPL.out]; omega) (by omega)
          rw [HPL.out] at hrun ho6
          have hsz : (x4.setCell ⟨xb, 3, none⟩ (.slice ou bb.length cu)).heap.size = x4.heap.size := by simp
          simp only [cE, hsz] at hrun
          have HRUN := Lib.hid hrun
          have HLV : Hid (∀ g, lv.ownBlock = some g → mb < g) := Lib.hid (fun g hg => by have := (HO5.out.lt g hg).1; omega)
          have hm6 := HM5.out.up hk6 (fun k hk => HLV.out k hk)
          have n8 : W6.cell? ⟨mb, 8, none⟩ = some lv := hm6.cell rfl
          have g8 := free_of hm6.mc 8
          have nl := lt_of_block hm6.mc
          have HM7 := Lib.hid (hm6.set 8 (.slice o6 (j + 1) c6))
          have HO7 := Lib.hid (own_kept ho6 ((Kept.refl (fun k => k = mb) W6).setCell (p := ⟨mb, 8, none⟩) (.inl rfl) (.slice o6 (j + 1) c6)) (fun g hg e => by have h1 := (ho6.lt g hg).1; omega))
          have HQ7 : Hid (∀ q ∈ (ps ++ [((⟨n1, n2, n3, bb⟩ : En), Value.slice ou bb.length cu)]), ∀ W, Rd W (.slice ox m cx) p → Rd W q.2 q.1.cl) := Lib.hid (by
            intro q hq
            rcases List.mem_append.1 hq with hq | hq
            · exact HQ.out q hq
            · obtain rfl := List.mem_singleton.1 hq
              exact hu)
          have hes : entS (some rest) = (⟨n1, n2, n3, bb⟩, t4) := by
            rw [HES.out]
          have hsub : N - j = (N - (j + 1)) + 1 := by omega
          have HC7 : Hid ((t4 ≠ none → entsS N q9 = ((ps ++ [((⟨n1, n2, n3, bb⟩ : En), Value.slice ou bb.length cu)]).map Prod.fst ++ (entsS (N - (j + 1)) t4).1, (entsS (N - (j + 1)) t4).2)) ∧ (t4 = none → (entsS N q9).2 = none)) := Lib.hid (by
            have h1 := HC.out.1 (by simp)
            rw [hsub] at h1
            constructor
            · intro hne
              rw [h1, entsS_ok (by rw [hes]; exact hne), hes]
              simp
            · intro he
              rw [h1, entsS_bad (by rw [hes]; exact he)])
          have HPL7 : Hid ((ps ++ [((⟨n1, n2, n3, bb⟩ : En), Value.slice ou bb.length cu)]).length = j + 1) := Lib.hid (by rw [List.length_append, HPL.out]; rfl)
          clear hs hk hm1' ho1' hx1' hks hx5 hu hes hsub hrun hm6 ho6 hk6 HM4 HO4 HX4 HU4 HM5 HO5 HE1 HE2 HE3 HES HC HPL HQ HLV HLB HA1 HA2 HA3 HA4 HA5 HA6 HA7 HA8 HA9
          go_wp2_with (at_builtin; (refine wpList_append_known rfl (.tmp 76) (.tmp 78) 23 23 (by rfl) _ _ _ (by rfl) (by rfl) HRUN.out ?_))
          go_roundg (N - j)
          case measure => omega
          case rel => exact ⟨j + 1, t4, (ps ++ [((⟨n1, n2, n3, bb⟩ : En), Value.slice ou bb.length cu)]), _, by omega, by go_num, by omega, HPL7, HM7, HO7, HQ7, HC7⟩
      · have hltI : ¬ (j : Int) < (N : Int) := by omega
        have hjn : N - j = 0 := by omega
        have HE0 : Hid ((entsS N q9).2 = s ∧ (s ≠ none → (entsS N q9).1 = ps.map Prod.fst)) := Lib.hid (by
          rcases s with _ | r
          · exact ⟨HC.out.2 rfl, fun h => absurd rfl h⟩
          · rw [HC.out.1 (by simp), hjn]
            simp [entsS])
        have HE : Hid (entsS N q9 = ((entsS N q9).1, s)) := Lib.hid (by rw [← HE0.out.1])
        have HF : Hid (s ≠ none → ps.map Prod.fst = (entsS N q9).1) := Lib.hid (fun h => (HE0.out.2 h).symm)
        generalize (entsS N q9).1 = es at *
        clear hjn HE0 HC
        have HU10 := Lib.hid (rrbytes2 rb (.slice ox m cx) p s 1048576 _ HM.out.rr HLM.out (by omega) (by omega))
        go_wp2_with fail
        refine HU10.out.mono ?_
        rintro e z1 ⟨⟨u, rfl, hu⟩, hs, hk⟩
        have HA10 : Hid (bytesS s 1048576 = ((bytesS s 1048576).1, (bytesS s 1048576).2)) := rfl
        have HN10 : Hid ((s : Option (List UInt8)) = none → (bytesS s 1048576).2 = none) := Lib.hid (by intro hs; rw [hs, bytesS_none])
        generalize (bytesS s 1048576).1 = dt at *
        generalize (bytesS s 1048576).2 = qx at *
        have hm1' := HM.out.call hk hs
        have HOZ := Lib.hid (own_kept HO.out hk (by rintro g hg ⟨a, ha, hb⟩; injection ha with ha; subst ha; have h1 := (HO.out.lt g hg).1; have h2 := HM.out.hi; have h3 : rb = g := hb; omega))
        have hru := hu w1 HRD.out
        obtain ⟨ou, cu, rfl⟩ : ∃ o c, u = .slice o dt.length c := by
          rcases hru with ⟨rfl, rfl⟩ | ⟨_, c, rfl, _⟩ <;> exact ⟨_, _, rfl⟩
        have HU := Lib.hid hu
        have c9 : z1.cell? ⟨mb, 9, none⟩ = some (.slice none 0 0) := hm1'.cell rfl
        have f9 := free_of hm1'.mc 9
        have l9 := lt_of_block hm1'.mc
        have HMZ := Lib.hid (hm1'.set 9 (.slice ou dt.length cu))
        obtain ⟨⟨ax, hcx, hax⟩, -⟩ := HMZ.out.rr
        have cA := cell1_of_two hcx
        have HOY := Lib.hid (own_kept HOZ.out ((Kept.refl (fun k => k = mb) z1).setCell (p := ⟨mb, 9, none⟩) (.inl rfl) (.slice ou dt.length cu)) (fun g hg e => by have h1 := (HOZ.out.lt g hg).1; omega))
        clear hs hk hm1' hru hu hcx HU10 HM HO HOZ
        by_cases hq : qx = some []
        · have hes : ps.map Prod.fst = es := HF.out (fun h => by have := HN10.out h; rw [hq] at this; cases this)
          obtain rfl : ax = (m : Int) := by
            rcases hax with ⟨h1, _⟩ | ⟨k, h1, h2, h3⟩
            · rw [hq] at h1; cases h1
            · rw [hq] at h3
              injection h3 with h3
              have h4 := congrArg List.length h3
              rw [List.length_drop, HPM.out] at h4
              rw [HPM.out] at h2
              rw [h1]
              have h5 : k = m := by simp at h4; omega
              rw [h5]
          have hok : decide ((a8 : Int) = 1) = (a8 == 1) := by
            by_cases h : a8 = 1
            · subst h; rfl
            · rw [decide_eq_false (by omega)]; simp [h]
          have hdm : decM l = (0, some ⟨a1, unzig a2, unzig a3, a4, a5, a6, a7, decide ((a8 : Int) = 1), ps.map Prod.fst, dt⟩) := by
            rw [HDN.out]
            simp only [decI, headS, HA1.out, HA2.out, HA3.out, HA4.out, HA5.out, HA6.out, HA7.out, HA8.out, HA9.out, HE.out, HA10.out]
            rw [if_pos hq, hok, hes]
            rfl
          have HDM := Lib.hid hdm
          have b0 : (z1.setCell ⟨mb, 9, none⟩ (.slice ou dt.length cu)).cell? ⟨mb, 0, none⟩ = some (.int .u8 (a1 : Int)) := HMZ.out.cell rfl
          have b1 : (z1.setCell ⟨mb, 9, none⟩ (.slice ou dt.length cu)).cell? ⟨mb, 1, none⟩ = some (.int .i64 (unzig a2)) := HMZ.out.cell rfl
          have b2 : (z1.setCell ⟨mb, 9, none⟩ (.slice ou dt.length cu)).cell? ⟨mb, 2, none⟩ = some (.int .i64 (unzig a3)) := HMZ.out.cell rfl
          have b3 : (z1.setCell ⟨mb, 9, none⟩ (.slice ou dt.length cu)).cell? ⟨mb, 3, none⟩ = some (.int .u64 (a4 : Int)) := HMZ.out.cell rfl
          have b4 : (z1.setCell ⟨mb, 9, none⟩ (.slice ou dt.length cu)).cell? ⟨mb, 4, none⟩ = some (.int .u64 (a5 : Int)) := HMZ.out.cell rfl
          have b5 : (z1.setCell ⟨mb, 9, none⟩ (.slice ou dt.length cu)).cell? ⟨mb, 5, none⟩ = some (.int .u64 (a6 : Int)) := HMZ.out.cell rfl
          have b6 : (z1.setCell ⟨mb, 9, none⟩ (.slice ou dt.length cu)).cell? ⟨mb, 6, none⟩ = some (.int .u64 (a7 : Int)) := HMZ.out.cell rfl
          have b7 : (z1.setCell ⟨mb, 9, none⟩ (.slice ou dt.length cu)).cell? ⟨mb, 7, none⟩ = some (.bool (decide ((a8 : Int) = 1))) := HMZ.out.cell rfl
          have b8 : (z1.setCell ⟨mb, 9, none⟩ (.slice ou dt.length cu)).cell? ⟨mb, 8, none⟩ = some lv := HMZ.out.cell rfl
          have b9 : (z1.setCell ⟨mb, 9, none⟩ (.slice ou dt.length cu)).cell? ⟨mb, 9, none⟩ = some (.slice ou dt.length cu) := HMZ.out.cell rfl
          have bl := lt_of_block HMZ.out.mc
          obtain ⟨ol, cl, hlv⟩ := own_slice' HOY.out
          subst hlv
          clear hes hok hdm hax HF HN10 HDN HA1 HA2 HA3 HA4 HA5 HA6 HA7 HA8 HA9 HA10 HE
          subst hq
          go_wp2_with (refine wpList_store_row rfl 35 (.tmp 2) (.tmp 92) rfl w.heap.size (mgC ⟨a1, unzig a2, unzig a3, a4, a5, a6, a7, decide ((a8 : Int) = 1), ps.map Prod.fst, dt⟩ (.slice ol ps.length cl) (.slice ou dt.length cu)).toArray rfl rfl 35 _ HMZ.out.rc (by kernel_rfl) rfl (by simp [mgC, Value.oneCell']) ?_)
          have hbF := HMZ.out.bel.trans ((row_kept (z1.setCell ⟨mb, 9, none⟩ (.slice ou dt.length cu)) w.heap.size (mgC ⟨a1, unzig a2, unzig a3, a4, a5, a6, a7, decide ((a8 : Int) = 1), ps.map Prod.fst, dt⟩ (.slice ol ps.length cl) (.slice ou dt.length cu)).toArray).below HMZ.out.bel.size (fun k hk => by omega))
          have hrF := HVA.out _ (HH.out.below hbF)
          refine rdec_ret (setRow_heap _ _ _ _ _ _ HMZ.out.rc) hbF ⟨_, _, rfl, ?_, ?_⟩ (.inl HDM.out) rfl rfl
          · exact row_re (own_kept HOY.out (row_kept _ _ _) (fun g hg e => by have h1 := (HOY.out.lt g hg).1; have h2 := HMZ.out.hi; have h4 := HMZ.out.lo; have h3 : g = w.heap.size := e; omega)) (fun q hq => HQ.out q hq _ hrF)
          · exact HU.out _ hrF
        · have hdm : decM l = (3, none) := by
            rw [HDN.out]
            simp only [decI, headS, HA1.out, HA2.out, HA3.out, HA4.out, HA5.out, HA6.out, HA7.out, HA8.out, HA9.out, HE.out, HA10.out]
            rw [if_neg hq]
            rfl
          have HDM := Lib.hid hdm
          have hne : ¬ ax = (m : Int) := by
            intro h
            rcases hax with ⟨h1, h2⟩ | ⟨k, h1, h2, h3⟩
            · omega
            · apply hq
              rw [h3]
              congr 1
              apply List.drop_eq_nil_of_le
              rw [HPM.out]
              omega
          clear hdm hax HF HN10 HDN HA1 HA2 HA3 HA4 HA5 HA6 HA7 HA8 HA9 HA10 HE
          go_wp2_with (refine wpList_store_row rfl 35 (.tmp 2) (.tmp 91) rfl w.heap.size (mgC mg0 (.slice none 0 0) (.slice none 0 0)).toArray rfl rfl 35 _ HMZ.out.rc (by kernel_rfl) rfl (by simp [mgC, mg0, Value.oneCell']) ?_)
          refine rdec_ret (setRow_heap _ _ _ _ _ _ HMZ.out.rc) (HMZ.out.bel.trans ((row_kept _ _ _).below HMZ.out.bel.size (fun k hk => by omega))) (mg0_r _) (.inr ⟨rfl, HDM.out⟩) rfl rfl

  · have hdm : decM l = (er, none) := by rw [HDM.out, if_pos her]
    have HDN := Lib.hid hdm
    clear hdm HDM
    go_wp2_with (refine wpList_store_row rfl 35 (.tmp 2) (.tmp 18) rfl w.heap.size (mgC mg0 (.slice none 0 0) (.slice none 0 0)).toArray rfl rfl 35 _ HX1.out (by kernel_rfl) rfl (by simp [mgC, mg0, Value.oneCell']) ?_)
    refine rdec_ret (setRow_heap _ _ _ _ _ _ HX1.out) ((HB1.out.trans ((row_kept _ _ _).below HB1.out.size (fun k hk => by omega)))) (mg0_r _) (.inr ⟨rfl, HDN.out⟩) rfl rfl
end Go.Proofs.Ytdofddgodinphaa
