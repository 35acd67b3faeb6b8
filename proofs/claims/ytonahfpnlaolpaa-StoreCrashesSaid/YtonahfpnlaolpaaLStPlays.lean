/- StorePlays: any snapshots, without falls: each answer, and which one stands, opened anew, too. -/
import Derived.Test.YtonahfpnlaolpaaStoN
namespace Go.Proofs.Ytonahfpnlaolpaa
open Go.RowKit OctM

theorem Hx.sub {R R' : Nat → Prop} {w : World} {v : Value} {l : List UInt8} (h : Hx R' w v l) (hR : ∀ k, R k → R' k) : Hx R w v l := fun w' hk => h w' (hk.weak fun k _ => hR k)

/-- At a round's head: the store at work, and the law's own snapshot in the box b5. -/
structure PL (w w1 : World) (D T b5 m St : Nat) (R : Nat → Prop) (s : Ss) (vo : Option Addr) (vc : Nat) (W : World) : Prop where
  at_ : SAt W R St D T s
  sg : SG 20000 s
  fuse : s.d.fuse = 0
  ops : s.d.ops ≤ 3000 * (m + 1)
  box : W.heap[b5]? = some (.cells #[.int .u64 (s.sn.ix : Int), .int .u64 (s.sn.tm : Int), .slice vo s.sn.dat.length vc] 55 (0, 0))
  hx : Hx (fun k => R k ∨ k = b5) W (.slice vo s.sn.dat.length vc) s.sn.dat
  nb : ¬ R b5
  ge : ∀ k, R k → w1.heap.size ≤ k
  bel : Below w.heap.size w W
  b5ge : w1.heap.size ≤ b5
  low : w1.heap.size ≤ W.heap.size

/-- Beside what is made anew. -/
theorem PL.below {w w1 W W' : World} {D T b5 m St : Nat} {R : Nat → Prop} {s : Ss} {vo : Option Addr} {vc : Nat} (h : PL w w1 D T b5 m St R s vo vc W) (hw : w.heap.size ≤ w1.heap.size) (hb : Below W.heap.size W W') : PL w w1 D T b5 m St R s vo vc W' :=
  ⟨h.at_.below hb, h.sg, h.fuse, h.ops, (hb.block b5 (lt_of_block h.box)).trans h.box, h.hx.below hb, h.nb, h.ge, h.bel.trans (hb.mono (by have := h.low; omega)), h.b5ge, Nat.le_trans h.low hb.size⟩

theorem PL.drew {w w1 W : World} {D T b5 m St : Nat} {R : Nat → Prop} {s : Ss} {vo : Option Addr} {vc : Nat} (h : PL w w1 D T b5 m St R s vo vc W) (hw : w.heap.size ≤ w1.heap.size) : PL w w1 D T b5 m St R s vo vc W.drew := h.below hw (kept_draw W)
theorem PL.more {w w1 W : World} {D T b5 m m' St : Nat} {R : Nat → Prop} {s : Ss} {vo : Option Addr} {vc : Nat} (h : PL w w1 D T b5 m St R s vo vc W) (hm : m ≤ m') : PL w w1 D T b5 m' St R s vo vc W :=
  ⟨h.at_, h.sg, h.fuse, Nat.le_trans h.ops (by omega), h.box, h.hx, h.nb, h.ge, h.bel, h.b5ge, h.low⟩

/-- A refused save; one that was done, its snapshot taken over into the box. -/
theorem PL.stale {w w1 W W' : World} {D T b5 m St : Nat} {R : Nat → Prop} {s : Ss} {vo : Option Addr} {vc : Nat} (h : PL w w1 D T b5 m St R s vo vc W) (hw : w.heap.size ≤ w1.heap.size) (ha : SAt W' (Fr R W W') St D T s) (hk : Kept R W W') : PL w w1 D T b5 m St (Fr R W W') s vo vc W' := by
  have hs := hk.size
  have hb := lt_of_block h.box
  have hl := h.low
  exact ⟨ha, h.sg, h.fuse, h.ops, (hk.block b5 hb h.nb).trans h.box, (h.hx.kept (hk.weak fun k _ hk => .inl hk)).sub (fun k hk => by rcases hk with (hk | hk) | hk; exact .inl (.inl hk); exact .inr hk; exact .inl (.inr hk)), Fr.out h.nb hb, Fr.ge h.ge hl, h.bel.trans (hk.below (by omega) (fun k hk => by have := h.ge k hk; omega)), h.b5ge, by omega⟩

theorem PL.new {w w1 W W' : World} {D T b5 m St St' : Nat} {R : Nat → Prop} {s s' : Ss} {vo : Option Addr} {vc : Nat} (h : PL w w1 D T b5 m St R s vo vc W) (hw : w.heap.size ≤ w1.heap.size) (ha : SAt W' (Fr R W W') St' D T s') (hk : Kept R W W')
    (hsn : s'.sn = s.sn) (hg : SG 20000 s') (hf : s'.d.fuse = 0) (ho : s'.d.ops ≤ s.d.ops) : PL w w1 D T b5 m St' (Fr R W W') s' vo vc W' := by
  have hs := hk.size
  have hb := lt_of_block h.box
  have hl := h.low
  exact ⟨ha, hg, hf, Nat.le_trans ho h.ops, by rw [hsn]; exact (hk.block b5 hb h.nb).trans h.box, by rw [hsn]; exact (h.hx.kept (hk.weak fun k _ hk => .inl hk)).sub (fun k hk => by rcases hk with (hk | hk) | hk; exact .inl (.inl hk); exact .inr hk; exact .inl (.inr hk)), Fr.out h.nb hb, Fr.ge h.ge hl, h.bel.trans (hk.below (by omega) (fun k hk => by have := h.ge k hk; omega)), h.b5ge, by omega⟩

theorem PL.saved {w w1 W W' : World} {D T b5 m St : Nat} {R : Nat → Prop} {s s' : Ss} {vo vo' : Option Addr} {vc vc' : Nat} (h : PL w w1 D T b5 m St R s vo vc W) (hw : w.heap.size ≤ w1.heap.size) (ha : SAt W' (Fr R W W') St D T s') (hk : Kept R W W')
    (hg : SG 20000 s') (hf : s'.d.fuse = 0) (ho : s'.d.ops ≤ s.d.ops + 2100) (hx : Hx (fun k => R k ∨ k = b5) W (.slice vo' s'.sn.dat.length vc') s'.sn.dat) :
    PL w w1 D T b5 (m + 1) St (Fr R W W') s' vo' vc' (((W'.setCell ⟨b5, 0, none⟩ (.int .u64 (s'.sn.ix : Int))).setCell ⟨b5, 1, none⟩ (.int .u64 (s'.sn.tm : Int))).setCell ⟨b5, 2, none⟩ (.slice vo' s'.sn.dat.length vc')) := by
  have hs := hk.size
  have hb := lt_of_block h.box
  have hl := h.low
  have hops := h.ops
  have hnb := Fr.out (w' := W') h.nb hb
  have hbx := (hk.block b5 hb h.nb).trans h.box
  have hsz : (((W'.setCell ⟨b5, 0, none⟩ (.int .u64 (s'.sn.ix : Int))).setCell ⟨b5, 1, none⟩ (.int .u64 (s'.sn.tm : Int))).setCell ⟨b5, 2, none⟩ (.slice vo' s'.sn.dat.length vc')).heap.size = W'.heap.size := by simp [World.setCell]
  refine ⟨((ha.beside hnb 0 _).beside hnb 1 _).beside hnb 2 _, hg, hf, by omega, ?_, ?_, hnb, Fr.ge h.ge hl, (((h.bel.trans (hk.below (by omega) (fun k hk => by have := h.ge k hk; omega))).setCell (p := ⟨b5, 0, none⟩) (by have := h.b5ge; show w.heap.size ≤ b5; omega) _).setCell (p := ⟨b5, 1, none⟩) (by have := h.b5ge; show w.heap.size ≤ b5; omega) _).setCell (p := ⟨b5, 2, none⟩) (by have := h.b5ge; show w.heap.size ≤ b5; omega) _, h.b5ge, by rw [hsz]; omega⟩
  · simp [World.setCell, Array.getElem?_modify, hbx]
  · intro w3 hk3
    refine hx w3 ((hk.weak (T := fun k => R k ∨ k = b5) fun k _ hk => .inl hk).trans ((((Kept.refl (fun k => k = b5) W').setCell (p := ⟨b5, 0, none⟩) (.inl rfl) _).setCell (p := ⟨b5, 1, none⟩) (.inl rfl) _).setCell (p := ⟨b5, 2, none⟩) (.inl rfl) _ |>.weak (T := fun k => R k ∨ k = b5) fun k _ hk => .inr hk) |>.step hk3 fun k hk => ?_)
    rcases hk with (hk | hk) | hk
    · exact .inl (.inl hk)
    · exact .inr hk.1
    · exact .inl (.inr hk)

set_option maxHeartbeats 8000000 in
set_option maxRecDepth 100000 in
theorem splays_walk (v : Value) (acts : List SA) (w : World) (h : RdSA w v acts) :
    Calls Try.prog 5 #[v] w fun e w' => e = .returned (.bool true) ∧ Below w.heap.size w w' := by
  obtain ⟨ox, cx, rfl⟩ : ∃ o c, v = .slice o acts.length c := by
    rcases h with ⟨o, c, rfl, rfl⟩ | ⟨b, off, c, rfl, _⟩ <;> exact ⟨_, _, rfl⟩
  have HX := Lib.hid h
  clear h
  go_enter Try.func5, Try.ntmps5
  go_wp2_with fail
  refine (awake_any w).mono ?_
  rintro e w1 ⟨rfl, hb1⟩
  have HB1 := Lib.hid hb1
  have hw1 := hb1.size
  clear hb1
  go_wp2_with fail
  refine (sopen_any 20000 w1 (by omega) (by omega)).mono ?_
  rintro e w2 ⟨D, T, St0, rfl, h2, hb2, hT⟩
  have hs2 := hb2.size
  obtain ⟨R0, hR⟩ : ∃ R, (fun k => w1.heap.size ≤ k ∧ k < w2.heap.size) = R := ⟨_, rfl⟩
  rw [hR] at h2
  have hge : ∀ k, R0 k → w1.heap.size ≤ k := by subst hR; exact fun k hk => hk.1
  clear hR
  go_upto_region 5 with fail
  have hb3 : Below w2.heap.size w2 (w2.alloc (.cells #[.int .u64 0, .int .u64 0, .slice none 0 0] 55)) := (Below.refl _ _).alloc (Nat.le_refl _) _
  have hs3 : (w2.alloc (.cells #[.int .u64 0, .int .u64 0, .slice none 0 0] 55)).heap.size = w2.heap.size + 1 := by simp
  have start : PL w w1 D T w2.heap.size 0 St0 R0 ⟨new 3 20000, 1, 2, zs⟩ none 0 (w2.alloc (.cells #[.int .u64 0, .int .u64 0, .slice none 0 0] 55)) :=
    ⟨h2.below hb3, sg_new 20000, rfl, by show 0 ≤ _; omega, heap_alloc_new w2 _, Hx.nil _ _, fun h => by have := h2.lt _ h; omega, hge, HB1.out.trans ((hb2.trans (hb3.mono hs2)).mono hw1), hs2, by omega⟩
  generalize w2.alloc (.cells #[.int .u64 0, .int .u64 0, .slice none 0 0] 55) = w3 at *
  generalize w2.heap.size = b5 at *
  have START := Lib.hid start
  clear start h2 hb2 hb3 hge
  go_wp2_with fail
  go_loopw [4, 6] (fun t i wr => ∃ (m St : Nat) (R : Nat → Prop) (s : Ss) (vo : Option Addr) (vc : Nat), m ≤ 30 ∧ m ≤ acts.length ∧ i = .int .i64 m ∧ t = .pointer (some ⟨St, 0, none⟩) ∧ Hid (PL w w1 D T b5 m St R s vo vc wr)) (fun _ i _ => 31 - (intOf i).toNat)
  case atStart => exact ⟨0, St0, R0, _, _, _, by omega, by omega, rfl, rfl, START.out⟩
  case round =>
    obtain ⟨m, St, R, s, vo, vc, hm, hml, rfl, rfl, HL⟩ := hrel
    clear START
    by_cases hlt : m < acts.length ∧ m < 30
    · obtain ⟨hlt1, hlt2⟩ := hlt
      have i1 : (m : Int) < (acts.length : Int) := by omega
      have i2 : (m : Int) < 30 := by omega
      have hact : ∃ bb off, ox = some ⟨bb, off, none⟩ ∧ SActAt w bb (off + m * 7) acts[m] := by
        rcases HX.out with ⟨o, c, hv, hl0⟩ | ⟨bb, off, c, hv, _, _, _, hat⟩
        · subst hl0; simp at hlt1
        · injection hv with hv _ _
          exact ⟨bb, off, hv, hat m _ (List.getElem?_eq_getElem hlt1)⟩
      obtain ⟨bb, off, rfl, hat0⟩ := hact
      have hat := hat0.below HL.out.bel (Nat.le_refl _)
      generalize acts[m] = A at *
      have HAT0 := Lib.hid hat0
      obtain ⟨k, ⟨ix, tm, l⟩, po, pc, near, n, cv, cuts⟩ := A
      obtain ⟨a0, a1, a2, a3, a4, a5, a6, hrd, hrc, bk, bix, btm, bnear, bn⟩ := hat
      simp only at a0 a1 a2 a3 a4 a5 a6 hrd hrc bk bix btm bnear bn
      obtain ⟨r, hr, hr0, hr1⟩ : ∃ r : Int, k % 5 = r ∧ 0 ≤ r ∧ r < 5 := ⟨k % 5, rfl, by omega, by omega⟩
      have hrt : k.tmod 5 = r := by rw [Int.tmod_eq_emod_of_nonneg bk.1]; exact hr
      have hba : Below wr.heap.size wr (wr.alloc (.cells #[.int .u8 k, .int .u64 (ix : Int), .int .u64 (tm : Int), .slice po l.length pc, .int .u8 near, .int .u16 n, cv] 58)) := (Below.refl _ _).alloc (Nat.le_refl _) _
      have hsa : (wr.alloc (.cells #[.int .u8 k, .int .u64 (ix : Int), .int .u64 (tm : Int), .slice po l.length pc, .int .u8 near, .int .u16 n, cv] 58)).heap.size = wr.heap.size + 1 := by simp
      have hna := heap_alloc_new wr (.cells #[.int .u8 k, .int .u64 (ix : Int), .int .u64 (tm : Int), .slice po l.length pc, .int .u8 near, .int .u16 n, cv] 58)
      have HLA := Lib.hid (HL.out.below hw1 hba)
      have HBIX := Lib.hid bix
      have HBTM := Lib.hid btm
      obtain ⟨ocv, ncv, ccv, rfl⟩ : ∃ o n c, cv = .slice o n c := by
        obtain ⟨o, c, h, _⟩ := hrc
        exact ⟨_, _, _, h⟩
      clear hrd hrc hat0 bix btm
      go_upto_region 9 with fail
      generalize wr.alloc (.cells #[.int .u8 k, .int .u64 (ix : Int), .int .u64 (tm : Int), .slice po l.length pc, .int .u8 near, .int .u16 n, .slice ocv ncv ccv] 58) = wa at *
      generalize hba0 : wr.heap.size = ba at *
      clear a0 a1 a2 a3 a4 a5 a6 hba
      have x0 : wa.cell? ⟨ba, 0, none⟩ = some (.int .u8 k) := cellk (i := 0) hna rfl
      have x1 : wa.cell? ⟨ba, 1, none⟩ = some (.int .u64 (ix : Int)) := cellk (i := 1) hna rfl
      have x2 : wa.cell? ⟨ba, 2, none⟩ = some (.int .u64 (tm : Int)) := cellk (i := 2) hna rfl
      have x3 : wa.cell? ⟨ba, 3, none⟩ = some (.slice po l.length pc) := cellk (i := 3) hna rfl
      have x4 : wa.cell? ⟨ba, 4, none⟩ = some (.int .u8 near) := cellk (i := 4) hna rfl
      have x5 : wa.cell? ⟨ba, 5, none⟩ = some (.int .u16 n) := cellk (i := 5) hna rfl
      have x6 : wa.cell? ⟨ba, 6, none⟩ = some (.slice ocv ncv ccv) := cellk (i := 6) hna rfl
      obtain ⟨s0, s1, s2, g0, g1, g2, sl⟩ := kept3 HLA.out.box
      by_cases hbig : 3000 < l.length
      · have hb' : (3000 : Int) < (l.length : Int) := by omega
        go_wp2_with fail
        go_ret
        exact ⟨rfl, HLA.out.bel⟩
      · have hb' : ¬ (3000 : Int) < (l.length : Int) := by omega
        have hl3 : l.length ≤ 3000 := by omega
        by_cases hr3 : r < 3
        · have HBN := Lib.hid bnear
          have HBNN := Lib.hid bn
          have hlow : ∀ kk, (R kk ∨ kk = b5) → w.heap.size ≤ kk := fun kk hk => by
            rcases hk with hk | hk
            · have := HLA.out.ge kk hk; omega
            · have := HLA.out.b5ge; omega
          have HLOW := Lib.hid hlow
          clear bnear bn hbig hlow
          go_wp2_with fail
          refine (ssnap_any ⟨k, ⟨ix, tm, l⟩, po, pc, near, n, .slice ocv ncv ccv, cuts⟩ s.sn.ix wa (HAT0.out.rd.below HLA.out.bel) HBN.out HBNN.out hl3 HLA.out.sg.fits.ix).mono ?_
          rintro e wb ⟨v', rfl, hbb, hv'⟩
          have hn1 : (snapS ⟨k, ⟨ix, tm, l⟩, po, pc, near, n, .slice ocv ncv ccv, cuts⟩ s.sn.ix).ix < 18446744073709551616 := by
            have h1 := HBIX.out
            have h2 := HBN.out
            unfold snapS
            dsimp only
            split <;> omega
          have hn2 : (snapS ⟨k, ⟨ix, tm, l⟩, po, pc, near, n, .slice ocv ncv ccv, cuts⟩ s.sn.ix).tm < 18446744073709551616 := HBTM.out
          have hn3 : (snapS ⟨k, ⟨ix, tm, l⟩, po, pc, near, n, .slice ocv ncv ccv, cuts⟩ s.sn.ix).dat.length ≤ 5000 := by
            have h2 := HBNN.out
            unfold snapS
            dsimp only
            split
            · rw [nz_length]; omega
            · omega
          generalize snapS ⟨k, ⟨ix, tm, l⟩, po, pc, near, n, .slice ocv ncv ccv, cuts⟩ s.sn.ix = N at *
          have hsb := hbb.size
          obtain ⟨o', c', rfl⟩ : ∃ o c, v' = .slice o N.dat.length c := by
            rcases hv' with ⟨rfl, h⟩ | h
            · rw [h]; exact ⟨_, _, rfl⟩
            · obtain ⟨o, c, rfl, -, -⟩ := own_slice h
              exact ⟨_, _, rfl⟩
          have hbc : Below wb.heap.size wb (wb.alloc (.cells #[.int .u64 (N.ix : Int), .int .u64 (N.tm : Int), .slice o' N.dat.length c'] 55)) := (Below.refl _ _).alloc (Nat.le_refl _) _
          have hsc : (wb.alloc (.cells #[.int .u64 (N.ix : Int), .int .u64 (N.tm : Int), .slice o' N.dat.length c'] 55)).heap.size = wb.heap.size + 1 := by simp
          have hnc := heap_alloc_new wb (.cells #[.int .u64 (N.ix : Int), .int .u64 (N.tm : Int), .slice o' N.dat.length c'] 55)
          have HLB := Lib.hid (HLA.out.below hw1 hbb)
          have HLC := Lib.hid (HLB.out.below hw1 hbc)
          have HNA := Lib.hid ((hbc.block ba (by omega)).trans ((hbb.block ba (by omega)).trans hna))
          have hRl := HLA.out.at_.lt
          have hxc : Hx (fun kk => R kk ∨ kk = b5) (wb.alloc (.cells #[.int .u64 (N.ix : Int), .int .u64 (N.tm : Int), .slice o' N.dat.length c'] 55)) (.slice o' N.dat.length c') N.dat := by
            rcases hv' with ⟨hv1, h⟩ | h
            · have hq : Hx (fun kk => R kk ∨ kk = b5) _ (.slice po l.length pc) l := Hx.low HAT0.out.rd HLC.out.bel HLOW.out
              have h' : N.dat = l := h
              have hv2 : Value.slice o' N.dat.length c' = .slice po l.length pc := hv1
              rw [← hv2, ← h'] at hq
              exact hq
            · refine Hx.own (own_below h hbc (Nat.le_refl _)) (fun g hg hR => ?_)
              have h1 := (h.lt g hg).1
              rcases hR with hR | hR
              · have := hRl g hR; omega
              · omega
          have HXC := Lib.hid hxc
          have hnbx : ¬ R wb.heap.size := fun h => by have := hRl _ h; omega
          clear hv' hbb hbc x0 x1 x2 x3 x4 x5 x6 s0 s1 s2 g0 g1 g2 hna hxc hRl HBIX HBTM HBN HBNN
          unfold snV
          go_upto_region 13 with fail
          generalize wb.alloc (.cells #[.int .u64 (N.ix : Int), .int .u64 (N.tm : Int), .slice o' N.dat.length c'] 55) = wc at *
          generalize hbx0 : wb.heap.size = bx at *
          obtain ⟨t0, t1, t2, -, -, -, tl⟩ := kept3 hnc
          have hops : s.d.ops ≤ 900000 := by have := HLC.out.ops; omega
          cases save_cases 20000 s N HLC.out.sg (by omega) hn1 hn2 with
          | full _ a _ => have := (snB_bound N).2; omega
          | cut _ _ _ a => exact absurd HLC.out.fuse a
          | stale hle he =>
            have H4 := Lib.hid (save_gen N (.slice o' N.dat.length c') wc HLC.out.at_ (HXC.out.sub fun kk hk => .inl hk) hn1 hn2 (by omega) hops he)
            unfold snV at H4
            have hle1 : ¬ (s.sn.ix : Int) < (N.ix : Int) := by omega
            clear he
            go_wp2_with fail
            refine H4.out.mono ?_
            rintro e wd ⟨rfl, ha4, hk4⟩
            have HLD := Lib.hid (HLC.out.stale hw1 ha4 hk4)
            have hnd := (hk4.block bx tl hnbx).trans hnc
            obtain ⟨y0, y1, y2, -, -, -, yl⟩ := kept3 hnd
            obtain ⟨z0, z1, z2, -, -, -, zl⟩ := kept3 HLD.out.box
            have hnad := (hk4.block ba (lt_of_block HNA.out) (fun h => by have := HL.out.at_.lt _ h; omega)).trans HNA.out
            have q0 : wd.cell? ⟨ba, 0, none⟩ = some (.int .u8 k) := cellk (i := 0) hnad rfl
            generalize Fr R wc wd = R4 at *
            clear ha4 hk4 t0 t1 t2 H4
            go_wp2_with fail
            have HT1 := Lib.hid ((HLD.out.more (Nat.le_succ m)).drew hw1)
            have CS := Lib.hid (snap_any wd.drew HT1.out.at_)
            refine wp_onlyN ?_
            refine wp_region_held_drew (S := fun w' => w'.cell? ⟨b5, 0, none⟩ = some (.int .u64 (s.sn.ix : Int)) ∧ w'.cell? ⟨b5, 1, none⟩ = some (.int .u64 (s.sn.tm : Int)) ∧ w'.cell? ⟨b5, 2, none⟩ = some (.slice vo s.sn.dat.length vc)) (by kernel_rfl) ⟨z0, z1, z2⟩ ?_
            intro hHeld
            refine wpAnyH_take (i := 0) (v := ?_) (by simp only [List.getElem?_toArray, List.getElem?_cons_zero]; rfl) (by kernel_rfl) (by kernel_rfl) (by kernel_rfl) (by intro _ _ _ h; exact h) (Or.inl ⟨by rfl, ?_⟩) (by assumption) ?_
            rotate_left
            · (intro w hSw; (try dsimp only at hSw); go_simp; try with_reducible rfl)
            try simp only [Act.put, List.setIfInBounds_toArray, List.set_cons_zero, List.set_cons_succ]
            refine wpAnyH_take (i := 2) (v := ?_) (by simp only [List.getElem?_toArray, List.getElem?_cons_succ, List.getElem?_cons_zero]; rfl) (by kernel_rfl) (by kernel_rfl) (by kernel_rfl) (by intro _ _ _ h; exact h) (Or.inl ⟨by rfl, ?_⟩) (by assumption) ?_
            rotate_left
            · (intro w hSw; (try dsimp only at hSw); go_simp; try with_reducible rfl)
            try simp only [Act.put, List.setIfInBounds_toArray, List.set_cons_zero, List.set_cons_succ]
            refine wpAnyH_ready (rs := [1]) (by kernel_rfl) (by simp) ?_
            refine AllReadyH.cons (by simp only [List.getElem?_toArray, List.getElem?_cons_succ, List.getElem?_cons_zero]; rfl) (fun K hK => ?_) AllReadyH.nil
            go_simp
            refine CS.out.mono ?_
            rintro e wf ⟨vf, rfl, hof, hbf⟩
            have HLF := Lib.hid (HT1.out.below hw1 hbf)
            obtain ⟨p0, p1, p2, -, -, -, pl⟩ := kept3 HLF.out.box
            have H5 := Lib.hid (same_any s.sn s.sn vf (.slice vo s.sn.dat.length vc) wf (Rd.of_own hof) HLF.out.hx.rd)
            rw [sameB_self] at H5
            obtain ⟨of, cf, rfl, -, -⟩ := own_slice hof
            clear hof hbf
            unfold snV at *
            dsimp only
            refine hK.out _ _ ⟨p0, p1, p2⟩ (fun hHeld => ?_)
            clear hK K
            try simp only [Act.put, List.setIfInBounds_toArray, List.set_cons_zero, List.set_cons_succ]
            refine wpAnyH_ready (rs := [3]) (by kernel_rfl) (by simp) ?_
            refine AllReadyH.cons (by simp only [List.getElem?_toArray, List.getElem?_cons_succ, List.getElem?_cons_zero]; rfl) (fun K hK => ?_) AllReadyH.nil
            go_simp
            refine H5.out.mono ?_
            rintro e wg ⟨rfl, hbg⟩
            have HLG := Lib.hid (HLF.out.below hw1 hbg)
            obtain ⟨o0, o1, o2, -, -, -, ol⟩ := kept3 HLG.out.box
            clear hbg
            dsimp only
            refine hK.out _ _ ⟨o0, o1, o2⟩ (fun hHeld => ?_)
            clear hK K
            try simp only [Act.put, List.setIfInBounds_toArray, List.set_cons_zero, List.set_cons_succ]
            refine wpAnyH_take (i := 4) (v := ?_) (by simp only [List.getElem?_toArray, List.getElem?_cons_succ, List.getElem?_cons_zero]; rfl) (by kernel_rfl) (by kernel_rfl) (by kernel_rfl) (by intro _ _ _ h; exact h) (Or.inl ⟨by rfl, ?_⟩) (by assumption) ?_
            rotate_left
            · (intro w hSw; (try dsimp only at hSw); go_simp; try with_reducible rfl)
            try simp only [Act.put, List.setIfInBounds_toArray, List.set_cons_zero, List.set_cons_succ]
            refine wpAnyH_done (by kernel_rfl) ?_ _
            dsimp only [onlyN]
            have wm : IntKind.i64.wrap ((m : Int) + 1) = (m : Int) + 1 := IntWalk.i64_in _ (by omega)
            go_wp2_with fail
            go_roundw
            case rel => exact ⟨m + 1, St, R4, s, vo, vc, by omega, by omega, by go_num, rfl, HLG.out⟩
            case measure => simp [intOf]; omega
          | done hgt hnf c g e f _ =>
            obtain ⟨s8, he⟩ : ∃ s8, saveS s N = (0, s8) := ⟨(saveS s N).2, Prod.ext c rfl⟩
            have ho8 := save_ops 20000 s N HLC.out.sg.most (by omega)
            rw [he] at e g f ho8
            dsimp only at e g f ho8
            have H4 := Lib.hid (save_gen N (.slice o' N.dat.length c') wc HLC.out.at_ (HXC.out.sub fun kk hk => .inl hk) hn1 hn2 (by omega) hops he)
            unfold snV at H4
            have hgt1 : (s.sn.ix : Int) < (N.ix : Int) := by omega
            have HF8 := Lib.hid (f HLC.out.fuse)
            have HG8 := Lib.hid g
            have HN8 := Lib.hid e
            clear he c f g e
            go_wp2_with fail
            refine H4.out.mono ?_
            rintro e wd ⟨rfl, ha4, hk4⟩
            have hnd := (hk4.block bx tl hnbx).trans hnc
            obtain ⟨y0, y1, y2, -, -, -, yl⟩ := kept3 hnd
            have hbd := (hk4.block b5 (lt_of_block HLC.out.box) HLC.out.nb).trans HLC.out.box
            obtain ⟨z0, z1, z2, fz0, fz1, fz2, zl⟩ := kept3 hbd
            have hnad := (hk4.block ba (lt_of_block HNA.out) (fun h => by have := HL.out.at_.lt _ h; omega)).trans HNA.out
            have hsv := HLC.out.saved hw1 ha4 hk4 HG8.out HF8.out ho8 (vo' := o') (vc' := c') (by rw [HN8.out]; exact HXC.out)
            rw [HN8.out] at hsv
            have hbne : ba ≠ b5 := fun h => by have := HL.out; have h2 := lt_of_block this.box; omega
            have q0 : wd.cell? ⟨ba, 0, none⟩ = some (.int .u8 k) := cellk (i := 0) hnad rfl
            have HSV := Lib.hid hsv
            have HNAD := Lib.hid hnad
            generalize Fr R wc wd = R4 at *
            clear ha4 hk4 t0 t1 t2 H4 hsv hnad
            go_upto_region 18 with fail
            have hnad := (show (((wd.setCell ⟨b5, 0, none⟩ (.int .u64 (N.ix : Int))).setCell ⟨b5, 1, none⟩ (.int .u64 (N.tm : Int))).setCell ⟨b5, 2, none⟩ (.slice o' N.dat.length c')).heap[ba]? = _ from (heap_setCell_other _ _ _ _ hbne).trans ((heap_setCell_other _ _ _ _ hbne).trans (heap_setCell_other _ _ _ _ hbne))).trans HNAD.out
            generalize ((wd.setCell ⟨b5, 0, none⟩ (.int .u64 (N.ix : Int))).setCell ⟨b5, 1, none⟩ (.int .u64 (N.tm : Int))).setCell ⟨b5, 2, none⟩ (.slice o' N.dat.length c') = we at *
            clear q0 y0 y1 y2 z0 z1 z2 fz0 fz1 fz2
            have q0 : we.cell? ⟨ba, 0, none⟩ = some (.int .u8 k) := cellk (i := 0) hnad rfl
            have hb8 := HSV.out.box
            obtain ⟨z0, z1, z2, -, -, -, zl⟩ := kept3 hb8
            go_wp2_with fail
            have HT1 := Lib.hid ((HSV.out).drew hw1)
            have CS := Lib.hid (snap_any we.drew HT1.out.at_)
            refine wp_onlyN ?_
            refine wp_region_held_drew (S := fun w' => w'.cell? ⟨b5, 0, none⟩ = some (.int .u64 (s8.sn.ix : Int)) ∧ w'.cell? ⟨b5, 1, none⟩ = some (.int .u64 (s8.sn.tm : Int)) ∧ w'.cell? ⟨b5, 2, none⟩ = some (.slice o' s8.sn.dat.length c')) (by kernel_rfl) ⟨z0, z1, z2⟩ ?_
            intro hHeld
            refine wpAnyH_take (i := 0) (v := ?_) (by simp only [List.getElem?_toArray, List.getElem?_cons_zero]; rfl) (by kernel_rfl) (by kernel_rfl) (by kernel_rfl) (by intro _ _ _ h; exact h) (Or.inl ⟨by rfl, ?_⟩) (by assumption) ?_
            rotate_left
            · (intro w hSw; (try dsimp only at hSw); go_simp; try with_reducible rfl)
            try simp only [Act.put, List.setIfInBounds_toArray, List.set_cons_zero, List.set_cons_succ]
            refine wpAnyH_take (i := 2) (v := ?_) (by simp only [List.getElem?_toArray, List.getElem?_cons_succ, List.getElem?_cons_zero]; rfl) (by kernel_rfl) (by kernel_rfl) (by kernel_rfl) (by intro _ _ _ h; exact h) (Or.inl ⟨by rfl, ?_⟩) (by assumption) ?_
            rotate_left
            · (intro w hSw; (try dsimp only at hSw); go_simp; try with_reducible rfl)
            try simp only [Act.put, List.setIfInBounds_toArray, List.set_cons_zero, List.set_cons_succ]
            refine wpAnyH_ready (rs := [1]) (by kernel_rfl) (by simp) ?_
            refine AllReadyH.cons (by simp only [List.getElem?_toArray, List.getElem?_cons_succ, List.getElem?_cons_zero]; rfl) (fun K hK => ?_) AllReadyH.nil
            go_simp
            refine CS.out.mono ?_
            rintro e wf ⟨vf, rfl, hof, hbf⟩
            have HLF := Lib.hid (HT1.out.below hw1 hbf)
            obtain ⟨p0, p1, p2, -, -, -, pl⟩ := kept3 HLF.out.box
            have H5 := Lib.hid (same_any s8.sn s8.sn vf (.slice o' s8.sn.dat.length c') wf (Rd.of_own hof) HLF.out.hx.rd)
            rw [sameB_self] at H5
            obtain ⟨of, cf, rfl, -, -⟩ := own_slice hof
            clear hof hbf
            unfold snV at *
            dsimp only
            refine hK.out _ _ ⟨p0, p1, p2⟩ (fun hHeld => ?_)
            clear hK K
            try simp only [Act.put, List.setIfInBounds_toArray, List.set_cons_zero, List.set_cons_succ]
            refine wpAnyH_ready (rs := [3]) (by kernel_rfl) (by simp) ?_
            refine AllReadyH.cons (by simp only [List.getElem?_toArray, List.getElem?_cons_succ, List.getElem?_cons_zero]; rfl) (fun K hK => ?_) AllReadyH.nil
            go_simp
            refine H5.out.mono ?_
            rintro e wg ⟨rfl, hbg⟩
            have HLG := Lib.hid (HLF.out.below hw1 hbg)
            obtain ⟨o0, o1, o2, -, -, -, ol⟩ := kept3 HLG.out.box
            clear hbg
            dsimp only
            refine hK.out _ _ ⟨o0, o1, o2⟩ (fun hHeld => ?_)
            clear hK K
            try simp only [Act.put, List.setIfInBounds_toArray, List.set_cons_zero, List.set_cons_succ]
            refine wpAnyH_take (i := 4) (v := ?_) (by simp only [List.getElem?_toArray, List.getElem?_cons_succ, List.getElem?_cons_zero]; rfl) (by kernel_rfl) (by kernel_rfl) (by kernel_rfl) (by intro _ _ _ h; exact h) (Or.inl ⟨by rfl, ?_⟩) (by assumption) ?_
            rotate_left
            · (intro w hSw; (try dsimp only at hSw); go_simp; try with_reducible rfl)
            try simp only [Act.put, List.setIfInBounds_toArray, List.set_cons_zero, List.set_cons_succ]
            refine wpAnyH_done (by kernel_rfl) ?_ _
            dsimp only [onlyN]
            have wm : IntKind.i64.wrap ((m : Int) + 1) = (m : Int) + 1 := IntWalk.i64_in _ (by omega)
            go_wp2_with fail
            go_roundw
            case rel => exact ⟨m + 1, St, R4, s8, o', c', by omega, by omega, by go_num, rfl, HLG.out⟩
            case measure => simp [intOf]; omega
        · have hr3' : ¬ r < 3 := hr3
          have hcv : ∀ (W : World), W.heap.size ≥ w.heap.size → cuts ≠ [] → (Value.slice ocv ncv ccv).ownBlock ≠ some T := fun _ _ hc e => by
            have := HAT0.out.rc.lt hc T e
            omega
          by_cases hr4 : r = 4
          · subst hr4
            have HR := Lib.hid (sat_restart (.slice ocv ncv ccv) cuts wa HLA.out.at_ (HAT0.out.rc.below HLA.out.bel) (hcv wa HLA.out.bel.size))
            obtain ⟨-, -, hop, hsg⟩ := HLA.out.sg.restart cuts
            have HOP := Lib.hid hop
            have HSG := Lib.hid hsg
            clear hop hsg hcv bnear bn hbig x1 x2 x4 x5 s0 s1 s2 g0 g1 g2
            go_wp2_with fail
            refine HR.out.mono ?_
            rintro e wb ⟨rfl, ha4, hk4⟩
            have HLB := Lib.hid (HLA.out.new (s' := ⟨restartS s.d cuts, s.now, s.sp, s.sn⟩) hw1 ha4 hk4 rfl HSG.out rfl (Nat.le_refl _))
            have hnb : ¬ R ba := fun h => by have := HL.out.at_.lt _ h; omega
            have hnab := (hk4.block ba (lt_of_block hna) hnb).trans hna
            have y0 : wb.cell? ⟨ba, 0, none⟩ = some (.int .u8 k) := cellk (i := 0) hnab rfl
            generalize Fr R wa wb = R4 at *
            have HO := Lib.hid (sat_open wb HLB.out.at_ HLB.out.sg.n HLB.out.sg.off)
            clear ha4 hk4 x0 x3 x6 hna HR
            go_wp2_with fail
            refine HO.out.mono ?_
            rintro e wc ⟨St', rfl, ha5, hb5⟩
            have ha5' : SAt wc (Fr R4 wb wc) St' D T ⟨restartS s.d cuts, s.now, s.sp, s.sn⟩ := by
              have := ha5
              rw [show (opened (restartS s.d cuts)) = _ from HOP.out] at this
              exact this
            have HLC := Lib.hid (HLB.out.new hw1 ha5' (kept_of_below hb5) rfl HLB.out.sg HLB.out.fuse (Nat.le_refl _))
            generalize Fr R4 wb wc = R5 at *
            obtain ⟨z0, z1, z2, -, -, -, zl⟩ := kept3 HLC.out.box
            clear ha5 ha5' hb5 y0 HO
            go_wp2_with fail
            have HT1 := Lib.hid ((HLC.out.more (Nat.le_succ m)).drew hw1)
            have CS := Lib.hid (snap_any wc.drew HT1.out.at_)
            refine wp_onlyN ?_
            refine wp_region_held_drew (S := fun w' => w'.cell? ⟨b5, 0, none⟩ = some (.int .u64 ((Ss.mk (restartS s.d cuts) s.now s.sp s.sn).sn.ix : Int)) ∧ w'.cell? ⟨b5, 1, none⟩ = some (.int .u64 ((Ss.mk (restartS s.d cuts) s.now s.sp s.sn).sn.tm : Int)) ∧ w'.cell? ⟨b5, 2, none⟩ = some (.slice vo (Ss.mk (restartS s.d cuts) s.now s.sp s.sn).sn.dat.length vc)) (by kernel_rfl) ⟨z0, z1, z2⟩ ?_
            intro hHeld
            refine wpAnyH_take (i := 0) (v := ?_) (by simp only [List.getElem?_toArray, List.getElem?_cons_zero]; rfl) (by kernel_rfl) (by kernel_rfl) (by kernel_rfl) (by intro _ _ _ h; exact h) (Or.inl ⟨by rfl, ?_⟩) (by assumption) ?_
            rotate_left
            · (intro w hSw; (try dsimp only at hSw); go_simp; try with_reducible rfl)
            try simp only [Act.put, List.setIfInBounds_toArray, List.set_cons_zero, List.set_cons_succ]
            refine wpAnyH_take (i := 2) (v := ?_) (by simp only [List.getElem?_toArray, List.getElem?_cons_succ, List.getElem?_cons_zero]; rfl) (by kernel_rfl) (by kernel_rfl) (by kernel_rfl) (by intro _ _ _ h; exact h) (Or.inl ⟨by rfl, ?_⟩) (by assumption) ?_
            rotate_left
            · (intro w hSw; (try dsimp only at hSw); go_simp; try with_reducible rfl)
            try simp only [Act.put, List.setIfInBounds_toArray, List.set_cons_zero, List.set_cons_succ]
            refine wpAnyH_ready (rs := [1]) (by kernel_rfl) (by simp) ?_
            refine AllReadyH.cons (by simp only [List.getElem?_toArray, List.getElem?_cons_succ, List.getElem?_cons_zero]; rfl) (fun K hK => ?_) AllReadyH.nil
            go_simp
            refine CS.out.mono ?_
            rintro e wf ⟨vf, rfl, hof, hbf⟩
            have HLF := Lib.hid (HT1.out.below hw1 hbf)
            obtain ⟨p0, p1, p2, -, -, -, pl⟩ := kept3 HLF.out.box
            have H5 := Lib.hid (same_any (Ss.mk (restartS s.d cuts) s.now s.sp s.sn).sn (Ss.mk (restartS s.d cuts) s.now s.sp s.sn).sn vf (.slice vo (Ss.mk (restartS s.d cuts) s.now s.sp s.sn).sn.dat.length vc) wf (Rd.of_own hof) HLF.out.hx.rd)
            rw [sameB_self] at H5
            obtain ⟨of, cf, rfl, -, -⟩ := own_slice hof
            clear hof hbf
            unfold snV at *
            dsimp only
            refine hK.out _ _ ⟨p0, p1, p2⟩ (fun hHeld => ?_)
            clear hK K
            try simp only [Act.put, List.setIfInBounds_toArray, List.set_cons_zero, List.set_cons_succ]
            refine wpAnyH_ready (rs := [3]) (by kernel_rfl) (by simp) ?_
            refine AllReadyH.cons (by simp only [List.getElem?_toArray, List.getElem?_cons_succ, List.getElem?_cons_zero]; rfl) (fun K hK => ?_) AllReadyH.nil
            go_simp
            refine H5.out.mono ?_
            rintro e wg ⟨rfl, hbg⟩
            have HLG := Lib.hid (HLF.out.below hw1 hbg)
            obtain ⟨o0, o1, o2, -, -, -, ol⟩ := kept3 HLG.out.box
            clear hbg
            dsimp only
            refine hK.out _ _ ⟨o0, o1, o2⟩ (fun hHeld => ?_)
            clear hK K
            try simp only [Act.put, List.setIfInBounds_toArray, List.set_cons_zero, List.set_cons_succ]
            refine wpAnyH_take (i := 4) (v := ?_) (by simp only [List.getElem?_toArray, List.getElem?_cons_succ, List.getElem?_cons_zero]; rfl) (by kernel_rfl) (by kernel_rfl) (by kernel_rfl) (by intro _ _ _ h; exact h) (Or.inl ⟨by rfl, ?_⟩) (by assumption) ?_
            rotate_left
            · (intro w hSw; (try dsimp only at hSw); go_simp; try with_reducible rfl)
            try simp only [Act.put, List.setIfInBounds_toArray, List.set_cons_zero, List.set_cons_succ]
            refine wpAnyH_done (by kernel_rfl) ?_ _
            dsimp only [onlyN]
            have wm : IntKind.i64.wrap ((m : Int) + 1) = (m : Int) + 1 := IntWalk.i64_in _ (by omega)
            go_wp2_with fail
            go_roundw
            case rel => exact ⟨m + 1, St', R5, (Ss.mk (restartS s.d cuts) s.now s.sp s.sn), vo, vc, by omega, by omega, by go_num, rfl, HLG.out⟩
            case measure => simp [intOf]; omega
          · have hr4' : (r == 4) = false := by simp [hr4]
            have HO := Lib.hid (sat_open wa HLA.out.at_ HLA.out.sg.n HLA.out.sg.off)
            clear hcv bnear bn hbig x1 x2 x4 x5 x6 s0 s1 s2 g0 g1 g2
            go_wp2_with fail
            refine HO.out.mono ?_
            rintro e wc ⟨St', rfl, ha5, hb5⟩
            rw [HLA.out.sg.op] at ha5
            have HLC := Lib.hid (HLA.out.new hw1 ha5 (kept_of_below hb5) rfl HLA.out.sg HLA.out.fuse (Nat.le_refl _))
            generalize Fr R wa wc = R5 at *
            obtain ⟨z0, z1, z2, -, -, -, zl⟩ := kept3 HLC.out.box
            clear ha5 hb5 x0 x3 HO
            go_wp2_with fail
            have HT1 := Lib.hid ((HLC.out.more (Nat.le_succ m)).drew hw1)
            have CS := Lib.hid (snap_any wc.drew HT1.out.at_)
            refine wp_onlyN ?_
            refine wp_region_held_drew (S := fun w' => w'.cell? ⟨b5, 0, none⟩ = some (.int .u64 (s.sn.ix : Int)) ∧ w'.cell? ⟨b5, 1, none⟩ = some (.int .u64 (s.sn.tm : Int)) ∧ w'.cell? ⟨b5, 2, none⟩ = some (.slice vo s.sn.dat.length vc)) (by kernel_rfl) ⟨z0, z1, z2⟩ ?_
            intro hHeld
            refine wpAnyH_take (i := 0) (v := ?_) (by simp only [List.getElem?_toArray, List.getElem?_cons_zero]; rfl) (by kernel_rfl) (by kernel_rfl) (by kernel_rfl) (by intro _ _ _ h; exact h) (Or.inl ⟨by rfl, ?_⟩) (by assumption) ?_
            rotate_left
            · (intro w hSw; (try dsimp only at hSw); go_simp; try with_reducible rfl)
            try simp only [Act.put, List.setIfInBounds_toArray, List.set_cons_zero, List.set_cons_succ]
            refine wpAnyH_take (i := 2) (v := ?_) (by simp only [List.getElem?_toArray, List.getElem?_cons_succ, List.getElem?_cons_zero]; rfl) (by kernel_rfl) (by kernel_rfl) (by kernel_rfl) (by intro _ _ _ h; exact h) (Or.inl ⟨by rfl, ?_⟩) (by assumption) ?_
            rotate_left
            · (intro w hSw; (try dsimp only at hSw); go_simp; try with_reducible rfl)
            try simp only [Act.put, List.setIfInBounds_toArray, List.set_cons_zero, List.set_cons_succ]
            refine wpAnyH_ready (rs := [1]) (by kernel_rfl) (by simp) ?_
            refine AllReadyH.cons (by simp only [List.getElem?_toArray, List.getElem?_cons_succ, List.getElem?_cons_zero]; rfl) (fun K hK => ?_) AllReadyH.nil
            go_simp
            refine CS.out.mono ?_
            rintro e wf ⟨vf, rfl, hof, hbf⟩
            have HLF := Lib.hid (HT1.out.below hw1 hbf)
            obtain ⟨p0, p1, p2, -, -, -, pl⟩ := kept3 HLF.out.box
            have H5 := Lib.hid (same_any s.sn s.sn vf (.slice vo s.sn.dat.length vc) wf (Rd.of_own hof) HLF.out.hx.rd)
            rw [sameB_self] at H5
            obtain ⟨of, cf, rfl, -, -⟩ := own_slice hof
            clear hof hbf
            unfold snV at *
            dsimp only
            refine hK.out _ _ ⟨p0, p1, p2⟩ (fun hHeld => ?_)
            clear hK K
            try simp only [Act.put, List.setIfInBounds_toArray, List.set_cons_zero, List.set_cons_succ]
            refine wpAnyH_ready (rs := [3]) (by kernel_rfl) (by simp) ?_
            refine AllReadyH.cons (by simp only [List.getElem?_toArray, List.getElem?_cons_succ, List.getElem?_cons_zero]; rfl) (fun K hK => ?_) AllReadyH.nil
            go_simp
            refine H5.out.mono ?_
            rintro e wg ⟨rfl, hbg⟩
            have HLG := Lib.hid (HLF.out.below hw1 hbg)
            obtain ⟨o0, o1, o2, -, -, -, ol⟩ := kept3 HLG.out.box
            clear hbg
            dsimp only
            refine hK.out _ _ ⟨o0, o1, o2⟩ (fun hHeld => ?_)
            clear hK K
            try simp only [Act.put, List.setIfInBounds_toArray, List.set_cons_zero, List.set_cons_succ]
            refine wpAnyH_take (i := 4) (v := ?_) (by simp only [List.getElem?_toArray, List.getElem?_cons_succ, List.getElem?_cons_zero]; rfl) (by kernel_rfl) (by kernel_rfl) (by kernel_rfl) (by intro _ _ _ h; exact h) (Or.inl ⟨by rfl, ?_⟩) (by assumption) ?_
            rotate_left
            · (intro w hSw; (try dsimp only at hSw); go_simp; try with_reducible rfl)
            try simp only [Act.put, List.setIfInBounds_toArray, List.set_cons_zero, List.set_cons_succ]
            refine wpAnyH_done (by kernel_rfl) ?_ _
            dsimp only [onlyN]
            have wm : IntKind.i64.wrap ((m : Int) + 1) = (m : Int) + 1 := IntWalk.i64_in _ (by omega)
            go_wp2_with fail
            go_roundw
            case rel => exact ⟨m + 1, St', R5, s, vo, vc, by omega, by omega, by go_num, rfl, HLG.out⟩
            case measure => simp [intOf]; omega
    · by_cases h1 : m < acts.length
      · have i1 : (m : Int) < (acts.length : Int) := by omega
        have i2 : ¬ (m : Int) < 30 := by omega
        have HB := Lib.hid HL.out.bel
        clear HL
        go_wp2_with fail
        go_ret
        exact ⟨rfl, HB.out⟩
      · have i1 : ¬ (m : Int) < (acts.length : Int) := by omega
        have HB := Lib.hid HL.out.bel
        clear HL
        go_wp2_with fail
        go_ret
        exact ⟨rfl, HB.out⟩
end Go.Proofs.Ytonahfpnlaolpaa
