/- StoreCrashes: the power goes off in any operation, with any cuts: the snapshot that stands is the last one that was saved, or the one whose saving was cut, whole. -/
import Derived.Test.YtonahfpnlaolpaaLStCrA
namespace Go.Proofs.Ytonahfpnlaolpaa
open Go.RowKit OctM

theorem sameB_ne {a b : Sn} (h : a ≠ b) : sameB a b = false := by
  cases hs : sameB a b with
  | false => rfl
  | true =>
    exfalso
    apply h
    simp [sameB] at hs
    obtain ⟨h1, h2, h3⟩ := hs
    cases a; cases b
    simp_all

set_option maxHeartbeats 40000000 in
set_option maxRecDepth 100000 in
theorem scrashes_walk (v : Value) (acts : List SA) (w : World) (h : RdSA w v acts) :
    Calls Try.prog 6 #[v] w fun e w' => e = .returned (.bool true) ∧ Below w.heap.size w w' := by
  obtain ⟨ox, cx, rfl⟩ : ∃ o c, v = .slice o acts.length c := by
    rcases h with ⟨o, c, rfl, rfl⟩ | ⟨b, off, c, rfl, _⟩ <;> exact ⟨_, _, rfl⟩
  have HX := Lib.hid h
  clear h
  go_enter Try.func6, Try.ntmps6
  go_wp2_with fail
  refine (awake_any w).mono ?_
  rintro e w1 ⟨rfl, hb1⟩
  have HB1 := Lib.hid hb1
  have hw1 := hb1.size
  clear hb1
  go_wp2_with fail
  refine (sopen_any 20000 w1 (by omega) (by omega)).mono ?_
  rintro e w2 ⟨D, T, St0, rfl, h2, hb2, hT⟩
  have hs2 := hb2.size
  obtain ⟨R0, hR⟩ : ∃ R, (fun k => w1.heap.size ≤ k ∧ k < w2.heap.size) = R := ⟨_, rfl⟩
  rw [hR] at h2
  have hge : ∀ k, R0 k → w1.heap.size ≤ k := by subst hR; exact fun k hk => hk.1
  clear hR
  go_upto_region 5 with fail
  have hb3 : Below w2.heap.size w2 (w2.alloc (.cells #[.int .u64 0, .int .u64 0, .slice none 0 0] 55)) := (Below.refl _ _).alloc (Nat.le_refl _) _
  have hs3 : (w2.alloc (.cells #[.int .u64 0, .int .u64 0, .slice none 0 0] 55)).heap.size = w2.heap.size + 1 := by simp
  have start : CL w w1 D T w2.heap.size 0 St0 R0 ⟨new 3 20000, 1, 2, zs⟩ none 0 (w2.alloc (.cells #[.int .u64 0, .int .u64 0, .slice none 0 0] 55)) :=
    ⟨h2.below hb3, sg_new 20000, by show 0 ≤ _; omega, heap_alloc_new w2 _, Hx.nil _ _, fun h => by have := h2.lt _ h; omega, hge, HB1.out.trans ((hb2.trans (hb3.mono hs2)).mono hw1), hs2, by omega⟩
  generalize w2.alloc (.cells #[.int .u64 0, .int .u64 0, .slice none 0 0] 55) = w3 at *
  generalize w2.heap.size = b5 at *
  have START := Lib.hid start
  clear start h2 hb2 hb3 hge
  go_wp2_with fail
  go_loopw [4, 6] (fun t i wr => ∃ (m St : Nat) (R : Nat → Prop) (s : Ss) (vo : Option Addr) (vc : Nat), m ≤ 30 ∧ m ≤ acts.length ∧ i = .int .i64 m ∧ t = .pointer (some ⟨St, 0, none⟩) ∧ Hid (CL w w1 D T b5 m St R s vo vc wr)) (fun _ i _ => 31 - (intOf i).toNat)
  case atStart => exact ⟨0, St0, R0, _, _, _, by omega, by omega, rfl, rfl, START.out⟩
  case round =>
    obtain ⟨m, St, R, s, vo, vc, hm, hml, rfl, rfl, HL⟩ := hrel
    clear START
    by_cases hlt : m < acts.length ∧ m < 30
    · obtain ⟨hlt1, hlt2⟩ := hlt
      have i1 : (m : Int) < (acts.length : Int) := by omega
      have i2 : (m : Int) < 30 := by omega
      have hact : ∃ bb off, ox = some ⟨bb, off, none⟩ ∧ SActAt w bb (off + m * 7) acts[m] := by
        rcases HX.out with ⟨o, c, hv, hl0⟩ | ⟨bb, off, c, hv, _, _, _, hat⟩
        · subst hl0; simp at hlt1
        · injection hv with hv _ _
          exact ⟨bb, off, hv, hat m _ (List.getElem?_eq_getElem hlt1)⟩
      obtain ⟨bb, off, rfl, hat0⟩ := hact
      have hat := hat0.below HL.out.bel (Nat.le_refl _)
      generalize acts[m] = A at *
      have HAT0 := Lib.hid hat0
      obtain ⟨k, ⟨ix, tm, l⟩, po, pc, near, n, cv, cuts⟩ := A
      obtain ⟨a0, a1, a2, a3, a4, a5, a6, hrd, hrc, bk, bix, btm, bnear, bn⟩ := hat
      simp only at a0 a1 a2 a3 a4 a5 a6 hrd hrc bk bix btm bnear bn
      obtain ⟨r, hr, hr0, hr1⟩ : ∃ r : Int, k % 6 = r ∧ 0 ≤ r ∧ r < 6 := ⟨k % 6, rfl, by omega, by omega⟩
      have hrt : k.tmod 6 = r := by rw [Int.tmod_eq_emod_of_nonneg bk.1]; exact hr
      have hba : Below wr.heap.size wr (wr.alloc (.cells #[.int .u8 k, .int .u64 (ix : Int), .int .u64 (tm : Int), .slice po l.length pc, .int .u8 near, .int .u16 n, cv] 58)) := (Below.refl _ _).alloc (Nat.le_refl _) _
      have hsa : (wr.alloc (.cells #[.int .u8 k, .int .u64 (ix : Int), .int .u64 (tm : Int), .slice po l.length pc, .int .u8 near, .int .u16 n, cv] 58)).heap.size = wr.heap.size + 1 := by simp
      have hna := heap_alloc_new wr (.cells #[.int .u8 k, .int .u64 (ix : Int), .int .u64 (tm : Int), .slice po l.length pc, .int .u8 near, .int .u16 n, cv] 58)
      have HLA := Lib.hid (HL.out.below hw1 hba)
      have HBIX := Lib.hid bix
      have HBTM := Lib.hid btm
      obtain ⟨ocv, ncv, ccv, rfl⟩ : ∃ o n c, cv = .slice o n c := by
        obtain ⟨o, c, h, _⟩ := hrc
        exact ⟨_, _, _, h⟩
      clear hrd hrc hat0 bix btm
      go_upto_region 9 with fail
      generalize wr.alloc (.cells #[.int .u8 k, .int .u64 (ix : Int), .int .u64 (tm : Int), .slice po l.length pc, .int .u8 near, .int .u16 n, .slice ocv ncv ccv] 58) = wa at *
      generalize hba0 : wr.heap.size = ba at *
      clear a0 a1 a2 a3 a4 a5 a6 hba
      have x0 : wa.cell? ⟨ba, 0, none⟩ = some (.int .u8 k) := cellk (i := 0) hna rfl
      have x1 : wa.cell? ⟨ba, 1, none⟩ = some (.int .u64 (ix : Int)) := cellk (i := 1) hna rfl
      have x2 : wa.cell? ⟨ba, 2, none⟩ = some (.int .u64 (tm : Int)) := cellk (i := 2) hna rfl
      have x3 : wa.cell? ⟨ba, 3, none⟩ = some (.slice po l.length pc) := cellk (i := 3) hna rfl
      have x4 : wa.cell? ⟨ba, 4, none⟩ = some (.int .u8 near) := cellk (i := 4) hna rfl
      have x5 : wa.cell? ⟨ba, 5, none⟩ = some (.int .u16 n) := cellk (i := 5) hna rfl
      have x6 : wa.cell? ⟨ba, 6, none⟩ = some (.slice ocv ncv ccv) := cellk (i := 6) hna rfl
      obtain ⟨s0, s1, s2, g0, g1, g2, sl⟩ := kept3 HLA.out.box
      by_cases hbig : 3000 < l.length
      · have hb' : (3000 : Int) < (l.length : Int) := by omega
        go_wp2_with fail
        go_ret
        exact ⟨rfl, HLA.out.bel⟩
      · have hb' : ¬ (3000 : Int) < (l.length : Int) := by omega
        have hl3 : l.length ≤ 3000 := by omega
        have hb8 : Below wa.heap.size wa (wa.alloc (.cells #[.int .u64 (s.sn.ix : Int), .int .u64 (s.sn.tm : Int), .slice vo s.sn.dat.length vc] 55)) := (Below.refl _ _).alloc (Nat.le_refl _) _
        have hs8 : (wa.alloc (.cells #[.int .u64 (s.sn.ix : Int), .int .u64 (s.sn.tm : Int), .slice vo s.sn.dat.length vc] 55)).heap.size = wa.heap.size + 1 := by simp
        have hn8 := heap_alloc_new wa (.cells #[.int .u64 (s.sn.ix : Int), .int .u64 (s.sn.tm : Int), .slice vo s.sn.dat.length vc] 55)
        have HL8 := Lib.hid (HLA.out.below hw1 hb8)
        have HX8 := Lib.hid (HLA.out.hx.add hb8 (Nat.le_refl _))
        have HNA8 := Lib.hid ((hb8.block ba (by omega)).trans hna)
        have hcv : ∀ (cuts' : List Int), cuts' = cuts → cuts' ≠ [] → (Value.slice ocv ncv ccv).ownBlock ≠ some T := fun _ h hc e => by
          subst h
          have := HAT0.out.rc.lt hc T e
          omega
        have HCV := Lib.hid (hcv cuts rfl)
        have hn0 := bn.1
        have hRa : ∀ kk, R kk → kk < ba := fun kk h => by have := HL.out.at_.lt kk h; omega
        have hb5a : b5 < ba := by have := lt_of_block HL.out.box; omega
        have HRA := Lib.hid hRa
        go_upto_region 13 with fail
        generalize wa.alloc (.cells #[.int .u64 (s.sn.ix : Int), .int .u64 (s.sn.tm : Int), .slice vo s.sn.dat.length vc] 55) = w8 at *
        rw [hsa] at hs8 hn8 HX8
        generalize hb80 : ba + 1 = b8 at *
        clear hb8 hcv hRa x0 x1 x2 x3 x4 x5 x6 s0 s1 s2 g0 g1 g2 sl hna
        have x0 : w8.cell? ⟨ba, 0, none⟩ = some (.int .u8 k) := cellk (i := 0) HNA8.out rfl
        have x1 : w8.cell? ⟨ba, 1, none⟩ = some (.int .u64 (ix : Int)) := cellk (i := 1) HNA8.out rfl
        have x2 : w8.cell? ⟨ba, 2, none⟩ = some (.int .u64 (tm : Int)) := cellk (i := 2) HNA8.out rfl
        have x3 : w8.cell? ⟨ba, 3, none⟩ = some (.slice po l.length pc) := cellk (i := 3) HNA8.out rfl
        have x4 : w8.cell? ⟨ba, 4, none⟩ = some (.int .u8 near) := cellk (i := 4) HNA8.out rfl
        have x5 : w8.cell? ⟨ba, 5, none⟩ = some (.int .u16 n) := cellk (i := 5) HNA8.out rfl
        have x6 : w8.cell? ⟨ba, 6, none⟩ = some (.slice ocv ncv ccv) := cellk (i := 6) HNA8.out rfl
        obtain ⟨s0, s1, s2, g0, g1, g2, sl⟩ := kept3 HL8.out.box
        obtain ⟨e0, e1, e2, f0, f1, f2, el⟩ := kept3 hn8
        have HEB8 := Lib.hid hn8
        have hna5 : ba ≠ b5 := by have := lt_of_block HL.out.box; omega
        have hn85 : b8 ≠ b5 := by have := lt_of_block HL.out.box; omega
        have hnR8 : ¬ R b8 := fun h => by have := HL.out.at_.lt _ h; omega
        have hnRa : ¬ R ba := fun h => by have := HL.out.at_.lt _ h; omega
        by_cases hr5 : r = 5
        · subst hr5
          obtain ⟨kk, hkk⟩ : ∃ kk : Nat, near % 9 = (kk : Int) := ⟨(near % 9).toNat, by omega⟩
          have hkt : Int.tmod near 9 = (kk : Int) := by rw [← hkk]; exact Int.tmod_eq_emod_of_nonneg bnear.1
          have wn : IntKind.i64.wrap near = near := IntWalk.i64_in _ (by omega)
          have HM := Lib.hid (sat_arm kk w8 HL8.out.at_ (by omega))
          go_wp2_with fail
          refine HM.out.mono ?_
          rintro e wA ⟨rfl, haA, hkA⟩
          have HLZ := Lib.hid ((HL8.out.new hw1 haA hkA rfl (HL8.out.sg.armed kk) (Nat.le_refl _)).more (Nat.le_succ m))
          generalize Fr R w8 wA = RA at *
          have wm : IntKind.i64.wrap ((m : Int) + 1) = (m : Int) + 1 := IntWalk.i64_in _ (by omega)
          clear haA hkA HM
          go_wp2_with fail
          go_roundw
          case rel => exact ⟨m + 1, St, RA, _, vo, vc, by omega, by omega, by go_num, rfl, HLZ.out⟩
          case measure => simp [intOf]; omega
        · by_cases hr3 : 3 ≤ r
          · have r0 : (r == 0) = false := by simp; omega
            have r1 : (r == 1) = false := by simp; omega
            have r2 : (r == 2) = false := by simp; omega
            have r5 : (r == 5) = false := by simp [hr5]
            have rg : (2 : Int) < r := by omega
            have HO := Lib.hid (sat_open w8 HL8.out.at_ HL8.out.sg.n HL8.out.sg.off)
            go_wp2_with fail
            refine HO.out.mono ?_
            rintro e wb ⟨St', rfl, -, hbb⟩
            have HLB := Lib.hid (HL8.out.below hw1 hbb)
            have HNB := Lib.hid ((hbb.block ba (lt_of_block HNA8.out)).trans HNA8.out)
            have HEB := Lib.hid ((hbb.block b8 (lt_of_block hn8)).trans hn8)
            clear HO hbb x0 x1 x2 x3 x4 x5 x6 s0 s1 s2 g0 g1 g2 sl e0 e1 e2 f0 f1 f2 el hn8
            have x0 : wb.cell? ⟨ba, 0, none⟩ = some (.int .u8 k) := cellk (i := 0) HNB.out rfl
            obtain ⟨s0, s1, s2, g0, g1, g2, sl⟩ := kept3 HLB.out.box
            obtain ⟨e0, e1, e2, -, -, -, el⟩ := kept3 HEB.out
            have hcl := CL.set (m := m) (D := D) (T := T) HLB.out.at_ HLB.out.sg HLB.out.ops HLB.out.nb HLB.out.ge HLB.out.bel HLB.out.b5ge HLB.out.low hw1 HLB.out.box HLB.out.hx
            have HTL := Lib.hid (TL.of hcl ((set3_other wb _ _ _ hn85).trans HEB.out) hcl.hx ((set3_other wb _ _ _ hna5).trans HNB.out) hnR8 hnRa)
            have HFL := Lib.hid (Falls.of s HLB.out.sg)
            have HOP := Lib.hid (show s.d.ops ≤ 3000 * (m + 1) + 2100 by have := HLB.out.ops; omega)
            clear hcl HLB HNB HEB
            go_upto_region 26 with fail
            generalize (((wb.setCell ⟨b5, 0, none⟩ (.int .u64 (s.sn.ix : Int))).setCell ⟨b5, 1, none⟩ (.int .u64 (s.sn.tm : Int))).setCell ⟨b5, 2, none⟩ (.slice vo s.sn.dat.length vc)) = W2 at *
            clear x0 s0 s1 s2 g0 g1 g2 sl e0 e1 e2 el
            have x0 : W2.cell? ⟨ba, 0, none⟩ = some (.int .u8 k) := cellk (i := 0) HTL.out.act rfl
            go_wp2_with fail
            go_loopw [11] (fun c wr => c = .int .i64 0 ∧ Hid (TL w w1 D T b5 b8 ba St R s s.sn s.sn vo vc vo vc #[.int .u8 k, .int .u64 (ix : Int), .int .u64 (tm : Int), .slice po l.length pc, .int .u8 near, .int .u16 n, .slice ocv ncv ccv] wr)) (fun _ _ => 0)
            case atStart => exact ⟨rfl, HTL.out⟩
            case round =>
              obtain ⟨rfl, HT⟩ := hrel
              clear HTL
              have q5 : wr.cell? ⟨ba, 5, none⟩ = some (.int .u16 n) := cellk (i := 5) HT.out.act rfl
              have q6 : wr.cell? ⟨ba, 6, none⟩ = some (.slice ocv ncv ccv) := cellk (i := 6) HT.out.act rfl
              have HR := Lib.hid (sat_restart (.slice ocv ncv ccv) cuts wr HT.out.at_ (HAT0.out.rc.below HT.out.bel) HCV.out)
              go_wp2_with fail
              refine HR.out.mono ?_
              rintro e wA ⟨rfl, haA, hkA⟩
              have HTA := Lib.hid (HT.out.new hw1 haA hkA)
              generalize Fr R wr wA = RA at *
              clear haA hkA HR q5 q6 HT
              have q5 : wA.cell? ⟨ba, 5, none⟩ = some (.int .u16 n) := cellk (i := 5) HTA.out.act rfl
              obtain ⟨kk, hkk⟩ : ∃ kk : Nat, n % 3 = (kk : Int) := ⟨(n % 3).toNat, by omega⟩
              have hkt : Int.tmod n 3 = (kk : Int) := by rw [← hkk]; exact Int.tmod_eq_emod_of_nonneg hn0
              have wn : IntKind.i64.wrap n = n := IntWalk.i64_in _ (by omega)
              have HM := Lib.hid (sat_arm kk wA HTA.out.at_ (by omega))
              go_wp2_with fail
              refine HM.out.mono ?_
              rintro e wB ⟨rfl, haB, hkB⟩
              have HTB := Lib.hid (HTA.out.new hw1 haB hkB)
              generalize Fr RA wA wB = RB at *
              clear haB hkB HM q5 HTA
              have HO := Lib.hid (sat_open wB HTB.out.at_ (by have := (HFL.out cuts).1.n; rw [opened_d] at this; exact this) rfl)
              go_wp2_with fail
              refine HO.out.mono ?_
              rintro e wC ⟨St', rfl, haC, hbC⟩
              rw [opened_fuse] at haC
              have HTC := Lib.hid (HTB.out.new hw1 haC (kept_of_below hbC))
              generalize Fr RB wB wC = RC at *
              clear haC hbC HO HTB
              have HM2 := Lib.hid (sat_arm 0 wC HTC.out.at_ (by omega))
              go_wp2_with fail
              refine HM2.out.mono ?_
              rintro e wD ⟨rfl, haD, hkD⟩
              have HTD := Lib.hid (HTC.out.new hw1 haD hkD)
              generalize Fr RC wC wD = RD at *
              clear haD hkD HM2 HTC
              have hsg5 := (HFL.out cuts).1.armed 0
              rw [opened_d] at hsg5
              have hsn5 := (HFL.out cuts).2
              have hop5 : (restartS s.d cuts).ops ≤ 3000 * (m + 1 + 1) := by rw [restart_ops]; have := HOP.out; omega
              obtain ⟨s5, hs5⟩ : ∃ s5, s5 = ({ opened (restartS s.d cuts) with d := { restartS s.d cuts with fuse := 0 } } : Ss) := ⟨_, rfl⟩
              have HTE : Hid (TL w w1 D T b5 b8 ba St' RD s5 s.sn s.sn vo vc vo vc #[.int .u8 k, .int .u64 (ix : Int), .int .u64 (tm : Int), .slice po l.length pc, .int .u8 near, .int .u16 n, .slice ocv ncv ccv] wD) := by rw [hs5]; exact HTD
              have HSG5 := Lib.hid (show SG 20000 s5 by rw [hs5]; exact hsg5)
              have HOP5 := Lib.hid (show s5.d.ops ≤ 3000 * (m + 1 + 1) by rw [hs5]; exact hop5)
              have HSN6 := Lib.hid (show s5.sn = s.sn ∨ s5.sn = s.sn by rw [hs5]; exact hsn5)
              clear hs5 HTD hsg5 hop5 hsn5 HFL
              obtain ⟨z0, z1, z2, -, -, -, zl⟩ := kept3 HTE.out.box5
              obtain ⟨y0, y1, y2, -, -, -, yl⟩ := kept3 HTE.out.box8
              go_wp2_with fail
              have HT1 := Lib.hid (HTE.out.below hw1 (kept_draw wD))
              have CS := Lib.hid (snap_any wD.drew HT1.out.at_)
              by_cases hsame : s5.sn = s.sn
              · have HSAME := Lib.hid hsame
                clear hsame
                refine wp_onlyN ?_
                refine wp_region_held_drew (S := fun w' => w'.cell? ⟨b5, 0, none⟩ = some (.int .u64 (s.sn.ix : Int)) ∧ w'.cell? ⟨b5, 1, none⟩ = some (.int .u64 (s.sn.tm : Int)) ∧ w'.cell? ⟨b5, 2, none⟩ = some (.slice vo s.sn.dat.length vc) ∧ w'.cell? ⟨b8, 0, none⟩ = some (.int .u64 (s.sn.ix : Int)) ∧ w'.cell? ⟨b8, 1, none⟩ = some (.int .u64 (s.sn.tm : Int)) ∧ w'.cell? ⟨b8, 2, none⟩ = some (.slice vo s.sn.dat.length vc)) (by kernel_rfl) ⟨z0, z1, z2, y0, y1, y2⟩ ?_
                intro hHeld
                refine wpAnyH_take (i := 0) (v := ?_) (by simp only [List.getElem?_toArray, List.getElem?_cons_zero]; rfl) (by kernel_rfl) (by kernel_rfl) (by kernel_rfl) (by intro _ _ _ h; exact h) (Or.inl ⟨by rfl, ?_⟩) (by assumption) ?_
                rotate_left
                · (intro w hSw; (try dsimp only at hSw); go_simp; try with_reducible rfl)
                try simp only [Act.put, List.setIfInBounds_toArray, List.set_cons_zero, List.set_cons_succ]
                refine wpAnyH_take (i := 2) (v := ?_) (by simp only [List.getElem?_toArray, List.getElem?_cons_succ, List.getElem?_cons_zero]; rfl) (by kernel_rfl) (by kernel_rfl) (by kernel_rfl) (by intro _ _ _ h; exact h) (Or.inl ⟨by rfl, ?_⟩) (by assumption) ?_
                rotate_left
                · (intro w hSw; (try dsimp only at hSw); go_simp; try with_reducible rfl)
                try simp only [Act.put, List.setIfInBounds_toArray, List.set_cons_zero, List.set_cons_succ]
                refine wpAnyH_ready (rs := [1]) (by kernel_rfl) (by simp) ?_
                refine AllReadyH.cons (by simp only [List.getElem?_toArray, List.getElem?_cons_succ, List.getElem?_cons_zero]; rfl) (fun K hK => ?_) AllReadyH.nil
                go_simp
                refine CS.out.mono ?_
                rintro e wf ⟨vf, rfl, hof, hbf⟩
                have HLF := Lib.hid (HT1.out.below hw1 hbf)
                obtain ⟨p0, p1, p2, -, -, -, pl⟩ := kept3 HLF.out.box5
                obtain ⟨o0, o1, o2, -, -, -, ol⟩ := kept3 HLF.out.box8
                have H5 := Lib.hid (same_any s5.sn s.sn vf (.slice vo s.sn.dat.length vc) wf (Rd.of_own hof) HLF.out.hx5.rd)
                rw [show sameB s5.sn s.sn = true from by rw [HSAME.out, sameB_self]] at H5
                obtain ⟨of, cf, rfl, -, -⟩ := own_slice hof
                clear hof hbf
                unfold snV at *
                dsimp only
                refine hK.out _ _ ⟨p0, p1, p2, o0, o1, o2⟩ (fun hHeld => ?_)
                clear hK K
                try simp only [Act.put, List.setIfInBounds_toArray, List.set_cons_zero, List.set_cons_succ]
                refine wpAnyH_ready (rs := [3]) (by kernel_rfl) (by simp) ?_
                refine AllReadyH.cons (by simp only [List.getElem?_toArray, List.getElem?_cons_succ, List.getElem?_cons_zero]; rfl) (fun K hK => ?_) AllReadyH.nil
                go_simp
                refine H5.out.mono ?_
                rintro e wg ⟨rfl, hbg⟩
                have HLG := Lib.hid (HLF.out.below hw1 hbg)
                obtain ⟨c0, c1, c2, -, -, -, cl⟩ := kept3 HLG.out.box5
                obtain ⟨d0, d1, d2, -, -, -, dl⟩ := kept3 HLG.out.box8
                clear hbg
                dsimp only
                refine hK.out _ _ ⟨c0, c1, c2, d0, d1, d2⟩ (fun hHeld => ?_)
                clear hK K
                try simp only [Act.put, List.setIfInBounds_toArray, List.set_cons_zero, List.set_cons_succ]
                refine wpAnyH_take (i := 4) (v := ?_) (by simp only [List.getElem?_toArray, List.getElem?_cons_succ, List.getElem?_cons_zero]; rfl) (by kernel_rfl) (by kernel_rfl) (by kernel_rfl) (by intro _ _ _ h; exact h) (Or.inl ⟨by rfl, ?_⟩) (by assumption) ?_
                rotate_left
                · (intro w hSw; (try dsimp only at hSw); go_simp; try with_reducible rfl)
                try simp only [Act.put, List.setIfInBounds_toArray, List.set_cons_zero, List.set_cons_succ]
                refine wpAnyH_take (i := 5) (v := ?_) (by simp only [List.getElem?_toArray, List.getElem?_cons_succ, List.getElem?_cons_zero]; rfl) (by kernel_rfl) (by kernel_rfl) (by kernel_rfl) (by intro _ _ _ h; exact h) (Or.inl ⟨by rfl, ?_⟩) (by assumption) ?_
                rotate_left
                · (intro w hSw; (try dsimp only at hSw); go_simp; try with_reducible rfl)
                try simp only [Act.put, List.setIfInBounds_toArray, List.set_cons_zero, List.set_cons_succ]
                refine wpAnyH_take (i := 6) (v := undef) (by simp only [List.getElem?_toArray, List.getElem?_cons_succ, List.getElem?_cons_zero]; rfl) (by kernel_rfl) (by kernel_rfl) (by kernel_rfl) (by intro _ _ _ h; exact h) (Or.inr ⟨by rfl, rfl⟩) (by assumption) ?_
                try simp only [Act.put, List.setIfInBounds_toArray, List.set_cons_zero, List.set_cons_succ]
                refine wpAnyH_take (i := 7) (v := undef) (by simp only [List.getElem?_toArray, List.getElem?_cons_succ, List.getElem?_cons_zero]; rfl) (by kernel_rfl) (by kernel_rfl) (by kernel_rfl) (by intro _ _ _ h; exact h) (Or.inr ⟨by rfl, rfl⟩) (by assumption) ?_
                try simp only [Act.put, List.setIfInBounds_toArray, List.set_cons_zero, List.set_cons_succ]
                refine wpAnyH_take (i := 8) (v := undef) (by simp only [List.getElem?_toArray, List.getElem?_cons_succ, List.getElem?_cons_zero]; rfl) (by kernel_rfl) (by kernel_rfl) (by kernel_rfl) (by intro _ _ _ h; exact h) (Or.inr ⟨by rfl, rfl⟩) (by assumption) ?_
                try simp only [Act.put, List.setIfInBounds_toArray, List.set_cons_zero, List.set_cons_succ]
                refine wpAnyH_take (i := 9) (v := undef) (by simp only [List.getElem?_toArray, List.getElem?_cons_succ, List.getElem?_cons_zero]; rfl) (by kernel_rfl) (by kernel_rfl) (by kernel_rfl) (by intro _ _ _ h; exact h) (Or.inr ⟨by rfl, rfl⟩) (by assumption) ?_
                try simp only [Act.put, List.setIfInBounds_toArray, List.set_cons_zero, List.set_cons_succ]
                refine wpAnyH_take (i := 10) (v := undef) (by simp only [List.getElem?_toArray, List.getElem?_cons_succ, List.getElem?_cons_zero]; rfl) (by kernel_rfl) (by kernel_rfl) (by kernel_rfl) (by intro _ _ _ h; exact h) (Or.inr ⟨by rfl, rfl⟩) (by assumption) ?_
                try simp only [Act.put, List.setIfInBounds_toArray, List.set_cons_zero, List.set_cons_succ]
                refine wpAnyH_take (i := 11) (v := ?_) (by simp only [List.getElem?_toArray, List.getElem?_cons_succ, List.getElem?_cons_zero]; rfl) (by kernel_rfl) (by kernel_rfl) (by kernel_rfl) (by intro _ _ _ h; exact h) (Or.inl ⟨by rfl, ?_⟩) (by assumption) ?_
                rotate_left
                · (intro w hSw; (try dsimp only at hSw); go_simp; try with_reducible rfl)
                try simp only [Act.put, List.setIfInBounds_toArray, List.set_cons_zero, List.set_cons_succ]
                refine wpAnyH_done (by kernel_rfl) ?_ _
                dsimp only [onlyN]
                have HSN := Lib.hid (snap_any wg HLG.out.at_)
                go_wp2_with fail
                refine HSN.out.mono ?_
                rintro e wh ⟨vh, rfl, hoh, hbh⟩
                obtain ⟨oh, ch, rfl, -, -⟩ := own_slice hoh
                have HTH := Lib.hid (HLG.out.below hw1 hbh)
                have hcl := CL.set (m := m + 1) (D := D) (T := T) HTH.out.at_ HSG5.out HOP5.out HTH.out.nb5 HTH.out.ge HTH.out.bel HTH.out.b5ge HTH.out.low hw1 HTH.out.box5 (Hx.own hoh (fun g hg hR => by
                  have h1 := (hoh.lt g hg).1
                  rcases hR with hR | hR
                  · have := HLG.out.at_.lt g hR; omega
                  · have := lt_of_block HLG.out.box5; omega))
                obtain ⟨z0, z1, z2, fz0, fz1, fz2, zl⟩ := kept3 HTH.out.box5
                have HCL := Lib.hid hcl
                clear HSN hoh hbh hcl HTE HT1 CS
                unfold snV
                go_upto_region 44 with fail
                generalize (((wh.setCell ⟨b5, 0, none⟩ (.int .u64 (s5.sn.ix : Int))).setCell ⟨b5, 1, none⟩ (.int .u64 (s5.sn.tm : Int))).setCell ⟨b5, 2, none⟩ (.slice oh s5.sn.dat.length ch)) = wi at *
                clear z0 z1 z2 fz0 fz1 fz2 zl HTH
                obtain ⟨z0, z1, z2, -, -, -, zl⟩ := kept3 HCL.out.box
                have HT1 := Lib.hid ((HCL.out).drew hw1)
                have CS := Lib.hid (snap_any wi.drew HT1.out.at_)
                refine wp_onlyN ?_
                refine wp_region_held_drew (S := fun w' => w'.cell? ⟨b5, 0, none⟩ = some (.int .u64 (s5.sn.ix : Int)) ∧ w'.cell? ⟨b5, 1, none⟩ = some (.int .u64 (s5.sn.tm : Int)) ∧ w'.cell? ⟨b5, 2, none⟩ = some (.slice oh s5.sn.dat.length ch)) (by kernel_rfl) ⟨z0, z1, z2⟩ ?_
                intro hHeld
                refine wpAnyH_take (i := 0) (v := ?_) (by simp only [List.getElem?_toArray, List.getElem?_cons_zero]; rfl) (by kernel_rfl) (by kernel_rfl) (by kernel_rfl) (by intro _ _ _ h; exact h) (Or.inl ⟨by rfl, ?_⟩) (by assumption) ?_
                rotate_left
                · (intro w hSw; (try dsimp only at hSw); go_simp; try with_reducible rfl)
                try simp only [Act.put, List.setIfInBounds_toArray, List.set_cons_zero, List.set_cons_succ]
                refine wpAnyH_take (i := 2) (v := ?_) (by simp only [List.getElem?_toArray, List.getElem?_cons_succ, List.getElem?_cons_zero]; rfl) (by kernel_rfl) (by kernel_rfl) (by kernel_rfl) (by intro _ _ _ h; exact h) (Or.inl ⟨by rfl, ?_⟩) (by assumption) ?_
                rotate_left
                · (intro w hSw; (try dsimp only at hSw); go_simp; try with_reducible rfl)
                try simp only [Act.put, List.setIfInBounds_toArray, List.set_cons_zero, List.set_cons_succ]
                refine wpAnyH_ready (rs := [1]) (by kernel_rfl) (by simp) ?_
                refine AllReadyH.cons (by simp only [List.getElem?_toArray, List.getElem?_cons_succ, List.getElem?_cons_zero]; rfl) (fun K hK => ?_) AllReadyH.nil
                go_simp
                refine CS.out.mono ?_
                rintro e wf ⟨vf, rfl, hof, hbf⟩
                have HLF := Lib.hid (HT1.out.below hw1 hbf)
                obtain ⟨p0, p1, p2, -, -, -, pl⟩ := kept3 HLF.out.box
                have H5 := Lib.hid (same_any s5.sn s5.sn vf (.slice oh s5.sn.dat.length ch) wf (Rd.of_own hof) HLF.out.hx.rd)
                rw [sameB_self] at H5
                obtain ⟨of, cf, rfl, -, -⟩ := own_slice hof
                clear hof hbf
                unfold snV at *
                dsimp only
                refine hK.out _ _ ⟨p0, p1, p2⟩ (fun hHeld => ?_)
                clear hK K
                try simp only [Act.put, List.setIfInBounds_toArray, List.set_cons_zero, List.set_cons_succ]
                refine wpAnyH_ready (rs := [3]) (by kernel_rfl) (by simp) ?_
                refine AllReadyH.cons (by simp only [List.getElem?_toArray, List.getElem?_cons_succ, List.getElem?_cons_zero]; rfl) (fun K hK => ?_) AllReadyH.nil
                go_simp
                refine H5.out.mono ?_
                rintro e wg ⟨rfl, hbg⟩
                have HLG := Lib.hid (HLF.out.below hw1 hbg)
                obtain ⟨o0, o1, o2, -, -, -, ol⟩ := kept3 HLG.out.box
                clear hbg
                dsimp only
                refine hK.out _ _ ⟨o0, o1, o2⟩ (fun hHeld => ?_)
                clear hK K
                try simp only [Act.put, List.setIfInBounds_toArray, List.set_cons_zero, List.set_cons_succ]
                refine wpAnyH_take (i := 4) (v := ?_) (by simp only [List.getElem?_toArray, List.getElem?_cons_succ, List.getElem?_cons_zero]; rfl) (by kernel_rfl) (by kernel_rfl) (by kernel_rfl) (by intro _ _ _ h; exact h) (Or.inl ⟨by rfl, ?_⟩) (by assumption) ?_
                rotate_left
                · (intro w hSw; (try dsimp only at hSw); go_simp; try with_reducible rfl)
                try simp only [Act.put, List.setIfInBounds_toArray, List.set_cons_zero, List.set_cons_succ]
                refine wpAnyH_done (by kernel_rfl) ?_ _
                dsimp only [onlyN]
                have wm : IntKind.i64.wrap ((m : Int) + 1) = (m : Int) + 1 := IntWalk.i64_in _ (by omega)
                go_wp2_with fail
                go_roundw
                case rel => exact ⟨m + 1, St', RD, s5, oh, ch, by omega, by omega, by go_num, rfl, HLG.out⟩
                case measure => simp [intOf]; omega
              · have HSN7 := Lib.hid (HSN6.out.resolve_left hsame)
                have HSAME := Lib.hid hsame
                clear hsame
                refine wp_onlyN ?_
                refine wp_region_held_drew (S := fun w' => w'.cell? ⟨b5, 0, none⟩ = some (.int .u64 (s.sn.ix : Int)) ∧ w'.cell? ⟨b5, 1, none⟩ = some (.int .u64 (s.sn.tm : Int)) ∧ w'.cell? ⟨b5, 2, none⟩ = some (.slice vo s.sn.dat.length vc) ∧ w'.cell? ⟨b8, 0, none⟩ = some (.int .u64 (s.sn.ix : Int)) ∧ w'.cell? ⟨b8, 1, none⟩ = some (.int .u64 (s.sn.tm : Int)) ∧ w'.cell? ⟨b8, 2, none⟩ = some (.slice vo s.sn.dat.length vc)) (by kernel_rfl) ⟨z0, z1, z2, y0, y1, y2⟩ ?_
                intro hHeld
                refine wpAnyH_take (i := 0) (v := ?_) (by simp only [List.getElem?_toArray, List.getElem?_cons_zero]; rfl) (by kernel_rfl) (by kernel_rfl) (by kernel_rfl) (by intro _ _ _ h; exact h) (Or.inl ⟨by rfl, ?_⟩) (by assumption) ?_
                rotate_left
                · (intro w hSw; (try dsimp only at hSw); go_simp; try with_reducible rfl)
                try simp only [Act.put, List.setIfInBounds_toArray, List.set_cons_zero, List.set_cons_succ]
                refine wpAnyH_take (i := 2) (v := ?_) (by simp only [List.getElem?_toArray, List.getElem?_cons_succ, List.getElem?_cons_zero]; rfl) (by kernel_rfl) (by kernel_rfl) (by kernel_rfl) (by intro _ _ _ h; exact h) (Or.inl ⟨by rfl, ?_⟩) (by assumption) ?_
                rotate_left
                · (intro w hSw; (try dsimp only at hSw); go_simp; try with_reducible rfl)
                try simp only [Act.put, List.setIfInBounds_toArray, List.set_cons_zero, List.set_cons_succ]
                refine wpAnyH_ready (rs := [1]) (by kernel_rfl) (by simp) ?_
                refine AllReadyH.cons (by simp only [List.getElem?_toArray, List.getElem?_cons_succ, List.getElem?_cons_zero]; rfl) (fun K hK => ?_) AllReadyH.nil
                go_simp
                refine CS.out.mono ?_
                rintro e wf ⟨vf, rfl, hof, hbf⟩
                have HLF := Lib.hid (HT1.out.below hw1 hbf)
                obtain ⟨p0, p1, p2, -, -, -, pl⟩ := kept3 HLF.out.box5
                obtain ⟨o0, o1, o2, -, -, -, ol⟩ := kept3 HLF.out.box8
                have H5 := Lib.hid (same_any s5.sn s.sn vf (.slice vo s.sn.dat.length vc) wf (Rd.of_own hof) HLF.out.hx5.rd)
                rw [show sameB s5.sn s.sn = false from sameB_ne HSAME.out] at H5
                obtain ⟨of, cf, rfl, -, -⟩ := own_slice hof
                clear hof hbf
                unfold snV at *
                dsimp only
                refine hK.out _ _ ⟨p0, p1, p2, o0, o1, o2⟩ (fun hHeld => ?_)
                clear hK K
                try simp only [Act.put, List.setIfInBounds_toArray, List.set_cons_zero, List.set_cons_succ]
                refine wpAnyH_ready (rs := [3]) (by kernel_rfl) (by simp) ?_
                refine AllReadyH.cons (by simp only [List.getElem?_toArray, List.getElem?_cons_succ, List.getElem?_cons_zero]; rfl) (fun K hK => ?_) AllReadyH.nil
                go_simp
                refine H5.out.mono ?_
                rintro e wg ⟨rfl, hbg⟩
                have HLG := Lib.hid (HLF.out.below hw1 hbg)
                obtain ⟨c0, c1, c2, -, -, -, cl⟩ := kept3 HLG.out.box5
                obtain ⟨d0, d1, d2, -, -, -, dl⟩ := kept3 HLG.out.box8
                clear hbg
                have CS2 := Lib.hid (snap_any wg HLG.out.at_)
                dsimp only
                refine hK.out _ _ ⟨c0, c1, c2, d0, d1, d2⟩ (fun hHeld => ?_)
                clear hK K
                try simp only [Act.put, List.setIfInBounds_toArray, List.set_cons_zero, List.set_cons_succ]
                refine wpAnyH_take (i := 4) (v := ?_) (by simp only [List.getElem?_toArray, List.getElem?_cons_succ, List.getElem?_cons_zero]; rfl) (by kernel_rfl) (by kernel_rfl) (by kernel_rfl) (by intro _ _ _ h; exact h) (Or.inl ⟨by rfl, ?_⟩) (by assumption) ?_
                rotate_left
                · (intro w hSw; (try dsimp only at hSw); go_simp; try with_reducible rfl)
                try simp only [Act.put, List.setIfInBounds_toArray, List.set_cons_zero, List.set_cons_succ]
                refine wpAnyH_take (i := 5) (v := ?_) (by simp only [List.getElem?_toArray, List.getElem?_cons_succ, List.getElem?_cons_zero]; rfl) (by kernel_rfl) (by kernel_rfl) (by kernel_rfl) (by intro _ _ _ h; exact h) (Or.inl ⟨by rfl, ?_⟩) (by assumption) ?_
                rotate_left
                · (intro w hSw; (try dsimp only at hSw); go_simp; try with_reducible rfl)
                try simp only [Act.put, List.setIfInBounds_toArray, List.set_cons_zero, List.set_cons_succ]
                refine wpAnyH_take (i := 6) (v := ?_) (by simp only [List.getElem?_toArray, List.getElem?_cons_succ, List.getElem?_cons_zero]; rfl) (by kernel_rfl) (by kernel_rfl) (by kernel_rfl) (by intro _ _ _ h; exact h) (Or.inl ⟨by rfl, ?_⟩) (by assumption) ?_
                rotate_left
                · (intro w hSw; (try dsimp only at hSw); go_simp; try with_reducible rfl)
                try simp only [Act.put, List.setIfInBounds_toArray, List.set_cons_zero, List.set_cons_succ]
                refine wpAnyH_take (i := 8) (v := ?_) (by simp only [List.getElem?_toArray, List.getElem?_cons_succ, List.getElem?_cons_zero]; rfl) (by kernel_rfl) (by kernel_rfl) (by kernel_rfl) (by intro _ _ _ h; exact h) (Or.inl ⟨by rfl, ?_⟩) (by assumption) ?_
                rotate_left
                · (intro w hSw; (try dsimp only at hSw); go_simp; try with_reducible rfl)
                try simp only [Act.put, List.setIfInBounds_toArray, List.set_cons_zero, List.set_cons_succ]
                refine wpAnyH_ready (rs := [7]) (by kernel_rfl) (by simp) ?_
                refine AllReadyH.cons (by simp only [List.getElem?_toArray, List.getElem?_cons_succ, List.getElem?_cons_zero]; rfl) (fun K hK => ?_) AllReadyH.nil
                go_simp
                refine CS2.out.mono ?_
                rintro e wf2 ⟨vf2, rfl, hof, hbf⟩
                have HLH := Lib.hid (HLG.out.below hw1 hbf)
                obtain ⟨p'0, p'1, p'2, -, -, -, p'l⟩ := kept3 HLH.out.box5
                obtain ⟨o'0, o'1, o'2, -, -, -, o'l⟩ := kept3 HLH.out.box8
                have H52 := Lib.hid (same_any s5.sn s.sn vf2 (.slice vo s.sn.dat.length vc) wf2 (Rd.of_own hof) HLH.out.hx8.rd)
                rw [show sameB s5.sn s.sn = true from by rw [HSN7.out, sameB_self]] at H52
                obtain ⟨of2, cf2, rfl, -, -⟩ := own_slice hof
                clear hof hbf
                unfold snV at *
                dsimp only
                refine hK.out _ _ ⟨p'0, p'1, p'2, o'0, o'1, o'2⟩ (fun hHeld => ?_)
                clear hK K
                try simp only [Act.put, List.setIfInBounds_toArray, List.set_cons_zero, List.set_cons_succ]
                refine wpAnyH_ready (rs := [9]) (by kernel_rfl) (by simp) ?_
                refine AllReadyH.cons (by simp only [List.getElem?_toArray, List.getElem?_cons_succ, List.getElem?_cons_zero]; rfl) (fun K hK => ?_) AllReadyH.nil
                go_simp
                refine H52.out.mono ?_
                rintro e wg2 ⟨rfl, hbg⟩
                have HLI := Lib.hid (HLH.out.below hw1 hbg)
                obtain ⟨c'0, c'1, c'2, -, -, -, c'l⟩ := kept3 HLI.out.box5
                obtain ⟨d'0, d'1, d'2, -, -, -, d'l⟩ := kept3 HLI.out.box8
                clear hbg
                dsimp only
                refine hK.out _ _ ⟨c'0, c'1, c'2, d'0, d'1, d'2⟩ (fun hHeld => ?_)
                clear hK K
                try simp only [Act.put, List.setIfInBounds_toArray, List.set_cons_zero, List.set_cons_succ]
                refine wpAnyH_take (i := 10) (v := ?_) (by simp only [List.getElem?_toArray, List.getElem?_cons_succ, List.getElem?_cons_zero]; rfl) (by kernel_rfl) (by kernel_rfl) (by kernel_rfl) (by intro _ _ _ h; exact h) (Or.inl ⟨by rfl, ?_⟩) (by assumption) ?_
                rotate_left
                · (intro w hSw; (try dsimp only at hSw); go_simp; try with_reducible rfl)
                try simp only [Act.put, List.setIfInBounds_toArray, List.set_cons_zero, List.set_cons_succ]
                refine wpAnyH_take (i := 11) (v := ?_) (by simp only [List.getElem?_toArray, List.getElem?_cons_succ, List.getElem?_cons_zero]; rfl) (by kernel_rfl) (by kernel_rfl) (by kernel_rfl) (by intro _ _ _ h; exact h) (Or.inl ⟨by rfl, ?_⟩) (by assumption) ?_
                rotate_left
                · (intro w hSw; (try dsimp only at hSw); go_simp; try with_reducible rfl)
                try simp only [Act.put, List.setIfInBounds_toArray, List.set_cons_zero, List.set_cons_succ]
                refine wpAnyH_done (by kernel_rfl) ?_ _
                dsimp only [onlyN]
                have HSN := Lib.hid (snap_any wg2 HLI.out.at_)
                go_wp2_with fail
                refine HSN.out.mono ?_
                rintro e wh ⟨vh, rfl, hoh, hbh⟩
                obtain ⟨oh, ch, rfl, -, -⟩ := own_slice hoh
                have HTH := Lib.hid (HLI.out.below hw1 hbh)
                have hcl := CL.set (m := m + 1) (D := D) (T := T) HTH.out.at_ HSG5.out HOP5.out HTH.out.nb5 HTH.out.ge HTH.out.bel HTH.out.b5ge HTH.out.low hw1 HTH.out.box5 (Hx.own hoh (fun g hg hR => by
                  have h1 := (hoh.lt g hg).1
                  rcases hR with hR | hR
                  · have := HLI.out.at_.lt g hR; omega
                  · have := lt_of_block HLI.out.box5; omega))
                obtain ⟨z0, z1, z2, fz0, fz1, fz2, zl⟩ := kept3 HTH.out.box5
                have HCL := Lib.hid hcl
                clear HSN hoh hbh hcl HTE HT1 CS
                unfold snV
                go_upto_region 44 with fail
                generalize (((wh.setCell ⟨b5, 0, none⟩ (.int .u64 (s5.sn.ix : Int))).setCell ⟨b5, 1, none⟩ (.int .u64 (s5.sn.tm : Int))).setCell ⟨b5, 2, none⟩ (.slice oh s5.sn.dat.length ch)) = wi at *
                clear z0 z1 z2 fz0 fz1 fz2 zl HTH
                obtain ⟨z0, z1, z2, -, -, -, zl⟩ := kept3 HCL.out.box
                have HT1 := Lib.hid ((HCL.out).drew hw1)
                have CS := Lib.hid (snap_any wi.drew HT1.out.at_)
                refine wp_onlyN ?_
                refine wp_region_held_drew (S := fun w' => w'.cell? ⟨b5, 0, none⟩ = some (.int .u64 (s5.sn.ix : Int)) ∧ w'.cell? ⟨b5, 1, none⟩ = some (.int .u64 (s5.sn.tm : Int)) ∧ w'.cell? ⟨b5, 2, none⟩ = some (.slice oh s5.sn.dat.length ch)) (by kernel_rfl) ⟨z0, z1, z2⟩ ?_
                intro hHeld
                refine wpAnyH_take (i := 0) (v := ?_) (by simp only [List.getElem?_toArray, List.getElem?_cons_zero]; rfl) (by kernel_rfl) (by kernel_rfl) (by kernel_rfl) (by intro _ _ _ h; exact h) (Or.inl ⟨by rfl, ?_⟩) (by assumption) ?_
                rotate_left
                · (intro w hSw; (try dsimp only at hSw); go_simp; try with_reducible rfl)
                try simp only [Act.put, List.setIfInBounds_toArray, List.set_cons_zero, List.set_cons_succ]
                refine wpAnyH_take (i := 2) (v := ?_) (by simp only [List.getElem?_toArray, List.getElem?_cons_succ, List.getElem?_cons_zero]; rfl) (by kernel_rfl) (by kernel_rfl) (by kernel_rfl) (by intro _ _ _ h; exact h) (Or.inl ⟨by rfl, ?_⟩) (by assumption) ?_
                rotate_left
                · (intro w hSw; (try dsimp only at hSw); go_simp; try with_reducible rfl)
                try simp only [Act.put, List.setIfInBounds_toArray, List.set_cons_zero, List.set_cons_succ]
                refine wpAnyH_ready (rs := [1]) (by kernel_rfl) (by simp) ?_
                refine AllReadyH.cons (by simp only [List.getElem?_toArray, List.getElem?_cons_succ, List.getElem?_cons_zero]; rfl) (fun K hK => ?_) AllReadyH.nil
                go_simp
                refine CS.out.mono ?_
                rintro e wf ⟨vf, rfl, hof, hbf⟩
                have HLF := Lib.hid (HT1.out.below hw1 hbf)
                obtain ⟨p0, p1, p2, -, -, -, pl⟩ := kept3 HLF.out.box
                have H5 := Lib.hid (same_any s5.sn s5.sn vf (.slice oh s5.sn.dat.length ch) wf (Rd.of_own hof) HLF.out.hx.rd)
                rw [sameB_self] at H5
                obtain ⟨of, cf, rfl, -, -⟩ := own_slice hof
                clear hof hbf
                unfold snV at *
                dsimp only
                refine hK.out _ _ ⟨p0, p1, p2⟩ (fun hHeld => ?_)
                clear hK K
                try simp only [Act.put, List.setIfInBounds_toArray, List.set_cons_zero, List.set_cons_succ]
                refine wpAnyH_ready (rs := [3]) (by kernel_rfl) (by simp) ?_
                refine AllReadyH.cons (by simp only [List.getElem?_toArray, List.getElem?_cons_succ, List.getElem?_cons_zero]; rfl) (fun K hK => ?_) AllReadyH.nil
                go_simp
                refine H5.out.mono ?_
                rintro e wg ⟨rfl, hbg⟩
                have HLG := Lib.hid (HLF.out.below hw1 hbg)
                obtain ⟨o0, o1, o2, -, -, -, ol⟩ := kept3 HLG.out.box
                clear hbg
                dsimp only
                refine hK.out _ _ ⟨o0, o1, o2⟩ (fun hHeld => ?_)
                clear hK K
                try simp only [Act.put, List.setIfInBounds_toArray, List.set_cons_zero, List.set_cons_succ]
                refine wpAnyH_take (i := 4) (v := ?_) (by simp only [List.getElem?_toArray, List.getElem?_cons_succ, List.getElem?_cons_zero]; rfl) (by kernel_rfl) (by kernel_rfl) (by kernel_rfl) (by intro _ _ _ h; exact h) (Or.inl ⟨by rfl, ?_⟩) (by assumption) ?_
                rotate_left
                · (intro w hSw; (try dsimp only at hSw); go_simp; try with_reducible rfl)
                try simp only [Act.put, List.setIfInBounds_toArray, List.set_cons_zero, List.set_cons_succ]
                refine wpAnyH_done (by kernel_rfl) ?_ _
                dsimp only [onlyN]
                have wm : IntKind.i64.wrap ((m : Int) + 1) = (m : Int) + 1 := IntWalk.i64_in _ (by omega)
                go_wp2_with fail
                go_roundw
                case rel => exact ⟨m + 1, St', RD, s5, oh, ch, by omega, by omega, by go_num, rfl, HLG.out⟩
                case measure => simp [intOf]; omega
          · obtain rfl | rfl | rfl : r = 0 ∨ r = 1 ∨ r = 2 := by omega
            · have HBN := Lib.hid bnear
              have HBNN := Lib.hid bn
              have hlow : ∀ kk, ((R kk ∨ kk = b5) ∨ kk = b8) → w.heap.size ≤ kk := fun kk hk => by
                have h5 := HL8.out.b5ge
                have h6 := HL.out.low
                rcases hk with (hk | hk) | hk
                · have := HL8.out.ge kk hk; omega
                · omega
                · omega
              have HLOW := Lib.hid hlow
              clear bnear bn hbig hlow hr3 hr5 e0 e1 e2 f0 f1 f2 el hn8
              go_wp2_with fail
              refine (ssnap_any ⟨k, ⟨ix, tm, l⟩, po, pc, near, n, .slice ocv ncv ccv, cuts⟩ s.sn.ix w8 (HAT0.out.rd.below HL8.out.bel) HBN.out HBNN.out hl3 HL8.out.sg.fits.ix).mono ?_
              rintro e wb ⟨v', rfl, hbb, hv'⟩
              have hn1 : (snapS ⟨k, ⟨ix, tm, l⟩, po, pc, near, n, .slice ocv ncv ccv, cuts⟩ s.sn.ix).ix < 18446744073709551616 := by
                have h1 := HBIX.out
                have h2 := HBN.out
                unfold snapS
                dsimp only
                split <;> omega
              have hn2 : (snapS ⟨k, ⟨ix, tm, l⟩, po, pc, near, n, .slice ocv ncv ccv, cuts⟩ s.sn.ix).tm < 18446744073709551616 := HBTM.out
              have hn3 : (snapS ⟨k, ⟨ix, tm, l⟩, po, pc, near, n, .slice ocv ncv ccv, cuts⟩ s.sn.ix).dat.length ≤ 5000 := by
                have h2 := HBNN.out
                unfold snapS
                dsimp only
                split
                · rw [nz_length]; omega
                · omega
              generalize snapS ⟨k, ⟨ix, tm, l⟩, po, pc, near, n, .slice ocv ncv ccv, cuts⟩ s.sn.ix = N at *
              have hsb := hbb.size
              obtain ⟨o', c', rfl⟩ : ∃ o c, v' = .slice o N.dat.length c := by
                rcases hv' with ⟨rfl, h⟩ | h
                · rw [h]; exact ⟨_, _, rfl⟩
                · obtain ⟨o, c, rfl, -, -⟩ := own_slice h
                  exact ⟨_, _, rfl⟩
              have hbc : Below wb.heap.size wb (wb.alloc (.cells #[.int .u64 (N.ix : Int), .int .u64 (N.tm : Int), .slice o' N.dat.length c'] 55)) := (Below.refl _ _).alloc (Nat.le_refl _) _
              have hsc : (wb.alloc (.cells #[.int .u64 (N.ix : Int), .int .u64 (N.tm : Int), .slice o' N.dat.length c'] 55)).heap.size = wb.heap.size + 1 := by simp
              have hnc := heap_alloc_new wb (.cells #[.int .u64 (N.ix : Int), .int .u64 (N.tm : Int), .slice o' N.dat.length c'] 55)
              have HLB := Lib.hid (HL8.out.below hw1 hbb)
              have HLC := Lib.hid (HLB.out.below hw1 hbc)
              have HX5 := Lib.hid ((HX8.out.below hbb).below hbc)
              have HNA := Lib.hid ((hbc.block ba (by omega)).trans ((hbb.block ba (by omega)).trans HNA8.out))
              have HNE := Lib.hid ((hbc.block b8 (by omega)).trans ((hbb.block b8 (by omega)).trans HEB8.out))
              have hRl := HL8.out.at_.lt
              have hxc : Hx (fun kk => (R kk ∨ kk = b5) ∨ kk = b8) (wb.alloc (.cells #[.int .u64 (N.ix : Int), .int .u64 (N.tm : Int), .slice o' N.dat.length c'] 55)) (.slice o' N.dat.length c') N.dat := by
                rcases hv' with ⟨hv1, h⟩ | h
                · have hq : Hx (fun kk => (R kk ∨ kk = b5) ∨ kk = b8) _ (.slice po l.length pc) l := Hx.low HAT0.out.rd HLC.out.bel HLOW.out
                  have h' : N.dat = l := h
                  have hv2 : Value.slice o' N.dat.length c' = .slice po l.length pc := hv1
                  rw [← hv2, ← h'] at hq
                  exact hq
                · refine Hx.own (own_below h hbc (Nat.le_refl _)) (fun g hg hR => ?_)
                  have h1 := (h.lt g hg).1
                  have h5 := lt_of_block HL8.out.box
                  rcases hR with (hR | hR) | hR
                  · have := hRl g hR; omega
                  · omega
                  · omega
              have HXC := Lib.hid hxc
              have hnbx : ¬ R wb.heap.size := fun h => by have := hRl _ h; omega
              clear hv' hbb hbc x0 x1 x2 x3 x4 x5 x6 s0 s1 s2 g0 g1 g2 sl hxc hRl HBIX HBTM HBN HX8 HEB8 HLB
              unfold snV
              go_upto_region 19 with fail
              generalize wb.alloc (.cells #[.int .u64 (N.ix : Int), .int .u64 (N.tm : Int), .slice o' N.dat.length c'] 55) = wc at *
              generalize hbx0 : wb.heap.size = bx at *
              obtain ⟨t0, t1, t2, -, -, -, tl⟩ := kept3 hnc
              have hops : s.d.ops ≤ 900000 := by have := HLC.out.ops; omega
              cases save_cases 20000 s N HLC.out.sg (by omega) hn1 hn2 with
              | full _ a _ => have := (snB_bound N).2; omega
              | stale hle he =>
                have H4 := Lib.hid (save_gen N (.slice o' N.dat.length c') wc HLC.out.at_ (HXC.out.sub fun kk hk => .inl (.inl hk)) hn1 hn2 (by omega) hops he)
                unfold snV at H4
                clear he hle
                go_wp2_with fail
                refine H4.out.mono ?_
                rintro e wd ⟨rfl, ha4, hk4⟩
                have HLD := Lib.hid (HLC.out.new hw1 ha4 hk4 rfl HLC.out.sg (Nat.le_refl _))
                obtain ⟨z0, z1, z2, -, -, -, zl⟩ := kept3 HLD.out.box
                have HNAD := Lib.hid ((hk4.block ba (lt_of_block HNA.out) hnRa).trans HNA.out)
                have q0 : wd.cell? ⟨ba, 0, none⟩ = some (.int .u8 k) := cellk (i := 0) HNAD.out rfl
                generalize Fr R wc wd = R4 at *
                clear ha4 hk4 t0 t1 t2 H4
                go_wp2_with fail
                have HT1 := Lib.hid ((HLD.out.more (Nat.le_succ m)).drew hw1)
                have CS := Lib.hid (snap_any wd.drew HT1.out.at_)
                refine wp_onlyN ?_
                refine wp_region_held_drew (S := fun w' => w'.cell? ⟨b5, 0, none⟩ = some (.int .u64 (s.sn.ix : Int)) ∧ w'.cell? ⟨b5, 1, none⟩ = some (.int .u64 (s.sn.tm : Int)) ∧ w'.cell? ⟨b5, 2, none⟩ = some (.slice vo s.sn.dat.length vc)) (by kernel_rfl) ⟨z0, z1, z2⟩ ?_
                intro hHeld
                refine wpAnyH_take (i := 0) (v := ?_) (by simp only [List.getElem?_toArray, List.getElem?_cons_zero]; rfl) (by kernel_rfl) (by kernel_rfl) (by kernel_rfl) (by intro _ _ _ h; exact h) (Or.inl ⟨by rfl, ?_⟩) (by assumption) ?_
                rotate_left
                · (intro w hSw; (try dsimp only at hSw); go_simp; try with_reducible rfl)
                try simp only [Act.put, List.setIfInBounds_toArray, List.set_cons_zero, List.set_cons_succ]
                refine wpAnyH_take (i := 2) (v := ?_) (by simp only [List.getElem?_toArray, List.getElem?_cons_succ, List.getElem?_cons_zero]; rfl) (by kernel_rfl) (by kernel_rfl) (by kernel_rfl) (by intro _ _ _ h; exact h) (Or.inl ⟨by rfl, ?_⟩) (by assumption) ?_
                rotate_left
                · (intro w hSw; (try dsimp only at hSw); go_simp; try with_reducible rfl)
                try simp only [Act.put, List.setIfInBounds_toArray, List.set_cons_zero, List.set_cons_succ]
                refine wpAnyH_ready (rs := [1]) (by kernel_rfl) (by simp) ?_
                refine AllReadyH.cons (by simp only [List.getElem?_toArray, List.getElem?_cons_succ, List.getElem?_cons_zero]; rfl) (fun K hK => ?_) AllReadyH.nil
                go_simp
                refine CS.out.mono ?_
                rintro e wf ⟨vf, rfl, hof, hbf⟩
                have HLF := Lib.hid (HT1.out.below hw1 hbf)
                obtain ⟨p0, p1, p2, -, -, -, pl⟩ := kept3 HLF.out.box
                have H5 := Lib.hid (same_any s.sn s.sn vf (.slice vo s.sn.dat.length vc) wf (Rd.of_own hof) HLF.out.hx.rd)
                rw [sameB_self] at H5
                obtain ⟨of, cf, rfl, -, -⟩ := own_slice hof
                clear hof hbf
                unfold snV at *
                dsimp only
                refine hK.out _ _ ⟨p0, p1, p2⟩ (fun hHeld => ?_)
                clear hK K
                try simp only [Act.put, List.setIfInBounds_toArray, List.set_cons_zero, List.set_cons_succ]
                refine wpAnyH_ready (rs := [3]) (by kernel_rfl) (by simp) ?_
                refine AllReadyH.cons (by simp only [List.getElem?_toArray, List.getElem?_cons_succ, List.getElem?_cons_zero]; rfl) (fun K hK => ?_) AllReadyH.nil
                go_simp
                refine H5.out.mono ?_
                rintro e wg ⟨rfl, hbg⟩
                have HLG := Lib.hid (HLF.out.below hw1 hbg)
                obtain ⟨o0, o1, o2, -, -, -, ol⟩ := kept3 HLG.out.box
                clear hbg
                dsimp only
                refine hK.out _ _ ⟨o0, o1, o2⟩ (fun hHeld => ?_)
                clear hK K
                try simp only [Act.put, List.setIfInBounds_toArray, List.set_cons_zero, List.set_cons_succ]
                refine wpAnyH_take (i := 4) (v := ?_) (by simp only [List.getElem?_toArray, List.getElem?_cons_succ, List.getElem?_cons_zero]; rfl) (by kernel_rfl) (by kernel_rfl) (by kernel_rfl) (by intro _ _ _ h; exact h) (Or.inl ⟨by rfl, ?_⟩) (by assumption) ?_
                rotate_left
                · (intro w hSw; (try dsimp only at hSw); go_simp; try with_reducible rfl)
                try simp only [Act.put, List.setIfInBounds_toArray, List.set_cons_zero, List.set_cons_succ]
                refine wpAnyH_done (by kernel_rfl) ?_ _
                dsimp only [onlyN]
                have wm : IntKind.i64.wrap ((m : Int) + 1) = (m : Int) + 1 := IntWalk.i64_in _ (by omega)
                go_wp2_with fail
                go_roundw
                case rel => exact ⟨m + 1, St, R4, s, vo, vc, by omega, by omega, by go_num, rfl, HLG.out⟩
                case measure => simp [intOf]; omega
              | done hgt hnf c g e f _ =>
                obtain ⟨s8, he⟩ : ∃ s8, saveS s N = (0, s8) := ⟨(saveS s N).2, Prod.ext c rfl⟩
                rw [he] at e g
                dsimp only at e g
                have HG8 := Lib.hid g
                have HN8 := Lib.hid e
                clear c f g e hgt hnf
                have ho8 := save_ops 20000 s N HLC.out.sg.most (by omega)
                rw [he] at ho8
                dsimp only at ho8
                have H4 := Lib.hid (save_gen N (.slice o' N.dat.length c') wc HLC.out.at_ (HXC.out.sub fun kk hk => .inl (.inl hk)) hn1 hn2 (by omega) hops he)
                unfold snV at H4
                clear he
                have HOP := Lib.hid (show s8.d.ops ≤ 3000 * (m + 1) + 2100 by have := HLC.out.ops; omega)
                go_wp2_with fail
                refine H4.out.mono ?_
                rintro e wd ⟨rfl, ha4, hk4⟩
                have hnd := (hk4.block bx tl hnbx).trans hnc
                obtain ⟨y0, y1, y2, -, -, -, yl⟩ := kept3 hnd
                have hne := (hk4.block b8 (lt_of_block HNE.out) hnR8).trans HNE.out
                obtain ⟨e0, e1, e2, f0, f1, f2, el⟩ := kept3 hne
                have HTL := Lib.hid (TL.cut (n0 := N) (vo8 := o') (vc8 := c') hw1 ha4 ((hk4.block b5 (lt_of_block HLC.out.box) HLC.out.nb).trans HLC.out.box) (HX5.out.fr2 hk4) hne (HXC.out.fr2 hk4) ((hk4.block ba (lt_of_block HNA.out) hnRa).trans HNA.out)
                  (Fr.out HLC.out.nb (lt_of_block HLC.out.box)) (Fr.out hnR8 (lt_of_block HNE.out)) (Fr.out hnRa (lt_of_block HNA.out)) (Ne.symm hn85) (by omega) (Fr.ge HLC.out.ge HLC.out.low) (HLC.out.bel.trans (hk4.below (by have := HLC.out.low; omega) (fun k hk => by have := HLC.out.ge k hk; omega))) HLC.out.b5ge (by have := HL.out.low; omega) (by have := HLC.out.low; have := hk4.size; omega))
                generalize Fr R wc wd = R4 at *
                clear ha4 hk4 t0 t1 t2 H4 hnd hne
                go_upto_region 24 with fail
                generalize (((wd.setCell ⟨b8, 0, none⟩ (.int .u64 (N.ix : Int))).setCell ⟨b8, 1, none⟩ (.int .u64 (N.tm : Int))).setCell ⟨b8, 2, none⟩ (.slice o' N.dat.length c')) = we at *
                clear y0 y1 y2 e0 e1 e2 f0 f1 f2 el
                have q0 : we.cell? ⟨ba, 0, none⟩ = some (.int .u8 k) := cellk (i := 0) HTL.out.act rfl
                obtain ⟨e0, e1, e2, -, -, -, el⟩ := kept3 HTL.out.box8
                obtain ⟨z0, z1, z2, fz0, fz1, fz2, zl⟩ := kept3 HTL.out.box5
                have hcl := CL.set (m := m + 1) (D := D) (T := T) (vo' := o') (vc' := c') HTL.out.at_ HG8.out (by have := HOP.out; omega) HTL.out.nb5 HTL.out.ge HTL.out.bel HTL.out.b5ge HTL.out.low hw1 HTL.out.box5 (by rw [HN8.out]; exact HTL.out.hx8)
                rw [HN8.out] at hcl
                have HCL := Lib.hid hcl
                have hact2 := (set3_other we (.int .u64 (N.ix : Int)) (.int .u64 (N.tm : Int)) (.slice o' N.dat.length c') hna5).trans HTL.out.act
                have HACT2 := Lib.hid hact2
                clear hcl hact2
                go_upto_region 26 with fail
                generalize (((we.setCell ⟨b5, 0, none⟩ (.int .u64 (N.ix : Int))).setCell ⟨b5, 1, none⟩ (.int .u64 (N.tm : Int))).setCell ⟨b5, 2, none⟩ (.slice o' N.dat.length c')) = wg0 at *
                clear q0 e0 e1 e2 z0 z1 z2 fz0 fz1 fz2 zl
                have q0 : wg0.cell? ⟨ba, 0, none⟩ = some (.int .u8 k) := cellk (i := 0) HACT2.out rfl
                obtain ⟨z0, z1, z2, -, -, -, zl⟩ := kept3 HCL.out.box
                clear HTL
                go_wp2_with fail
                have HT1 := Lib.hid ((HCL.out).drew hw1)
                have CS := Lib.hid (snap_any wg0.drew HT1.out.at_)
                refine wp_onlyN ?_
                refine wp_region_held_drew (S := fun w' => w'.cell? ⟨b5, 0, none⟩ = some (.int .u64 (s8.sn.ix : Int)) ∧ w'.cell? ⟨b5, 1, none⟩ = some (.int .u64 (s8.sn.tm : Int)) ∧ w'.cell? ⟨b5, 2, none⟩ = some (.slice o' s8.sn.dat.length c')) (by kernel_rfl) ⟨z0, z1, z2⟩ ?_
                intro hHeld
                refine wpAnyH_take (i := 0) (v := ?_) (by simp only [List.getElem?_toArray, List.getElem?_cons_zero]; rfl) (by kernel_rfl) (by kernel_rfl) (by kernel_rfl) (by intro _ _ _ h; exact h) (Or.inl ⟨by rfl, ?_⟩) (by assumption) ?_
                rotate_left
                · (intro w hSw; (try dsimp only at hSw); go_simp; try with_reducible rfl)
                try simp only [Act.put, List.setIfInBounds_toArray, List.set_cons_zero, List.set_cons_succ]
                refine wpAnyH_take (i := 2) (v := ?_) (by simp only [List.getElem?_toArray, List.getElem?_cons_succ, List.getElem?_cons_zero]; rfl) (by kernel_rfl) (by kernel_rfl) (by kernel_rfl) (by intro _ _ _ h; exact h) (Or.inl ⟨by rfl, ?_⟩) (by assumption) ?_
                rotate_left
                · (intro w hSw; (try dsimp only at hSw); go_simp; try with_reducible rfl)
                try simp only [Act.put, List.setIfInBounds_toArray, List.set_cons_zero, List.set_cons_succ]
                refine wpAnyH_ready (rs := [1]) (by kernel_rfl) (by simp) ?_
                refine AllReadyH.cons (by simp only [List.getElem?_toArray, List.getElem?_cons_succ, List.getElem?_cons_zero]; rfl) (fun K hK => ?_) AllReadyH.nil
                go_simp
                refine CS.out.mono ?_
                rintro e wf ⟨vf, rfl, hof, hbf⟩
                have HLF := Lib.hid (HT1.out.below hw1 hbf)
                obtain ⟨p0, p1, p2, -, -, -, pl⟩ := kept3 HLF.out.box
                have H5 := Lib.hid (same_any s8.sn s8.sn vf (.slice o' s8.sn.dat.length c') wf (Rd.of_own hof) HLF.out.hx.rd)
                rw [sameB_self] at H5
                obtain ⟨of, cf, rfl, -, -⟩ := own_slice hof
                clear hof hbf
                unfold snV at *
                dsimp only
                refine hK.out _ _ ⟨p0, p1, p2⟩ (fun hHeld => ?_)
                clear hK K
                try simp only [Act.put, List.setIfInBounds_toArray, List.set_cons_zero, List.set_cons_succ]
                refine wpAnyH_ready (rs := [3]) (by kernel_rfl) (by simp) ?_
                refine AllReadyH.cons (by simp only [List.getElem?_toArray, List.getElem?_cons_succ, List.getElem?_cons_zero]; rfl) (fun K hK => ?_) AllReadyH.nil
                go_simp
                refine H5.out.mono ?_
                rintro e wg ⟨rfl, hbg⟩
                have HLG := Lib.hid (HLF.out.below hw1 hbg)
                obtain ⟨o0, o1, o2, -, -, -, ol⟩ := kept3 HLG.out.box
                clear hbg
                dsimp only
                refine hK.out _ _ ⟨o0, o1, o2⟩ (fun hHeld => ?_)
                clear hK K
                try simp only [Act.put, List.setIfInBounds_toArray, List.set_cons_zero, List.set_cons_succ]
                refine wpAnyH_take (i := 4) (v := ?_) (by simp only [List.getElem?_toArray, List.getElem?_cons_succ, List.getElem?_cons_zero]; rfl) (by kernel_rfl) (by kernel_rfl) (by kernel_rfl) (by intro _ _ _ h; exact h) (Or.inl ⟨by rfl, ?_⟩) (by assumption) ?_
                rotate_left
                · (intro w hSw; (try dsimp only at hSw); go_simp; try with_reducible rfl)
                try simp only [Act.put, List.setIfInBounds_toArray, List.set_cons_zero, List.set_cons_succ]
                refine wpAnyH_done (by kernel_rfl) ?_ _
                dsimp only [onlyN]
                have wm : IntKind.i64.wrap ((m : Int) + 1) = (m : Int) + 1 := IntWalk.i64_in _ (by omega)
                go_wp2_with fail
                go_roundw
                case rel => exact ⟨m + 1, St, R4, s8, o', c', by omega, by omega, by go_num, rfl, HLG.out⟩
                case measure => simp [intOf]; omega
              | cut hgt hnf c hfz hn3' hmost f =>
                obtain ⟨s8, he⟩ : ∃ s8, saveS s N = (12, s8) := ⟨(saveS s N).2, Prod.ext c rfl⟩
                rw [he] at f
                have HFL := Lib.hid (show Falls s8 s.sn N from f)
                clear c f hgt hnf hfz hn3' hmost
                have ho8 := save_ops 20000 s N HLC.out.sg.most (by omega)
                rw [he] at ho8
                dsimp only at ho8
                have H4 := Lib.hid (save_gen N (.slice o' N.dat.length c') wc HLC.out.at_ (HXC.out.sub fun kk hk => .inl (.inl hk)) hn1 hn2 (by omega) hops he)
                unfold snV at H4
                clear he
                have HOP := Lib.hid (show s8.d.ops ≤ 3000 * (m + 1) + 2100 by have := HLC.out.ops; omega)
                go_wp2_with fail
                refine H4.out.mono ?_
                rintro e wd ⟨rfl, ha4, hk4⟩
                have hnd := (hk4.block bx tl hnbx).trans hnc
                obtain ⟨y0, y1, y2, -, -, -, yl⟩ := kept3 hnd
                have hne := (hk4.block b8 (lt_of_block HNE.out) hnR8).trans HNE.out
                obtain ⟨e0, e1, e2, f0, f1, f2, el⟩ := kept3 hne
                have HTL := Lib.hid (TL.cut (n0 := N) (vo8 := o') (vc8 := c') hw1 ha4 ((hk4.block b5 (lt_of_block HLC.out.box) HLC.out.nb).trans HLC.out.box) (HX5.out.fr2 hk4) hne (HXC.out.fr2 hk4) ((hk4.block ba (lt_of_block HNA.out) hnRa).trans HNA.out)
                  (Fr.out HLC.out.nb (lt_of_block HLC.out.box)) (Fr.out hnR8 (lt_of_block HNE.out)) (Fr.out hnRa (lt_of_block HNA.out)) (Ne.symm hn85) (by omega) (Fr.ge HLC.out.ge HLC.out.low) (HLC.out.bel.trans (hk4.below (by have := HLC.out.low; omega) (fun k hk => by have := HLC.out.ge k hk; omega))) HLC.out.b5ge (by have := HL.out.low; omega) (by have := HLC.out.low; have := hk4.size; omega))
                generalize Fr R wc wd = R4 at *
                clear ha4 hk4 t0 t1 t2 H4 hnd hne
                go_upto_region 24 with fail
                generalize (((wd.setCell ⟨b8, 0, none⟩ (.int .u64 (N.ix : Int))).setCell ⟨b8, 1, none⟩ (.int .u64 (N.tm : Int))).setCell ⟨b8, 2, none⟩ (.slice o' N.dat.length c')) = we at *
                clear y0 y1 y2 e0 e1 e2 f0 f1 f2 el
                have bn := HBNN.out
                go_wp2_with fail
                go_loopw [11] (fun c wr => c = .int .i64 0 ∧ Hid (TL w w1 D T b5 b8 ba St R4 s8 s.sn N vo vc o' c' #[.int .u8 k, .int .u64 (ix : Int), .int .u64 (tm : Int), .slice po l.length pc, .int .u8 near, .int .u16 n, .slice ocv ncv ccv] wr)) (fun _ _ => 0)
                case atStart => exact ⟨rfl, HTL.out⟩
                case round =>
                  obtain ⟨rfl, HT⟩ := hrel
                  clear HTL
                  have q5 : wr.cell? ⟨ba, 5, none⟩ = some (.int .u16 n) := cellk (i := 5) HT.out.act rfl
                  have q6 : wr.cell? ⟨ba, 6, none⟩ = some (.slice ocv ncv ccv) := cellk (i := 6) HT.out.act rfl
                  have HR := Lib.hid (sat_restart (.slice ocv ncv ccv) cuts wr HT.out.at_ (HAT0.out.rc.below HT.out.bel) HCV.out)
                  go_wp2_with fail
                  refine HR.out.mono ?_
                  rintro e wA ⟨rfl, haA, hkA⟩
                  have HTA := Lib.hid (HT.out.new hw1 haA hkA)
                  generalize Fr R4 wr wA = RA at *
                  clear haA hkA HR q5 q6 HT
                  have q5 : wA.cell? ⟨ba, 5, none⟩ = some (.int .u16 n) := cellk (i := 5) HTA.out.act rfl
                  obtain ⟨kk, hkk⟩ : ∃ kk : Nat, n % 3 = (kk : Int) := ⟨(n % 3).toNat, by omega⟩
                  have hkt : Int.tmod n 3 = (kk : Int) := by rw [← hkk]; exact Int.tmod_eq_emod_of_nonneg hn0
                  have wn : IntKind.i64.wrap n = n := IntWalk.i64_in _ (by omega)
                  have HM := Lib.hid (sat_arm kk wA HTA.out.at_ (by omega))
                  go_wp2_with fail
                  refine HM.out.mono ?_
                  rintro e wB ⟨rfl, haB, hkB⟩
                  have HTB := Lib.hid (HTA.out.new hw1 haB hkB)
                  generalize Fr RA wA wB = RB at *
                  clear haB hkB HM q5 HTA
                  have HO := Lib.hid (sat_open wB HTB.out.at_ (by have := (HFL.out cuts).1.n; rw [opened_d] at this; exact this) rfl)
                  go_wp2_with fail
                  refine HO.out.mono ?_
                  rintro e wC ⟨St', rfl, haC, hbC⟩
                  rw [opened_fuse] at haC
                  have HTC := Lib.hid (HTB.out.new hw1 haC (kept_of_below hbC))
                  generalize Fr RB wB wC = RC at *
                  clear haC hbC HO HTB
                  have HM2 := Lib.hid (sat_arm 0 wC HTC.out.at_ (by omega))
                  go_wp2_with fail
                  refine HM2.out.mono ?_
                  rintro e wD ⟨rfl, haD, hkD⟩
                  have HTD := Lib.hid (HTC.out.new hw1 haD hkD)
                  generalize Fr RC wC wD = RD at *
                  clear haD hkD HM2 HTC
                  have hsg5 := (HFL.out cuts).1.armed 0
                  rw [opened_d] at hsg5
                  have hsn5 := (HFL.out cuts).2
                  have hop5 : (restartS s8.d cuts).ops ≤ 3000 * (m + 1 + 1) := by rw [restart_ops]; have := HOP.out; omega
                  obtain ⟨s5, hs5⟩ : ∃ s5, s5 = ({ opened (restartS s8.d cuts) with d := { restartS s8.d cuts with fuse := 0 } } : Ss) := ⟨_, rfl⟩
                  have HTE : Hid (TL w w1 D T b5 b8 ba St' RD s5 s.sn N vo vc o' c' #[.int .u8 k, .int .u64 (ix : Int), .int .u64 (tm : Int), .slice po l.length pc, .int .u8 near, .int .u16 n, .slice ocv ncv ccv] wD) := by rw [hs5]; exact HTD
                  have HSG5 := Lib.hid (show SG 20000 s5 by rw [hs5]; exact hsg5)
                  have HOP5 := Lib.hid (show s5.d.ops ≤ 3000 * (m + 1 + 1) by rw [hs5]; exact hop5)
                  have HSN6 := Lib.hid (show s5.sn = s.sn ∨ s5.sn = N by rw [hs5]; exact hsn5)
                  clear hs5 HTD hsg5 hop5 hsn5 HFL
                  obtain ⟨z0, z1, z2, -, -, -, zl⟩ := kept3 HTE.out.box5
                  obtain ⟨y0, y1, y2, -, -, -, yl⟩ := kept3 HTE.out.box8
                  go_wp2_with fail
                  have HT1 := Lib.hid (HTE.out.below hw1 (kept_draw wD))
                  have CS := Lib.hid (snap_any wD.drew HT1.out.at_)
                  by_cases hsame : s5.sn = s.sn
                  · have HSAME := Lib.hid hsame
                    clear hsame
                    refine wp_onlyN ?_
                    refine wp_region_held_drew (S := fun w' => w'.cell? ⟨b5, 0, none⟩ = some (.int .u64 (s.sn.ix : Int)) ∧ w'.cell? ⟨b5, 1, none⟩ = some (.int .u64 (s.sn.tm : Int)) ∧ w'.cell? ⟨b5, 2, none⟩ = some (.slice vo s.sn.dat.length vc) ∧ w'.cell? ⟨b8, 0, none⟩ = some (.int .u64 (N.ix : Int)) ∧ w'.cell? ⟨b8, 1, none⟩ = some (.int .u64 (N.tm : Int)) ∧ w'.cell? ⟨b8, 2, none⟩ = some (.slice o' N.dat.length c')) (by kernel_rfl) ⟨z0, z1, z2, y0, y1, y2⟩ ?_
                    intro hHeld
                    refine wpAnyH_take (i := 0) (v := ?_) (by simp only [List.getElem?_toArray, List.getElem?_cons_zero]; rfl) (by kernel_rfl) (by kernel_rfl) (by kernel_rfl) (by intro _ _ _ h; exact h) (Or.inl ⟨by rfl, ?_⟩) (by assumption) ?_
                    rotate_left
                    · (intro w hSw; (try dsimp only at hSw); go_simp; try with_reducible rfl)
                    try simp only [Act.put, List.setIfInBounds_toArray, List.set_cons_zero, List.set_cons_succ]
                    refine wpAnyH_take (i := 2) (v := ?_) (by simp only [List.getElem?_toArray, List.getElem?_cons_succ, List.getElem?_cons_zero]; rfl) (by kernel_rfl) (by kernel_rfl) (by kernel_rfl) (by intro _ _ _ h; exact h) (Or.inl ⟨by rfl, ?_⟩) (by assumption) ?_
                    rotate_left
                    · (intro w hSw; (try dsimp only at hSw); go_simp; try with_reducible rfl)
                    try simp only [Act.put, List.setIfInBounds_toArray, List.set_cons_zero, List.set_cons_succ]
                    refine wpAnyH_ready (rs := [1]) (by kernel_rfl) (by simp) ?_
                    refine AllReadyH.cons (by simp only [List.getElem?_toArray, List.getElem?_cons_succ, List.getElem?_cons_zero]; rfl) (fun K hK => ?_) AllReadyH.nil
                    go_simp
                    refine CS.out.mono ?_
                    rintro e wf ⟨vf, rfl, hof, hbf⟩
                    have HLF := Lib.hid (HT1.out.below hw1 hbf)
                    obtain ⟨p0, p1, p2, -, -, -, pl⟩ := kept3 HLF.out.box5
                    obtain ⟨o0, o1, o2, -, -, -, ol⟩ := kept3 HLF.out.box8
                    have H5 := Lib.hid (same_any s5.sn s.sn vf (.slice vo s.sn.dat.length vc) wf (Rd.of_own hof) HLF.out.hx5.rd)
                    rw [show sameB s5.sn s.sn = true from by rw [HSAME.out, sameB_self]] at H5
                    obtain ⟨of, cf, rfl, -, -⟩ := own_slice hof
                    clear hof hbf
                    unfold snV at *
                    dsimp only
                    refine hK.out _ _ ⟨p0, p1, p2, o0, o1, o2⟩ (fun hHeld => ?_)
                    clear hK K
                    try simp only [Act.put, List.setIfInBounds_toArray, List.set_cons_zero, List.set_cons_succ]
                    refine wpAnyH_ready (rs := [3]) (by kernel_rfl) (by simp) ?_
                    refine AllReadyH.cons (by simp only [List.getElem?_toArray, List.getElem?_cons_succ, List.getElem?_cons_zero]; rfl) (fun K hK => ?_) AllReadyH.nil
                    go_simp
                    refine H5.out.mono ?_
                    rintro e wg ⟨rfl, hbg⟩
                    have HLG := Lib.hid (HLF.out.below hw1 hbg)
                    obtain ⟨c0, c1, c2, -, -, -, cl⟩ := kept3 HLG.out.box5
                    obtain ⟨d0, d1, d2, -, -, -, dl⟩ := kept3 HLG.out.box8
                    clear hbg
                    dsimp only
                    refine hK.out _ _ ⟨c0, c1, c2, d0, d1, d2⟩ (fun hHeld => ?_)
                    clear hK K
                    try simp only [Act.put, List.setIfInBounds_toArray, List.set_cons_zero, List.set_cons_succ]
                    refine wpAnyH_take (i := 4) (v := ?_) (by simp only [List.getElem?_toArray, List.getElem?_cons_succ, List.getElem?_cons_zero]; rfl) (by kernel_rfl) (by kernel_rfl) (by kernel_rfl) (by intro _ _ _ h; exact h) (Or.inl ⟨by rfl, ?_⟩) (by assumption) ?_
                    rotate_left
                    · (intro w hSw; (try dsimp only at hSw); go_simp; try with_reducible rfl)
                    try simp only [Act.put, List.setIfInBounds_toArray, List.set_cons_zero, List.set_cons_succ]
                    refine wpAnyH_take (i := 5) (v := ?_) (by simp only [List.getElem?_toArray, List.getElem?_cons_succ, List.getElem?_cons_zero]; rfl) (by kernel_rfl) (by kernel_rfl) (by kernel_rfl) (by intro _ _ _ h; exact h) (Or.inl ⟨by rfl, ?_⟩) (by assumption) ?_
                    rotate_left
                    · (intro w hSw; (try dsimp only at hSw); go_simp; try with_reducible rfl)
                    try simp only [Act.put, List.setIfInBounds_toArray, List.set_cons_zero, List.set_cons_succ]
                    refine wpAnyH_take (i := 6) (v := undef) (by simp only [List.getElem?_toArray, List.getElem?_cons_succ, List.getElem?_cons_zero]; rfl) (by kernel_rfl) (by kernel_rfl) (by kernel_rfl) (by intro _ _ _ h; exact h) (Or.inr ⟨by rfl, rfl⟩) (by assumption) ?_
                    try simp only [Act.put, List.setIfInBounds_toArray, List.set_cons_zero, List.set_cons_succ]
                    refine wpAnyH_take (i := 7) (v := undef) (by simp only [List.getElem?_toArray, List.getElem?_cons_succ, List.getElem?_cons_zero]; rfl) (by kernel_rfl) (by kernel_rfl) (by kernel_rfl) (by intro _ _ _ h; exact h) (Or.inr ⟨by rfl, rfl⟩) (by assumption) ?_
                    try simp only [Act.put, List.setIfInBounds_toArray, List.set_cons_zero, List.set_cons_succ]
                    refine wpAnyH_take (i := 8) (v := undef) (by simp only [List.getElem?_toArray, List.getElem?_cons_succ, List.getElem?_cons_zero]; rfl) (by kernel_rfl) (by kernel_rfl) (by kernel_rfl) (by intro _ _ _ h; exact h) (Or.inr ⟨by rfl, rfl⟩) (by assumption) ?_
                    try simp only [Act.put, List.setIfInBounds_toArray, List.set_cons_zero, List.set_cons_succ]
                    refine wpAnyH_take (i := 9) (v := undef) (by simp only [List.getElem?_toArray, List.getElem?_cons_succ, List.getElem?_cons_zero]; rfl) (by kernel_rfl) (by kernel_rfl) (by kernel_rfl) (by intro _ _ _ h; exact h) (Or.inr ⟨by rfl, rfl⟩) (by assumption) ?_
                    try simp only [Act.put, List.setIfInBounds_toArray, List.set_cons_zero, List.set_cons_succ]
                    refine wpAnyH_take (i := 10) (v := undef) (by simp only [List.getElem?_toArray, List.getElem?_cons_succ, List.getElem?_cons_zero]; rfl) (by kernel_rfl) (by kernel_rfl) (by kernel_rfl) (by intro _ _ _ h; exact h) (Or.inr ⟨by rfl, rfl⟩) (by assumption) ?_
                    try simp only [Act.put, List.setIfInBounds_toArray, List.set_cons_zero, List.set_cons_succ]
                    refine wpAnyH_take (i := 11) (v := ?_) (by simp only [List.getElem?_toArray, List.getElem?_cons_succ, List.getElem?_cons_zero]; rfl) (by kernel_rfl) (by kernel_rfl) (by kernel_rfl) (by intro _ _ _ h; exact h) (Or.inl ⟨by rfl, ?_⟩) (by assumption) ?_
                    rotate_left
                    · (intro w hSw; (try dsimp only at hSw); go_simp; try with_reducible rfl)
                    try simp only [Act.put, List.setIfInBounds_toArray, List.set_cons_zero, List.set_cons_succ]
                    refine wpAnyH_done (by kernel_rfl) ?_ _
                    dsimp only [onlyN]
                    have HSN := Lib.hid (snap_any wg HLG.out.at_)
                    go_wp2_with fail
                    refine HSN.out.mono ?_
                    rintro e wh ⟨vh, rfl, hoh, hbh⟩
                    obtain ⟨oh, ch, rfl, -, -⟩ := own_slice hoh
                    have HTH := Lib.hid (HLG.out.below hw1 hbh)
                    have hcl := CL.set (m := m + 1) (D := D) (T := T) HTH.out.at_ HSG5.out HOP5.out HTH.out.nb5 HTH.out.ge HTH.out.bel HTH.out.b5ge HTH.out.low hw1 HTH.out.box5 (Hx.own hoh (fun g hg hR => by
                      have h1 := (hoh.lt g hg).1
                      rcases hR with hR | hR
                      · have := HLG.out.at_.lt g hR; omega
                      · have := lt_of_block HLG.out.box5; omega))
                    obtain ⟨z0, z1, z2, fz0, fz1, fz2, zl⟩ := kept3 HTH.out.box5
                    have HCL := Lib.hid hcl
                    clear HSN hoh hbh hcl HTE HT1 CS
                    unfold snV
                    go_upto_region 44 with fail
                    generalize (((wh.setCell ⟨b5, 0, none⟩ (.int .u64 (s5.sn.ix : Int))).setCell ⟨b5, 1, none⟩ (.int .u64 (s5.sn.tm : Int))).setCell ⟨b5, 2, none⟩ (.slice oh s5.sn.dat.length ch)) = wi at *
                    clear z0 z1 z2 fz0 fz1 fz2 zl HTH
                    obtain ⟨z0, z1, z2, -, -, -, zl⟩ := kept3 HCL.out.box
                    have HT1 := Lib.hid ((HCL.out).drew hw1)
                    have CS := Lib.hid (snap_any wi.drew HT1.out.at_)
                    refine wp_onlyN ?_
                    refine wp_region_held_drew (S := fun w' => w'.cell? ⟨b5, 0, none⟩ = some (.int .u64 (s5.sn.ix : Int)) ∧ w'.cell? ⟨b5, 1, none⟩ = some (.int .u64 (s5.sn.tm : Int)) ∧ w'.cell? ⟨b5, 2, none⟩ = some (.slice oh s5.sn.dat.length ch)) (by kernel_rfl) ⟨z0, z1, z2⟩ ?_
                    intro hHeld
                    refine wpAnyH_take (i := 0) (v := ?_) (by simp only [List.getElem?_toArray, List.getElem?_cons_zero]; rfl) (by kernel_rfl) (by kernel_rfl) (by kernel_rfl) (by intro _ _ _ h; exact h) (Or.inl ⟨by rfl, ?_⟩) (by assumption) ?_
                    rotate_left
                    · (intro w hSw; (try dsimp only at hSw); go_simp; try with_reducible rfl)
                    try simp only [Act.put, List.setIfInBounds_toArray, List.set_cons_zero, List.set_cons_succ]
                    refine wpAnyH_take (i := 2) (v := ?_) (by simp only [List.getElem?_toArray, List.getElem?_cons_succ, List.getElem?_cons_zero]; rfl) (by kernel_rfl) (by kernel_rfl) (by kernel_rfl) (by intro _ _ _ h; exact h) (Or.inl ⟨by rfl, ?_⟩) (by assumption) ?_
                    rotate_left
                    · (intro w hSw; (try dsimp only at hSw); go_simp; try with_reducible rfl)
                    try simp only [Act.put, List.setIfInBounds_toArray, List.set_cons_zero, List.set_cons_succ]
                    refine wpAnyH_ready (rs := [1]) (by kernel_rfl) (by simp) ?_
                    refine AllReadyH.cons (by simp only [List.getElem?_toArray, List.getElem?_cons_succ, List.getElem?_cons_zero]; rfl) (fun K hK => ?_) AllReadyH.nil
                    go_simp
                    refine CS.out.mono ?_
                    rintro e wf ⟨vf, rfl, hof, hbf⟩
                    have HLF := Lib.hid (HT1.out.below hw1 hbf)
                    obtain ⟨p0, p1, p2, -, -, -, pl⟩ := kept3 HLF.out.box
                    have H5 := Lib.hid (same_any s5.sn s5.sn vf (.slice oh s5.sn.dat.length ch) wf (Rd.of_own hof) HLF.out.hx.rd)
                    rw [sameB_self] at H5
                    obtain ⟨of, cf, rfl, -, -⟩ := own_slice hof
                    clear hof hbf
                    unfold snV at *
                    dsimp only
                    refine hK.out _ _ ⟨p0, p1, p2⟩ (fun hHeld => ?_)
                    clear hK K
                    try simp only [Act.put, List.setIfInBounds_toArray, List.set_cons_zero, List.set_cons_succ]
                    refine wpAnyH_ready (rs := [3]) (by kernel_rfl) (by simp) ?_
                    refine AllReadyH.cons (by simp only [List.getElem?_toArray, List.getElem?_cons_succ, List.getElem?_cons_zero]; rfl) (fun K hK => ?_) AllReadyH.nil
                    go_simp
                    refine H5.out.mono ?_
                    rintro e wg ⟨rfl, hbg⟩
                    have HLG := Lib.hid (HLF.out.below hw1 hbg)
                    obtain ⟨o0, o1, o2, -, -, -, ol⟩ := kept3 HLG.out.box
                    clear hbg
                    dsimp only
                    refine hK.out _ _ ⟨o0, o1, o2⟩ (fun hHeld => ?_)
                    clear hK K
                    try simp only [Act.put, List.setIfInBounds_toArray, List.set_cons_zero, List.set_cons_succ]
                    refine wpAnyH_take (i := 4) (v := ?_) (by simp only [List.getElem?_toArray, List.getElem?_cons_succ, List.getElem?_cons_zero]; rfl) (by kernel_rfl) (by kernel_rfl) (by kernel_rfl) (by intro _ _ _ h; exact h) (Or.inl ⟨by rfl, ?_⟩) (by assumption) ?_
                    rotate_left
                    · (intro w hSw; (try dsimp only at hSw); go_simp; try with_reducible rfl)
                    try simp only [Act.put, List.setIfInBounds_toArray, List.set_cons_zero, List.set_cons_succ]
                    refine wpAnyH_done (by kernel_rfl) ?_ _
                    dsimp only [onlyN]
                    have wm : IntKind.i64.wrap ((m : Int) + 1) = (m : Int) + 1 := IntWalk.i64_in _ (by omega)
                    go_wp2_with fail
                    go_roundw
                    case rel => exact ⟨m + 1, St', RD, s5, oh, ch, by omega, by omega, by go_num, rfl, HLG.out⟩
                    case measure => simp [intOf]; omega
                  · have HSN7 := Lib.hid (HSN6.out.resolve_left hsame)
                    have HSAME := Lib.hid hsame
                    clear hsame
                    refine wp_onlyN ?_
                    refine wp_region_held_drew (S := fun w' => w'.cell? ⟨b5, 0, none⟩ = some (.int .u64 (s.sn.ix : Int)) ∧ w'.cell? ⟨b5, 1, none⟩ = some (.int .u64 (s.sn.tm : Int)) ∧ w'.cell? ⟨b5, 2, none⟩ = some (.slice vo s.sn.dat.length vc) ∧ w'.cell? ⟨b8, 0, none⟩ = some (.int .u64 (N.ix : Int)) ∧ w'.cell? ⟨b8, 1, none⟩ = some (.int .u64 (N.tm : Int)) ∧ w'.cell? ⟨b8, 2, none⟩ = some (.slice o' N.dat.length c')) (by kernel_rfl) ⟨z0, z1, z2, y0, y1, y2⟩ ?_
                    intro hHeld
                    refine wpAnyH_take (i := 0) (v := ?_) (by simp only [List.getElem?_toArray, List.getElem?_cons_zero]; rfl) (by kernel_rfl) (by kernel_rfl) (by kernel_rfl) (by intro _ _ _ h; exact h) (Or.inl ⟨by rfl, ?_⟩) (by assumption) ?_
                    rotate_left
                    · (intro w hSw; (try dsimp only at hSw); go_simp; try with_reducible rfl)
                    try simp only [Act.put, List.setIfInBounds_toArray, List.set_cons_zero, List.set_cons_succ]
                    refine wpAnyH_take (i := 2) (v := ?_) (by simp only [List.getElem?_toArray, List.getElem?_cons_succ, List.getElem?_cons_zero]; rfl) (by kernel_rfl) (by kernel_rfl) (by kernel_rfl) (by intro _ _ _ h; exact h) (Or.inl ⟨by rfl, ?_⟩) (by assumption) ?_
                    rotate_left
                    · (intro w hSw; (try dsimp only at hSw); go_simp; try with_reducible rfl)
                    try simp only [Act.put, List.setIfInBounds_toArray, List.set_cons_zero, List.set_cons_succ]
                    refine wpAnyH_ready (rs := [1]) (by kernel_rfl) (by simp) ?_
                    refine AllReadyH.cons (by simp only [List.getElem?_toArray, List.getElem?_cons_succ, List.getElem?_cons_zero]; rfl) (fun K hK => ?_) AllReadyH.nil
                    go_simp
                    refine CS.out.mono ?_
                    rintro e wf ⟨vf, rfl, hof, hbf⟩
                    have HLF := Lib.hid (HT1.out.below hw1 hbf)
                    obtain ⟨p0, p1, p2, -, -, -, pl⟩ := kept3 HLF.out.box5
                    obtain ⟨o0, o1, o2, -, -, -, ol⟩ := kept3 HLF.out.box8
                    have H5 := Lib.hid (same_any s5.sn s.sn vf (.slice vo s.sn.dat.length vc) wf (Rd.of_own hof) HLF.out.hx5.rd)
                    rw [show sameB s5.sn s.sn = false from sameB_ne HSAME.out] at H5
                    obtain ⟨of, cf, rfl, -, -⟩ := own_slice hof
                    clear hof hbf
                    unfold snV at *
                    dsimp only
                    refine hK.out _ _ ⟨p0, p1, p2, o0, o1, o2⟩ (fun hHeld => ?_)
                    clear hK K
                    try simp only [Act.put, List.setIfInBounds_toArray, List.set_cons_zero, List.set_cons_succ]
                    refine wpAnyH_ready (rs := [3]) (by kernel_rfl) (by simp) ?_
                    refine AllReadyH.cons (by simp only [List.getElem?_toArray, List.getElem?_cons_succ, List.getElem?_cons_zero]; rfl) (fun K hK => ?_) AllReadyH.nil
                    go_simp
                    refine H5.out.mono ?_
                    rintro e wg ⟨rfl, hbg⟩
                    have HLG := Lib.hid (HLF.out.below hw1 hbg)
                    obtain ⟨c0, c1, c2, -, -, -, cl⟩ := kept3 HLG.out.box5
                    obtain ⟨d0, d1, d2, -, -, -, dl⟩ := kept3 HLG.out.box8
                    clear hbg
                    have CS2 := Lib.hid (snap_any wg HLG.out.at_)
                    dsimp only
                    refine hK.out _ _ ⟨c0, c1, c2, d0, d1, d2⟩ (fun hHeld => ?_)
                    clear hK K
                    try simp only [Act.put, List.setIfInBounds_toArray, List.set_cons_zero, List.set_cons_succ]
                    refine wpAnyH_take (i := 4) (v := ?_) (by simp only [List.getElem?_toArray, List.getElem?_cons_succ, List.getElem?_cons_zero]; rfl) (by kernel_rfl) (by kernel_rfl) (by kernel_rfl) (by intro _ _ _ h; exact h) (Or.inl ⟨by rfl, ?_⟩) (by assumption) ?_
                    rotate_left
                    · (intro w hSw; (try dsimp only at hSw); go_simp; try with_reducible rfl)
                    try simp only [Act.put, List.setIfInBounds_toArray, List.set_cons_zero, List.set_cons_succ]
                    refine wpAnyH_take (i := 5) (v := ?_) (by simp only [List.getElem?_toArray, List.getElem?_cons_succ, List.getElem?_cons_zero]; rfl) (by kernel_rfl) (by kernel_rfl) (by kernel_rfl) (by intro _ _ _ h; exact h) (Or.inl ⟨by rfl, ?_⟩) (by assumption) ?_
                    rotate_left
                    · (intro w hSw; (try dsimp only at hSw); go_simp; try with_reducible rfl)
                    try simp only [Act.put, List.setIfInBounds_toArray, List.set_cons_zero, List.set_cons_succ]
                    refine wpAnyH_take (i := 6) (v := ?_) (by simp only [List.getElem?_toArray, List.getElem?_cons_succ, List.getElem?_cons_zero]; rfl) (by kernel_rfl) (by kernel_rfl) (by kernel_rfl) (by intro _ _ _ h; exact h) (Or.inl ⟨by rfl, ?_⟩) (by assumption) ?_
                    rotate_left
                    · (intro w hSw; (try dsimp only at hSw); go_simp; try with_reducible rfl)
                    try simp only [Act.put, List.setIfInBounds_toArray, List.set_cons_zero, List.set_cons_succ]
                    refine wpAnyH_take (i := 8) (v := ?_) (by simp only [List.getElem?_toArray, List.getElem?_cons_succ, List.getElem?_cons_zero]; rfl) (by kernel_rfl) (by kernel_rfl) (by kernel_rfl) (by intro _ _ _ h; exact h) (Or.inl ⟨by rfl, ?_⟩) (by assumption) ?_
                    rotate_left
                    · (intro w hSw; (try dsimp only at hSw); go_simp; try with_reducible rfl)
                    try simp only [Act.put, List.setIfInBounds_toArray, List.set_cons_zero, List.set_cons_succ]
                    refine wpAnyH_ready (rs := [7]) (by kernel_rfl) (by simp) ?_
                    refine AllReadyH.cons (by simp only [List.getElem?_toArray, List.getElem?_cons_succ, List.getElem?_cons_zero]; rfl) (fun K hK => ?_) AllReadyH.nil
                    go_simp
                    refine CS2.out.mono ?_
                    rintro e wf2 ⟨vf2, rfl, hof, hbf⟩
                    have HLH := Lib.hid (HLG.out.below hw1 hbf)
                    obtain ⟨p'0, p'1, p'2, -, -, -, p'l⟩ := kept3 HLH.out.box5
                    obtain ⟨o'0, o'1, o'2, -, -, -, o'l⟩ := kept3 HLH.out.box8
                    have H52 := Lib.hid (same_any s5.sn N vf2 (.slice o' N.dat.length c') wf2 (Rd.of_own hof) HLH.out.hx8.rd)
                    rw [show sameB s5.sn N = true from by rw [HSN7.out, sameB_self]] at H52
                    obtain ⟨of2, cf2, rfl, -, -⟩ := own_slice hof
                    clear hof hbf
                    unfold snV at *
                    dsimp only
                    refine hK.out _ _ ⟨p'0, p'1, p'2, o'0, o'1, o'2⟩ (fun hHeld => ?_)
                    clear hK K
                    try simp only [Act.put, List.setIfInBounds_toArray, List.set_cons_zero, List.set_cons_succ]
                    refine wpAnyH_ready (rs := [9]) (by kernel_rfl) (by simp) ?_
                    refine AllReadyH.cons (by simp only [List.getElem?_toArray, List.getElem?_cons_succ, List.getElem?_cons_zero]; rfl) (fun K hK => ?_) AllReadyH.nil
                    go_simp
                    refine H52.out.mono ?_
                    rintro e wg2 ⟨rfl, hbg⟩
                    have HLI := Lib.hid (HLH.out.below hw1 hbg)
                    obtain ⟨c'0, c'1, c'2, -, -, -, c'l⟩ := kept3 HLI.out.box5
                    obtain ⟨d'0, d'1, d'2, -, -, -, d'l⟩ := kept3 HLI.out.box8
                    clear hbg
                    dsimp only
                    refine hK.out _ _ ⟨c'0, c'1, c'2, d'0, d'1, d'2⟩ (fun hHeld => ?_)
                    clear hK K
                    try simp only [Act.put, List.setIfInBounds_toArray, List.set_cons_zero, List.set_cons_succ]
                    refine wpAnyH_take (i := 10) (v := ?_) (by simp only [List.getElem?_toArray, List.getElem?_cons_succ, List.getElem?_cons_zero]; rfl) (by kernel_rfl) (by kernel_rfl) (by kernel_rfl) (by intro _ _ _ h; exact h) (Or.inl ⟨by rfl, ?_⟩) (by assumption) ?_
                    rotate_left
                    · (intro w hSw; (try dsimp only at hSw); go_simp; try with_reducible rfl)
                    try simp only [Act.put, List.setIfInBounds_toArray, List.set_cons_zero, List.set_cons_succ]
                    refine wpAnyH_take (i := 11) (v := ?_) (by simp only [List.getElem?_toArray, List.getElem?_cons_succ, List.getElem?_cons_zero]; rfl) (by kernel_rfl) (by kernel_rfl) (by kernel_rfl) (by intro _ _ _ h; exact h) (Or.inl ⟨by rfl, ?_⟩) (by assumption) ?_
                    rotate_left
                    · (intro w hSw; (try dsimp only at hSw); go_simp; try with_reducible rfl)
                    try simp only [Act.put, List.setIfInBounds_toArray, List.set_cons_zero, List.set_cons_succ]
                    refine wpAnyH_done (by kernel_rfl) ?_ _
                    dsimp only [onlyN]
                    have HSN := Lib.hid (snap_any wg2 HLI.out.at_)
                    go_wp2_with fail
                    refine HSN.out.mono ?_
                    rintro e wh ⟨vh, rfl, hoh, hbh⟩
                    obtain ⟨oh, ch, rfl, -, -⟩ := own_slice hoh
                    have HTH := Lib.hid (HLI.out.below hw1 hbh)
                    have hcl := CL.set (m := m + 1) (D := D) (T := T) HTH.out.at_ HSG5.out HOP5.out HTH.out.nb5 HTH.out.ge HTH.out.bel HTH.out.b5ge HTH.out.low hw1 HTH.out.box5 (Hx.own hoh (fun g hg hR => by
                      have h1 := (hoh.lt g hg).1
                      rcases hR with hR | hR
                      · have := HLI.out.at_.lt g hR; omega
                      · have := lt_of_block HLI.out.box5; omega))
                    obtain ⟨z0, z1, z2, fz0, fz1, fz2, zl⟩ := kept3 HTH.out.box5
                    have HCL := Lib.hid hcl
                    clear HSN hoh hbh hcl HTE HT1 CS
                    unfold snV
                    go_upto_region 44 with fail
                    generalize (((wh.setCell ⟨b5, 0, none⟩ (.int .u64 (s5.sn.ix : Int))).setCell ⟨b5, 1, none⟩ (.int .u64 (s5.sn.tm : Int))).setCell ⟨b5, 2, none⟩ (.slice oh s5.sn.dat.length ch)) = wi at *
                    clear z0 z1 z2 fz0 fz1 fz2 zl HTH
                    obtain ⟨z0, z1, z2, -, -, -, zl⟩ := kept3 HCL.out.box
                    have HT1 := Lib.hid ((HCL.out).drew hw1)
                    have CS := Lib.hid (snap_any wi.drew HT1.out.at_)
                    refine wp_onlyN ?_
                    refine wp_region_held_drew (S := fun w' => w'.cell? ⟨b5, 0, none⟩ = some (.int .u64 (s5.sn.ix : Int)) ∧ w'.cell? ⟨b5, 1, none⟩ = some (.int .u64 (s5.sn.tm : Int)) ∧ w'.cell? ⟨b5, 2, none⟩ = some (.slice oh s5.sn.dat.length ch)) (by kernel_rfl) ⟨z0, z1, z2⟩ ?_
                    intro hHeld
                    refine wpAnyH_take (i := 0) (v := ?_) (by simp only [List.getElem?_toArray, List.getElem?_cons_zero]; rfl) (by kernel_rfl) (by kernel_rfl) (by kernel_rfl) (by intro _ _ _ h; exact h) (Or.inl ⟨by rfl, ?_⟩) (by assumption) ?_
                    rotate_left
                    · (intro w hSw; (try dsimp only at hSw); go_simp; try with_reducible rfl)
                    try simp only [Act.put, List.setIfInBounds_toArray, List.set_cons_zero, List.set_cons_succ]
                    refine wpAnyH_take (i := 2) (v := ?_) (by simp only [List.getElem?_toArray, List.getElem?_cons_succ, List.getElem?_cons_zero]; rfl) (by kernel_rfl) (by kernel_rfl) (by kernel_rfl) (by intro _ _ _ h; exact h) (Or.inl ⟨by rfl, ?_⟩) (by assumption) ?_
                    rotate_left
                    · (intro w hSw; (try dsimp only at hSw); go_simp; try with_reducible rfl)
                    try simp only [Act.put, List.setIfInBounds_toArray, List.set_cons_zero, List.set_cons_succ]
                    refine wpAnyH_ready (rs := [1]) (by kernel_rfl) (by simp) ?_
                    refine AllReadyH.cons (by simp only [List.getElem?_toArray, List.getElem?_cons_succ, List.getElem?_cons_zero]; rfl) (fun K hK => ?_) AllReadyH.nil
                    go_simp
                    refine CS.out.mono ?_
                    rintro e wf ⟨vf, rfl, hof, hbf⟩
                    have HLF := Lib.hid (HT1.out.below hw1 hbf)
                    obtain ⟨p0, p1, p2, -, -, -, pl⟩ := kept3 HLF.out.box
                    have H5 := Lib.hid (same_any s5.sn s5.sn vf (.slice oh s5.sn.dat.length ch) wf (Rd.of_own hof) HLF.out.hx.rd)
                    rw [sameB_self] at H5
                    obtain ⟨of, cf, rfl, -, -⟩ := own_slice hof
                    clear hof hbf
                    unfold snV at *
                    dsimp only
                    refine hK.out _ _ ⟨p0, p1, p2⟩ (fun hHeld => ?_)
                    clear hK K
                    try simp only [Act.put, List.setIfInBounds_toArray, List.set_cons_zero, List.set_cons_succ]
                    refine wpAnyH_ready (rs := [3]) (by kernel_rfl) (by simp) ?_
                    refine AllReadyH.cons (by simp only [List.getElem?_toArray, List.getElem?_cons_succ, List.getElem?_cons_zero]; rfl) (fun K hK => ?_) AllReadyH.nil
                    go_simp
                    refine H5.out.mono ?_
                    rintro e wg ⟨rfl, hbg⟩
                    have HLG := Lib.hid (HLF.out.below hw1 hbg)
                    obtain ⟨o0, o1, o2, -, -, -, ol⟩ := kept3 HLG.out.box
                    clear hbg
                    dsimp only
                    refine hK.out _ _ ⟨o0, o1, o2⟩ (fun hHeld => ?_)
                    clear hK K
                    try simp only [Act.put, List.setIfInBounds_toArray, List.set_cons_zero, List.set_cons_succ]
                    refine wpAnyH_take (i := 4) (v := ?_) (by simp only [List.getElem?_toArray, List.getElem?_cons_succ, List.getElem?_cons_zero]; rfl) (by kernel_rfl) (by kernel_rfl) (by kernel_rfl) (by intro _ _ _ h; exact h) (Or.inl ⟨by rfl, ?_⟩) (by assumption) ?_
                    rotate_left
                    · (intro w hSw; (try dsimp only at hSw); go_simp; try with_reducible rfl)
                    try simp only [Act.put, List.setIfInBounds_toArray, List.set_cons_zero, List.set_cons_succ]
                    refine wpAnyH_done (by kernel_rfl) ?_ _
                    dsimp only [onlyN]
                    have wm : IntKind.i64.wrap ((m : Int) + 1) = (m : Int) + 1 := IntWalk.i64_in _ (by omega)
                    go_wp2_with fail
                    go_roundw
                    case rel => exact ⟨m + 1, St', RD, s5, oh, ch, by omega, by omega, by go_num, rfl, HLG.out⟩
                    case measure => simp [intOf]; omega
            · have HBN := Lib.hid bnear
              have HBNN := Lib.hid bn
              have hlow : ∀ kk, ((R kk ∨ kk = b5) ∨ kk = b8) → w.heap.size ≤ kk := fun kk hk => by
                have h5 := HL8.out.b5ge
                have h6 := HL.out.low
                rcases hk with (hk | hk) | hk
                · have := HL8.out.ge kk hk; omega
                · omega
                · omega
              have HLOW := Lib.hid hlow
              clear bnear bn hbig hlow hr3 hr5 e0 e1 e2 f0 f1 f2 el hn8
              go_wp2_with fail
              refine (ssnap_any ⟨k, ⟨ix, tm, l⟩, po, pc, near, n, .slice ocv ncv ccv, cuts⟩ s.sn.ix w8 (HAT0.out.rd.below HL8.out.bel) HBN.out HBNN.out hl3 HL8.out.sg.fits.ix).mono ?_
              rintro e wb ⟨v', rfl, hbb, hv'⟩
              have hn1 : (snapS ⟨k, ⟨ix, tm, l⟩, po, pc, near, n, .slice ocv ncv ccv, cuts⟩ s.sn.ix).ix < 18446744073709551616 := by
                have h1 := HBIX.out
                have h2 := HBN.out
                unfold snapS
                dsimp only
                split <;> omega
              have hn2 : (snapS ⟨k, ⟨ix, tm, l⟩, po, pc, near, n, .slice ocv ncv ccv, cuts⟩ s.sn.ix).tm < 18446744073709551616 := HBTM.out
              have hn3 : (snapS ⟨k, ⟨ix, tm, l⟩, po, pc, near, n, .slice ocv ncv ccv, cuts⟩ s.sn.ix).dat.length ≤ 5000 := by
                have h2 := HBNN.out
                unfold snapS
                dsimp only
                split
                · rw [nz_length]; omega
                · omega
              generalize snapS ⟨k, ⟨ix, tm, l⟩, po, pc, near, n, .slice ocv ncv ccv, cuts⟩ s.sn.ix = N at *
              have hsb := hbb.size
              obtain ⟨o', c', rfl⟩ : ∃ o c, v' = .slice o N.dat.length c := by
                rcases hv' with ⟨rfl, h⟩ | h
                · rw [h]; exact ⟨_, _, rfl⟩
                · obtain ⟨o, c, rfl, -, -⟩ := own_slice h
                  exact ⟨_, _, rfl⟩
              have hbc : Below wb.heap.size wb (wb.alloc (.cells #[.int .u64 (N.ix : Int), .int .u64 (N.tm : Int), .slice o' N.dat.length c'] 55)) := (Below.refl _ _).alloc (Nat.le_refl _) _
              have hsc : (wb.alloc (.cells #[.int .u64 (N.ix : Int), .int .u64 (N.tm : Int), .slice o' N.dat.length c'] 55)).heap.size = wb.heap.size + 1 := by simp
              have hnc := heap_alloc_new wb (.cells #[.int .u64 (N.ix : Int), .int .u64 (N.tm : Int), .slice o' N.dat.length c'] 55)
              have HLB := Lib.hid (HL8.out.below hw1 hbb)
              have HLC := Lib.hid (HLB.out.below hw1 hbc)
              have HX5 := Lib.hid ((HX8.out.below hbb).below hbc)
              have HNA := Lib.hid ((hbc.block ba (by omega)).trans ((hbb.block ba (by omega)).trans HNA8.out))
              have HNE := Lib.hid ((hbc.block b8 (by omega)).trans ((hbb.block b8 (by omega)).trans HEB8.out))
              have hRl := HL8.out.at_.lt
              have hxc : Hx (fun kk => (R kk ∨ kk = b5) ∨ kk = b8) (wb.alloc (.cells #[.int .u64 (N.ix : Int), .int .u64 (N.tm : Int), .slice o' N.dat.length c'] 55)) (.slice o' N.dat.length c') N.dat := by
                rcases hv' with ⟨hv1, h⟩ | h
                · have hq : Hx (fun kk => (R kk ∨ kk = b5) ∨ kk = b8) _ (.slice po l.length pc) l := Hx.low HAT0.out.rd HLC.out.bel HLOW.out
                  have h' : N.dat = l := h
                  have hv2 : Value.slice o' N.dat.length c' = .slice po l.length pc := hv1
                  rw [← hv2, ← h'] at hq
                  exact hq
                · refine Hx.own (own_below h hbc (Nat.le_refl _)) (fun g hg hR => ?_)
                  have h1 := (h.lt g hg).1
                  have h5 := lt_of_block HL8.out.box
                  rcases hR with (hR | hR) | hR
                  · have := hRl g hR; omega
                  · omega
                  · omega
              have HXC := Lib.hid hxc
              have hnbx : ¬ R wb.heap.size := fun h => by have := hRl _ h; omega
              clear hv' hbb hbc x0 x1 x2 x3 x4 x5 x6 s0 s1 s2 g0 g1 g2 sl hxc hRl HBIX HBTM HBN HX8 HEB8 HLB
              unfold snV
              go_upto_region 19 with fail
              generalize wb.alloc (.cells #[.int .u64 (N.ix : Int), .int .u64 (N.tm : Int), .slice o' N.dat.length c'] 55) = wc at *
              generalize hbx0 : wb.heap.size = bx at *
              obtain ⟨t0, t1, t2, -, -, -, tl⟩ := kept3 hnc
              have hops : s.d.ops ≤ 900000 := by have := HLC.out.ops; omega
              cases save_cases 20000 s N HLC.out.sg (by omega) hn1 hn2 with
              | full _ a _ => have := (snB_bound N).2; omega
              | stale hle he =>
                have H4 := Lib.hid (save_gen N (.slice o' N.dat.length c') wc HLC.out.at_ (HXC.out.sub fun kk hk => .inl (.inl hk)) hn1 hn2 (by omega) hops he)
                unfold snV at H4
                clear he hle
                go_wp2_with fail
                refine H4.out.mono ?_
                rintro e wd ⟨rfl, ha4, hk4⟩
                have HLD := Lib.hid (HLC.out.new hw1 ha4 hk4 rfl HLC.out.sg (Nat.le_refl _))
                obtain ⟨z0, z1, z2, -, -, -, zl⟩ := kept3 HLD.out.box
                have HNAD := Lib.hid ((hk4.block ba (lt_of_block HNA.out) hnRa).trans HNA.out)
                have q0 : wd.cell? ⟨ba, 0, none⟩ = some (.int .u8 k) := cellk (i := 0) HNAD.out rfl
                generalize Fr R wc wd = R4 at *
                clear ha4 hk4 t0 t1 t2 H4
                go_wp2_with fail
                have HT1 := Lib.hid ((HLD.out.more (Nat.le_succ m)).drew hw1)
                have CS := Lib.hid (snap_any wd.drew HT1.out.at_)
                refine wp_onlyN ?_
                refine wp_region_held_drew (S := fun w' => w'.cell? ⟨b5, 0, none⟩ = some (.int .u64 (s.sn.ix : Int)) ∧ w'.cell? ⟨b5, 1, none⟩ = some (.int .u64 (s.sn.tm : Int)) ∧ w'.cell? ⟨b5, 2, none⟩ = some (.slice vo s.sn.dat.length vc)) (by kernel_rfl) ⟨z0, z1, z2⟩ ?_
                intro hHeld
                refine wpAnyH_take (i := 0) (v := ?_) (by simp only [List.getElem?_toArray, List.getElem?_cons_zero]; rfl) (by kernel_rfl) (by kernel_rfl) (by kernel_rfl) (by intro _ _ _ h; exact h) (Or.inl ⟨by rfl, ?_⟩) (by assumption) ?_
                rotate_left
                · (intro w hSw; (try dsimp only at hSw); go_simp; try with_reducible rfl)
                try simp only [Act.put, List.setIfInBounds_toArray, List.set_cons_zero, List.set_cons_succ]
                refine wpAnyH_take (i := 2) (v := ?_) (by simp only [List.getElem?_toArray, List.getElem?_cons_succ, List.getElem?_cons_zero]; rfl) (by kernel_rfl) (by kernel_rfl) (by kernel_rfl) (by intro _ _ _ h; exact h) (Or.inl ⟨by rfl, ?_⟩) (by assumption) ?_
                rotate_left
                · (intro w hSw; (try dsimp only at hSw); go_simp; try with_reducible rfl)
                try simp only [Act.put, List.setIfInBounds_toArray, List.set_cons_zero, List.set_cons_succ]
                refine wpAnyH_ready (rs := [1]) (by kernel_rfl) (by simp) ?_
                refine AllReadyH.cons (by simp only [List.getElem?_toArray, List.getElem?_cons_succ, List.getElem?_cons_zero]; rfl) (fun K hK => ?_) AllReadyH.nil
                go_simp
                refine CS.out.mono ?_
                rintro e wf ⟨vf, rfl, hof, hbf⟩
                have HLF := Lib.hid (HT1.out.below hw1 hbf)
                obtain ⟨p0, p1, p2, -, -, -, pl⟩ := kept3 HLF.out.box
                have H5 := Lib.hid (same_any s.sn s.sn vf (.slice vo s.sn.dat.length vc) wf (Rd.of_own hof) HLF.out.hx.rd)
                rw [sameB_self] at H5
                obtain ⟨of, cf, rfl, -, -⟩ := own_slice hof
                clear hof hbf
                unfold snV at *
                dsimp only
                refine hK.out _ _ ⟨p0, p1, p2⟩ (fun hHeld => ?_)
                clear hK K
                try simp only [Act.put, List.setIfInBounds_toArray, List.set_cons_zero, List.set_cons_succ]
                refine wpAnyH_ready (rs := [3]) (by kernel_rfl) (by simp) ?_
                refine AllReadyH.cons (by simp only [List.getElem?_toArray, List.getElem?_cons_succ, List.getElem?_cons_zero]; rfl) (fun K hK => ?_) AllReadyH.nil
                go_simp
                refine H5.out.mono ?_
                rintro e wg ⟨rfl, hbg⟩
                have HLG := Lib.hid (HLF.out.below hw1 hbg)
                obtain ⟨o0, o1, o2, -, -, -, ol⟩ := kept3 HLG.out.box
                clear hbg
                dsimp only
                refine hK.out _ _ ⟨o0, o1, o2⟩ (fun hHeld => ?_)
                clear hK K
                try simp only [Act.put, List.setIfInBounds_toArray, List.set_cons_zero, List.set_cons_succ]
                refine wpAnyH_take (i := 4) (v := ?_) (by simp only [List.getElem?_toArray, List.getElem?_cons_succ, List.getElem?_cons_zero]; rfl) (by kernel_rfl) (by kernel_rfl) (by kernel_rfl) (by intro _ _ _ h; exact h) (Or.inl ⟨by rfl, ?_⟩) (by assumption) ?_
                rotate_left
                · (intro w hSw; (try dsimp only at hSw); go_simp; try with_reducible rfl)
                try simp only [Act.put, List.setIfInBounds_toArray, List.set_cons_zero, List.set_cons_succ]
                refine wpAnyH_done (by kernel_rfl) ?_ _
                dsimp only [onlyN]
                have wm : IntKind.i64.wrap ((m : Int) + 1) = (m : Int) + 1 := IntWalk.i64_in _ (by omega)
                go_wp2_with fail
                go_roundw
                case rel => exact ⟨m + 1, St, R4, s, vo, vc, by omega, by omega, by go_num, rfl, HLG.out⟩
                case measure => simp [intOf]; omega
              | done hgt hnf c g e f _ =>
                obtain ⟨s8, he⟩ : ∃ s8, saveS s N = (0, s8) := ⟨(saveS s N).2, Prod.ext c rfl⟩
                rw [he] at e g
                dsimp only at e g
                have HG8 := Lib.hid g
                have HN8 := Lib.hid e
                clear c f g e hgt hnf
                have ho8 := save_ops 20000 s N HLC.out.sg.most (by omega)
                rw [he] at ho8
                dsimp only at ho8
                have H4 := Lib.hid (save_gen N (.slice o' N.dat.length c') wc HLC.out.at_ (HXC.out.sub fun kk hk => .inl (.inl hk)) hn1 hn2 (by omega) hops he)
                unfold snV at H4
                clear he
                have HOP := Lib.hid (show s8.d.ops ≤ 3000 * (m + 1) + 2100 by have := HLC.out.ops; omega)
                go_wp2_with fail
                refine H4.out.mono ?_
                rintro e wd ⟨rfl, ha4, hk4⟩
                have hnd := (hk4.block bx tl hnbx).trans hnc
                obtain ⟨y0, y1, y2, -, -, -, yl⟩ := kept3 hnd
                have hne := (hk4.block b8 (lt_of_block HNE.out) hnR8).trans HNE.out
                obtain ⟨e0, e1, e2, f0, f1, f2, el⟩ := kept3 hne
                have HTL := Lib.hid (TL.cut (n0 := N) (vo8 := o') (vc8 := c') hw1 ha4 ((hk4.block b5 (lt_of_block HLC.out.box) HLC.out.nb).trans HLC.out.box) (HX5.out.fr2 hk4) hne (HXC.out.fr2 hk4) ((hk4.block ba (lt_of_block HNA.out) hnRa).trans HNA.out)
                  (Fr.out HLC.out.nb (lt_of_block HLC.out.box)) (Fr.out hnR8 (lt_of_block HNE.out)) (Fr.out hnRa (lt_of_block HNA.out)) (Ne.symm hn85) (by omega) (Fr.ge HLC.out.ge HLC.out.low) (HLC.out.bel.trans (hk4.below (by have := HLC.out.low; omega) (fun k hk => by have := HLC.out.ge k hk; omega))) HLC.out.b5ge (by have := HL.out.low; omega) (by have := HLC.out.low; have := hk4.size; omega))
                generalize Fr R wc wd = R4 at *
                clear ha4 hk4 t0 t1 t2 H4 hnd hne
                go_upto_region 24 with fail
                generalize (((wd.setCell ⟨b8, 0, none⟩ (.int .u64 (N.ix : Int))).setCell ⟨b8, 1, none⟩ (.int .u64 (N.tm : Int))).setCell ⟨b8, 2, none⟩ (.slice o' N.dat.length c')) = we at *
                clear y0 y1 y2 e0 e1 e2 f0 f1 f2 el
                have q0 : we.cell? ⟨ba, 0, none⟩ = some (.int .u8 k) := cellk (i := 0) HTL.out.act rfl
                obtain ⟨e0, e1, e2, -, -, -, el⟩ := kept3 HTL.out.box8
                obtain ⟨z0, z1, z2, fz0, fz1, fz2, zl⟩ := kept3 HTL.out.box5
                have hcl := CL.set (m := m + 1) (D := D) (T := T) (vo' := o') (vc' := c') HTL.out.at_ HG8.out (by have := HOP.out; omega) HTL.out.nb5 HTL.out.ge HTL.out.bel HTL.out.b5ge HTL.out.low hw1 HTL.out.box5 (by rw [HN8.out]; exact HTL.out.hx8)
                rw [HN8.out] at hcl
                have HCL := Lib.hid hcl
                have hact2 := (set3_other we (.int .u64 (N.ix : Int)) (.int .u64 (N.tm : Int)) (.slice o' N.dat.length c') hna5).trans HTL.out.act
                have HACT2 := Lib.hid hact2
                clear hcl hact2
                go_upto_region 26 with fail
                generalize (((we.setCell ⟨b5, 0, none⟩ (.int .u64 (N.ix : Int))).setCell ⟨b5, 1, none⟩ (.int .u64 (N.tm : Int))).setCell ⟨b5, 2, none⟩ (.slice o' N.dat.length c')) = wg0 at *
                clear q0 e0 e1 e2 z0 z1 z2 fz0 fz1 fz2 zl
                have q0 : wg0.cell? ⟨ba, 0, none⟩ = some (.int .u8 k) := cellk (i := 0) HACT2.out rfl
                obtain ⟨z0, z1, z2, -, -, -, zl⟩ := kept3 HCL.out.box
                clear HTL
                go_wp2_with fail
                have HT1 := Lib.hid ((HCL.out).drew hw1)
                have CS := Lib.hid (snap_any wg0.drew HT1.out.at_)
                refine wp_onlyN ?_
                refine wp_region_held_drew (S := fun w' => w'.cell? ⟨b5, 0, none⟩ = some (.int .u64 (s8.sn.ix : Int)) ∧ w'.cell? ⟨b5, 1, none⟩ = some (.int .u64 (s8.sn.tm : Int)) ∧ w'.cell? ⟨b5, 2, none⟩ = some (.slice o' s8.sn.dat.length c')) (by kernel_rfl) ⟨z0, z1, z2⟩ ?_
                intro hHeld
                refine wpAnyH_take (i := 0) (v := ?_) (by simp only [List.getElem?_toArray, List.getElem?_cons_zero]; rfl) (by kernel_rfl) (by kernel_rfl) (by kernel_rfl) (by intro _ _ _ h; exact h) (Or.inl ⟨by rfl, ?_⟩) (by assumption) ?_
                rotate_left
                · (intro w hSw; (try dsimp only at hSw); go_simp; try with_reducible rfl)
                try simp only [Act.put, List.setIfInBounds_toArray, List.set_cons_zero, List.set_cons_succ]
                refine wpAnyH_take (i := 2) (v := ?_) (by simp only [List.getElem?_toArray, List.getElem?_cons_succ, List.getElem?_cons_zero]; rfl) (by kernel_rfl) (by kernel_rfl) (by kernel_rfl) (by intro _ _ _ h; exact h) (Or.inl ⟨by rfl, ?_⟩) (by assumption) ?_
                rotate_left
                · (intro w hSw; (try dsimp only at hSw); go_simp; try with_reducible rfl)
                try simp only [Act.put, List.setIfInBounds_toArray, List.set_cons_zero, List.set_cons_succ]
                refine wpAnyH_ready (rs := [1]) (by kernel_rfl) (by simp) ?_
                refine AllReadyH.cons (by simp only [List.getElem?_toArray, List.getElem?_cons_succ, List.getElem?_cons_zero]; rfl) (fun K hK => ?_) AllReadyH.nil
                go_simp
                refine CS.out.mono ?_
                rintro e wf ⟨vf, rfl, hof, hbf⟩
                have HLF := Lib.hid (HT1.out.below hw1 hbf)
                obtain ⟨p0, p1, p2, -, -, -, pl⟩ := kept3 HLF.out.box
                have H5 := Lib.hid (same_any s8.sn s8.sn vf (.slice o' s8.sn.dat.length c') wf (Rd.of_own hof) HLF.out.hx.rd)
                rw [sameB_self] at H5
                obtain ⟨of, cf, rfl, -, -⟩ := own_slice hof
                clear hof hbf
                unfold snV at *
                dsimp only
                refine hK.out _ _ ⟨p0, p1, p2⟩ (fun hHeld => ?_)
                clear hK K
                try simp only [Act.put, List.setIfInBounds_toArray, List.set_cons_zero, List.set_cons_succ]
                refine wpAnyH_ready (rs := [3]) (by kernel_rfl) (by simp) ?_
                refine AllReadyH.cons (by simp only [List.getElem?_toArray, List.getElem?_cons_succ, List.getElem?_cons_zero]; rfl) (fun K hK => ?_) AllReadyH.nil
                go_simp
                refine H5.out.mono ?_
                rintro e wg ⟨rfl, hbg⟩
                have HLG := Lib.hid (HLF.out.below hw1 hbg)
                obtain ⟨o0, o1, o2, -, -, -, ol⟩ := kept3 HLG.out.box
                clear hbg
                dsimp only
                refine hK.out _ _ ⟨o0, o1, o2⟩ (fun hHeld => ?_)
                clear hK K
                try simp only [Act.put, List.setIfInBounds_toArray, List.set_cons_zero, List.set_cons_succ]
                refine wpAnyH_take (i := 4) (v := ?_) (by simp only [List.getElem?_toArray, List.getElem?_cons_succ, List.getElem?_cons_zero]; rfl) (by kernel_rfl) (by kernel_rfl) (by kernel_rfl) (by intro _ _ _ h; exact h) (Or.inl ⟨by rfl, ?_⟩) (by assumption) ?_
                rotate_left
                · (intro w hSw; (try dsimp only at hSw); go_simp; try with_reducible rfl)
                try simp only [Act.put, List.setIfInBounds_toArray, List.set_cons_zero, List.set_cons_succ]
                refine wpAnyH_done (by kernel_rfl) ?_ _
                dsimp only [onlyN]
                have wm : IntKind.i64.wrap ((m : Int) + 1) = (m : Int) + 1 := IntWalk.i64_in _ (by omega)
                go_wp2_with fail
                go_roundw
                case rel => exact ⟨m + 1, St, R4, s8, o', c', by omega, by omega, by go_num, rfl, HLG.out⟩
                case measure => simp [intOf]; omega
              | cut hgt hnf c hfz hn3' hmost f =>
                obtain ⟨s8, he⟩ : ∃ s8, saveS s N = (12, s8) := ⟨(saveS s N).2, Prod.ext c rfl⟩
                rw [he] at f
                have HFL := Lib.hid (show Falls s8 s.sn N from f)
                clear c f hgt hnf hfz hn3' hmost
                have ho8 := save_ops 20000 s N HLC.out.sg.most (by omega)
                rw [he] at ho8
                dsimp only at ho8
                have H4 := Lib.hid (save_gen N (.slice o' N.dat.length c') wc HLC.out.at_ (HXC.out.sub fun kk hk => .inl (.inl hk)) hn1 hn2 (by omega) hops he)
                unfold snV at H4
                clear he
                have HOP := Lib.hid (show s8.d.ops ≤ 3000 * (m + 1) + 2100 by have := HLC.out.ops; omega)
                go_wp2_with fail
                refine H4.out.mono ?_
                rintro e wd ⟨rfl, ha4, hk4⟩
                have hnd := (hk4.block bx tl hnbx).trans hnc
                obtain ⟨y0, y1, y2, -, -, -, yl⟩ := kept3 hnd
                have hne := (hk4.block b8 (lt_of_block HNE.out) hnR8).trans HNE.out
                obtain ⟨e0, e1, e2, f0, f1, f2, el⟩ := kept3 hne
                have HTL := Lib.hid (TL.cut (n0 := N) (vo8 := o') (vc8 := c') hw1 ha4 ((hk4.block b5 (lt_of_block HLC.out.box) HLC.out.nb).trans HLC.out.box) (HX5.out.fr2 hk4) hne (HXC.out.fr2 hk4) ((hk4.block ba (lt_of_block HNA.out) hnRa).trans HNA.out)
                  (Fr.out HLC.out.nb (lt_of_block HLC.out.box)) (Fr.out hnR8 (lt_of_block HNE.out)) (Fr.out hnRa (lt_of_block HNA.out)) (Ne.symm hn85) (by omega) (Fr.ge HLC.out.ge HLC.out.low) (HLC.out.bel.trans (hk4.below (by have := HLC.out.low; omega) (fun k hk => by have := HLC.out.ge k hk; omega))) HLC.out.b5ge (by have := HL.out.low; omega) (by have := HLC.out.low; have := hk4.size; omega))
                generalize Fr R wc wd = R4 at *
                clear ha4 hk4 t0 t1 t2 H4 hnd hne
                go_upto_region 24 with fail
                generalize (((wd.setCell ⟨b8, 0, none⟩ (.int .u64 (N.ix : Int))).setCell ⟨b8, 1, none⟩ (.int .u64 (N.tm : Int))).setCell ⟨b8, 2, none⟩ (.slice o' N.dat.length c')) = we at *
                clear y0 y1 y2 e0 e1 e2 f0 f1 f2 el
                have bn := HBNN.out
                go_wp2_with fail
                go_loopw [11] (fun c wr => c = .int .i64 0 ∧ Hid (TL w w1 D T b5 b8 ba St R4 s8 s.sn N vo vc o' c' #[.int .u8 k, .int .u64 (ix : Int), .int .u64 (tm : Int), .slice po l.length pc, .int .u8 near, .int .u16 n, .slice ocv ncv ccv] wr)) (fun _ _ => 0)
                case atStart => exact ⟨rfl, HTL.out⟩
                case round =>
                  obtain ⟨rfl, HT⟩ := hrel
                  clear HTL
                  have q5 : wr.cell? ⟨ba, 5, none⟩ = some (.int .u16 n) := cellk (i := 5) HT.out.act rfl
                  have q6 : wr.cell? ⟨ba, 6, none⟩ = some (.slice ocv ncv ccv) := cellk (i := 6) HT.out.act rfl
                  have HR := Lib.hid (sat_restart (.slice ocv ncv ccv) cuts wr HT.out.at_ (HAT0.out.rc.below HT.out.bel) HCV.out)
                  go_wp2_with fail
                  refine HR.out.mono ?_
                  rintro e wA ⟨rfl, haA, hkA⟩
                  have HTA := Lib.hid (HT.out.new hw1 haA hkA)
                  generalize Fr R4 wr wA = RA at *
                  clear haA hkA HR q5 q6 HT
                  have q5 : wA.cell? ⟨ba, 5, none⟩ = some (.int .u16 n) := cellk (i := 5) HTA.out.act rfl
                  obtain ⟨kk, hkk⟩ : ∃ kk : Nat, n % 3 = (kk : Int) := ⟨(n % 3).toNat, by omega⟩
                  have hkt : Int.tmod n 3 = (kk : Int) := by rw [← hkk]; exact Int.tmod_eq_emod_of_nonneg hn0
                  have wn : IntKind.i64.wrap n = n := IntWalk.i64_in _ (by omega)
                  have HM := Lib.hid (sat_arm kk wA HTA.out.at_ (by omega))
                  go_wp2_with fail
                  refine HM.out.mono ?_
                  rintro e wB ⟨rfl, haB, hkB⟩
                  have HTB := Lib.hid (HTA.out.new hw1 haB hkB)
                  generalize Fr RA wA wB = RB at *
                  clear haB hkB HM q5 HTA
                  have HO := Lib.hid (sat_open wB HTB.out.at_ (by have := (HFL.out cuts).1.n; rw [opened_d] at this; exact this) rfl)
                  go_wp2_with fail
                  refine HO.out.mono ?_
                  rintro e wC ⟨St', rfl, haC, hbC⟩
                  rw [opened_fuse] at haC
                  have HTC := Lib.hid (HTB.out.new hw1 haC (kept_of_below hbC))
                  generalize Fr RB wB wC = RC at *
                  clear haC hbC HO HTB
                  have HM2 := Lib.hid (sat_arm 0 wC HTC.out.at_ (by omega))
                  go_wp2_with fail
                  refine HM2.out.mono ?_
                  rintro e wD ⟨rfl, haD, hkD⟩
                  have HTD := Lib.hid (HTC.out.new hw1 haD hkD)
                  generalize Fr RC wC wD = RD at *
                  clear haD hkD HM2 HTC
                  have hsg5 := (HFL.out cuts).1.armed 0
                  rw [opened_d] at hsg5
                  have hsn5 := (HFL.out cuts).2
                  have hop5 : (restartS s8.d cuts).ops ≤ 3000 * (m + 1 + 1) := by rw [restart_ops]; have := HOP.out; omega
                  obtain ⟨s5, hs5⟩ : ∃ s5, s5 = ({ opened (restartS s8.d cuts) with d := { restartS s8.d cuts with fuse := 0 } } : Ss) := ⟨_, rfl⟩
                  have HTE : Hid (TL w w1 D T b5 b8 ba St' RD s5 s.sn N vo vc o' c' #[.int .u8 k, .int .u64 (ix : Int), .int .u64 (tm : Int), .slice po l.length pc, .int .u8 near, .int .u16 n, .slice ocv ncv ccv] wD) := by rw [hs5]; exact HTD
                  have HSG5 := Lib.hid (show SG 20000 s5 by rw [hs5]; exact hsg5)
                  have HOP5 := Lib.hid (show s5.d.ops ≤ 3000 * (m + 1 + 1) by rw [hs5]; exact hop5)
                  have HSN6 := Lib.hid (show s5.sn = s.sn ∨ s5.sn = N by rw [hs5]; exact hsn5)
                  clear hs5 HTD hsg5 hop5 hsn5 HFL
                  obtain ⟨z0, z1, z2, -, -, -, zl⟩ := kept3 HTE.out.box5
                  obtain ⟨y0, y1, y2, -, -, -, yl⟩ := kept3 HTE.out.box8
                  go_wp2_with fail
                  have HT1 := Lib.hid (HTE.out.below hw1 (kept_draw wD))
                  have CS := Lib.hid (snap_any wD.drew HT1.out.at_)
                  by_cases hsame : s5.sn = s.sn
                  · have HSAME := Lib.hid hsame
                    clear hsame
                    refine wp_onlyN ?_
                    refine wp_region_held_drew (S := fun w' => w'.cell? ⟨b5, 0, none⟩ = some (.int .u64 (s.sn.ix : Int)) ∧ w'.cell? ⟨b5, 1, none⟩ = some (.int .u64 (s.sn.tm : Int)) ∧ w'.cell? ⟨b5, 2, none⟩ = some (.slice vo s.sn.dat.length vc) ∧ w'.cell? ⟨b8, 0, none⟩ = some (.int .u64 (N.ix : Int)) ∧ w'.cell? ⟨b8, 1, none⟩ = some (.int .u64 (N.tm : Int)) ∧ w'.cell? ⟨b8, 2, none⟩ = some (.slice o' N.dat.length c')) (by kernel_rfl) ⟨z0, z1, z2, y0, y1, y2⟩ ?_
                    intro hHeld
                    refine wpAnyH_take (i := 0) (v := ?_) (by simp only [List.getElem?_toArray, List.getElem?_cons_zero]; rfl) (by kernel_rfl) (by kernel_rfl) (by kernel_rfl) (by intro _ _ _ h; exact h) (Or.inl ⟨by rfl, ?_⟩) (by assumption) ?_
                    rotate_left
                    · (intro w hSw; (try dsimp only at hSw); go_simp; try with_reducible rfl)
                    try simp only [Act.put, List.setIfInBounds_toArray, List.set_cons_zero, List.set_cons_succ]
                    refine wpAnyH_take (i := 2) (v := ?_) (by simp only [List.getElem?_toArray, List.getElem?_cons_succ, List.getElem?_cons_zero]; rfl) (by kernel_rfl) (by kernel_rfl) (by kernel_rfl) (by intro _ _ _ h; exact h) (Or.inl ⟨by rfl, ?_⟩) (by assumption) ?_
                    rotate_left
                    · (intro w hSw; (try dsimp only at hSw); go_simp; try with_reducible rfl)
                    try simp only [Act.put, List.setIfInBounds_toArray, List.set_cons_zero, List.set_cons_succ]
                    refine wpAnyH_ready (rs := [1]) (by kernel_rfl) (by simp) ?_
                    refine AllReadyH.cons (by simp only [List.getElem?_toArray, List.getElem?_cons_succ, List.getElem?_cons_zero]; rfl) (fun K hK => ?_) AllReadyH.nil
                    go_simp
                    refine CS.out.mono ?_
                    rintro e wf ⟨vf, rfl, hof, hbf⟩
                    have HLF := Lib.hid (HT1.out.below hw1 hbf)
                    obtain ⟨p0, p1, p2, -, -, -, pl⟩ := kept3 HLF.out.box5
                    obtain ⟨o0, o1, o2, -, -, -, ol⟩ := kept3 HLF.out.box8
                    have H5 := Lib.hid (same_any s5.sn s.sn vf (.slice vo s.sn.dat.length vc) wf (Rd.of_own hof) HLF.out.hx5.rd)
                    rw [show sameB s5.sn s.sn = true from by rw [HSAME.out, sameB_self]] at H5
                    obtain ⟨of, cf, rfl, -, -⟩ := own_slice hof
                    clear hof hbf
                    unfold snV at *
                    dsimp only
                    refine hK.out _ _ ⟨p0, p1, p2, o0, o1, o2⟩ (fun hHeld => ?_)
                    clear hK K
                    try simp only [Act.put, List.setIfInBounds_toArray, List.set_cons_zero, List.set_cons_succ]
                    refine wpAnyH_ready (rs := [3]) (by kernel_rfl) (by simp) ?_
                    refine AllReadyH.cons (by simp only [List.getElem?_toArray, List.getElem?_cons_succ, List.getElem?_cons_zero]; rfl) (fun K hK => ?_) AllReadyH.nil
                    go_simp
                    refine H5.out.mono ?_
                    rintro e wg ⟨rfl, hbg⟩
                    have HLG := Lib.hid (HLF.out.below hw1 hbg)
                    obtain ⟨c0, c1, c2, -, -, -, cl⟩ := kept3 HLG.out.box5
                    obtain ⟨d0, d1, d2, -, -, -, dl⟩ := kept3 HLG.out.box8
                    clear hbg
                    dsimp only
                    refine hK.out _ _ ⟨c0, c1, c2, d0, d1, d2⟩ (fun hHeld => ?_)
                    clear hK K
                    try simp only [Act.put, List.setIfInBounds_toArray, List.set_cons_zero, List.set_cons_succ]
                    refine wpAnyH_take (i := 4) (v := ?_) (by simp only [List.getElem?_toArray, List.getElem?_cons_succ, List.getElem?_cons_zero]; rfl) (by kernel_rfl) (by kernel_rfl) (by kernel_rfl) (by intro _ _ _ h; exact h) (Or.inl ⟨by rfl, ?_⟩) (by assumption) ?_
                    rotate_left
                    · (intro w hSw; (try dsimp only at hSw); go_simp; try with_reducible rfl)
                    try simp only [Act.put, List.setIfInBounds_toArray, List.set_cons_zero, List.set_cons_succ]
                    refine wpAnyH_take (i := 5) (v := ?_) (by simp only [List.getElem?_toArray, List.getElem?_cons_succ, List.getElem?_cons_zero]; rfl) (by kernel_rfl) (by kernel_rfl) (by kernel_rfl) (by intro _ _ _ h; exact h) (Or.inl ⟨by rfl, ?_⟩) (by assumption) ?_
                    rotate_left
                    · (intro w hSw; (try dsimp only at hSw); go_simp; try with_reducible rfl)
                    try simp only [Act.put, List.setIfInBounds_toArray, List.set_cons_zero, List.set_cons_succ]
                    refine wpAnyH_take (i := 6) (v := undef) (by simp only [List.getElem?_toArray, List.getElem?_cons_succ, List.getElem?_cons_zero]; rfl) (by kernel_rfl) (by kernel_rfl) (by kernel_rfl) (by intro _ _ _ h; exact h) (Or.inr ⟨by rfl, rfl⟩) (by assumption) ?_
                    try simp only [Act.put, List.setIfInBounds_toArray, List.set_cons_zero, List.set_cons_succ]
                    refine wpAnyH_take (i := 7) (v := undef) (by simp only [List.getElem?_toArray, List.getElem?_cons_succ, List.getElem?_cons_zero]; rfl) (by kernel_rfl) (by kernel_rfl) (by kernel_rfl) (by intro _ _ _ h; exact h) (Or.inr ⟨by rfl, rfl⟩) (by assumption) ?_
                    try simp only [Act.put, List.setIfInBounds_toArray, List.set_cons_zero, List.set_cons_succ]
                    refine wpAnyH_take (i := 8) (v := undef) (by simp only [List.getElem?_toArray, List.getElem?_cons_succ, List.getElem?_cons_zero]; rfl) (by kernel_rfl) (by kernel_rfl) (by kernel_rfl) (by intro _ _ _ h; exact h) (Or.inr ⟨by rfl, rfl⟩) (by assumption) ?_
                    try simp only [Act.put, List.setIfInBounds_toArray, List.set_cons_zero, List.set_cons_succ]
                    refine wpAnyH_take (i := 9) (v := undef) (by simp only [List.getElem?_toArray, List.getElem?_cons_succ, List.getElem?_cons_zero]; rfl) (by kernel_rfl) (by kernel_rfl) (by kernel_rfl) (by intro _ _ _ h; exact h) (Or.inr ⟨by rfl, rfl⟩) (by assumption) ?_
                    try simp only [Act.put, List.setIfInBounds_toArray, List.set_cons_zero, List.set_cons_succ]
                    refine wpAnyH_take (i := 10) (v := undef) (by simp only [List.getElem?_toArray, List.getElem?_cons_succ, List.getElem?_cons_zero]; rfl) (by kernel_rfl) (by kernel_rfl) (by kernel_rfl) (by intro _ _ _ h; exact h) (Or.inr ⟨by rfl, rfl⟩) (by assumption) ?_
                    try simp only [Act.put, List.setIfInBounds_toArray, List.set_cons_zero, List.set_cons_succ]
                    refine wpAnyH_take (i := 11) (v := ?_) (by simp only [List.getElem?_toArray, List.getElem?_cons_succ, List.getElem?_cons_zero]; rfl) (by kernel_rfl) (by kernel_rfl) (by kernel_rfl) (by intro _ _ _ h; exact h) (Or.inl ⟨by rfl, ?_⟩) (by assumption) ?_
                    rotate_left
                    · (intro w hSw; (try dsimp only at hSw); go_simp; try with_reducible rfl)
                    try simp only [Act.put, List.setIfInBounds_toArray, List.set_cons_zero, List.set_cons_succ]
                    refine wpAnyH_done (by kernel_rfl) ?_ _
                    dsimp only [onlyN]
                    have HSN := Lib.hid (snap_any wg HLG.out.at_)
                    go_wp2_with fail
                    refine HSN.out.mono ?_
                    rintro e wh ⟨vh, rfl, hoh, hbh⟩
                    obtain ⟨oh, ch, rfl, -, -⟩ := own_slice hoh
                    have HTH := Lib.hid (HLG.out.below hw1 hbh)
                    have hcl := CL.set (m := m + 1) (D := D) (T := T) HTH.out.at_ HSG5.out HOP5.out HTH.out.nb5 HTH.out.ge HTH.out.bel HTH.out.b5ge HTH.out.low hw1 HTH.out.box5 (Hx.own hoh (fun g hg hR => by
                      have h1 := (hoh.lt g hg).1
                      rcases hR with hR | hR
                      · have := HLG.out.at_.lt g hR; omega
                      · have := lt_of_block HLG.out.box5; omega))
                    obtain ⟨z0, z1, z2, fz0, fz1, fz2, zl⟩ := kept3 HTH.out.box5
                    have HCL := Lib.hid hcl
                    clear HSN hoh hbh hcl HTE HT1 CS
                    unfold snV
                    go_upto_region 44 with fail
                    generalize (((wh.setCell ⟨b5, 0, none⟩ (.int .u64 (s5.sn.ix : Int))).setCell ⟨b5, 1, none⟩ (.int .u64 (s5.sn.tm : Int))).setCell ⟨b5, 2, none⟩ (.slice oh s5.sn.dat.length ch)) = wi at *
                    clear z0 z1 z2 fz0 fz1 fz2 zl HTH
                    obtain ⟨z0, z1, z2, -, -, -, zl⟩ := kept3 HCL.out.box
                    have HT1 := Lib.hid ((HCL.out).drew hw1)
                    have CS := Lib.hid (snap_any wi.drew HT1.out.at_)
                    refine wp_onlyN ?_
                    refine wp_region_held_drew (S := fun w' => w'.cell? ⟨b5, 0, none⟩ = some (.int .u64 (s5.sn.ix : Int)) ∧ w'.cell? ⟨b5, 1, none⟩ = some (.int .u64 (s5.sn.tm : Int)) ∧ w'.cell? ⟨b5, 2, none⟩ = some (.slice oh s5.sn.dat.length ch)) (by kernel_rfl) ⟨z0, z1, z2⟩ ?_
                    intro hHeld
                    refine wpAnyH_take (i := 0) (v := ?_) (by simp only [List.getElem?_toArray, List.getElem?_cons_zero]; rfl) (by kernel_rfl) (by kernel_rfl) (by kernel_rfl) (by intro _ _ _ h; exact h) (Or.inl ⟨by rfl, ?_⟩) (by assumption) ?_
                    rotate_left
                    · (intro w hSw; (try dsimp only at hSw); go_simp; try with_reducible rfl)
                    try simp only [Act.put, List.setIfInBounds_toArray, List.set_cons_zero, List.set_cons_succ]
                    refine wpAnyH_take (i := 2) (v := ?_) (by simp only [List.getElem?_toArray, List.getElem?_cons_succ, List.getElem?_cons_zero]; rfl) (by kernel_rfl) (by kernel_rfl) (by kernel_rfl) (by intro _ _ _ h; exact h) (Or.inl ⟨by rfl, ?_⟩) (by assumption) ?_
                    rotate_left
                    · (intro w hSw; (try dsimp only at hSw); go_simp; try with_reducible rfl)
                    try simp only [Act.put, List.setIfInBounds_toArray, List.set_cons_zero, List.set_cons_succ]
                    refine wpAnyH_ready (rs := [1]) (by kernel_rfl) (by simp) ?_
                    refine AllReadyH.cons (by simp only [List.getElem?_toArray, List.getElem?_cons_succ, List.getElem?_cons_zero]; rfl) (fun K hK => ?_) AllReadyH.nil
                    go_simp
                    refine CS.out.mono ?_
                    rintro e wf ⟨vf, rfl, hof, hbf⟩
                    have HLF := Lib.hid (HT1.out.below hw1 hbf)
                    obtain ⟨p0, p1, p2, -, -, -, pl⟩ := kept3 HLF.out.box
                    have H5 := Lib.hid (same_any s5.sn s5.sn vf (.slice oh s5.sn.dat.length ch) wf (Rd.of_own hof) HLF.out.hx.rd)
                    rw [sameB_self] at H5
                    obtain ⟨of, cf, rfl, -, -⟩ := own_slice hof
                    clear hof hbf
                    unfold snV at *
                    dsimp only
                    refine hK.out _ _ ⟨p0, p1, p2⟩ (fun hHeld => ?_)
                    clear hK K
                    try simp only [Act.put, List.setIfInBounds_toArray, List.set_cons_zero, List.set_cons_succ]
                    refine wpAnyH_ready (rs := [3]) (by kernel_rfl) (by simp) ?_
                    refine AllReadyH.cons (by simp only [List.getElem?_toArray, List.getElem?_cons_succ, List.getElem?_cons_zero]; rfl) (fun K hK => ?_) AllReadyH.nil
                    go_simp
                    refine H5.out.mono ?_
                    rintro e wg ⟨rfl, hbg⟩
                    have HLG := Lib.hid (HLF.out.below hw1 hbg)
                    obtain ⟨o0, o1, o2, -, -, -, ol⟩ := kept3 HLG.out.box
                    clear hbg
                    dsimp only
                    refine hK.out _ _ ⟨o0, o1, o2⟩ (fun hHeld => ?_)
                    clear hK K
                    try simp only [Act.put, List.setIfInBounds_toArray, List.set_cons_zero, List.set_cons_succ]
                    refine wpAnyH_take (i := 4) (v := ?_) (by simp only [List.getElem?_toArray, List.getElem?_cons_succ, List.getElem?_cons_zero]; rfl) (by kernel_rfl) (by kernel_rfl) (by kernel_rfl) (by intro _ _ _ h; exact h) (Or.inl ⟨by rfl, ?_⟩) (by assumption) ?_
                    rotate_left
                    · (intro w hSw; (try dsimp only at hSw); go_simp; try with_reducible rfl)
                    try simp only [Act.put, List.setIfInBounds_toArray, List.set_cons_zero, List.set_cons_succ]
                    refine wpAnyH_done (by kernel_rfl) ?_ _
                    dsimp only [onlyN]
                    have wm : IntKind.i64.wrap ((m : Int) + 1) = (m : Int) + 1 := IntWalk.i64_in _ (by omega)
                    go_wp2_with fail
                    go_roundw
                    case rel => exact ⟨m + 1, St', RD, s5, oh, ch, by omega, by omega, by go_num, rfl, HLG.out⟩
                    case measure => simp [intOf]; omega
                  · have HSN7 := Lib.hid (HSN6.out.resolve_left hsame)
                    have HSAME := Lib.hid hsame
                    clear hsame
                    refine wp_onlyN ?_
                    refine wp_region_held_drew (S := fun w' => w'.cell? ⟨b5, 0, none⟩ = some (.int .u64 (s.sn.ix : Int)) ∧ w'.cell? ⟨b5, 1, none⟩ = some (.int .u64 (s.sn.tm : Int)) ∧ w'.cell? ⟨b5, 2, none⟩ = some (.slice vo s.sn.dat.length vc) ∧ w'.cell? ⟨b8, 0, none⟩ = some (.int .u64 (N.ix : Int)) ∧ w'.cell? ⟨b8, 1, none⟩ = some (.int .u64 (N.tm : Int)) ∧ w'.cell? ⟨b8, 2, none⟩ = some (.slice o' N.dat.length c')) (by kernel_rfl) ⟨z0, z1, z2, y0, y1, y2⟩ ?_
                    intro hHeld
                    refine wpAnyH_take (i := 0) (v := ?_) (by simp only [List.getElem?_toArray, List.getElem?_cons_zero]; rfl) (by kernel_rfl) (by kernel_rfl) (by kernel_rfl) (by intro _ _ _ h; exact h) (Or.inl ⟨by rfl, ?_⟩) (by assumption) ?_
                    rotate_left
                    · (intro w hSw; (try dsimp only at hSw); go_simp; try with_reducible rfl)
                    try simp only [Act.put, List.setIfInBounds_toArray, List.set_cons_zero, List.set_cons_succ]
                    refine wpAnyH_take (i := 2) (v := ?_) (by simp only [List.getElem?_toArray, List.getElem?_cons_succ, List.getElem?_cons_zero]; rfl) (by kernel_rfl) (by kernel_rfl) (by kernel_rfl) (by intro _ _ _ h; exact h) (Or.inl ⟨by rfl, ?_⟩) (by assumption) ?_
                    rotate_left
                    · (intro w hSw; (try dsimp only at hSw); go_simp; try with_reducible rfl)
                    try simp only [Act.put, List.setIfInBounds_toArray, List.set_cons_zero, List.set_cons_succ]
                    refine wpAnyH_ready (rs := [1]) (by kernel_rfl) (by simp) ?_
                    refine AllReadyH.cons (by simp only [List.getElem?_toArray, List.getElem?_cons_succ, List.getElem?_cons_zero]; rfl) (fun K hK => ?_) AllReadyH.nil
                    go_simp
                    refine CS.out.mono ?_
                    rintro e wf ⟨vf, rfl, hof, hbf⟩
                    have HLF := Lib.hid (HT1.out.below hw1 hbf)
                    obtain ⟨p0, p1, p2, -, -, -, pl⟩ := kept3 HLF.out.box5
                    obtain ⟨o0, o1, o2, -, -, -, ol⟩ := kept3 HLF.out.box8
                    have H5 := Lib.hid (same_any s5.sn s.sn vf (.slice vo s.sn.dat.length vc) wf (Rd.of_own hof) HLF.out.hx5.rd)
                    rw [show sameB s5.sn s.sn = false from sameB_ne HSAME.out] at H5
                    obtain ⟨of, cf, rfl, -, -⟩ := own_slice hof
                    clear hof hbf
                    unfold snV at *
                    dsimp only
                    refine hK.out _ _ ⟨p0, p1, p2, o0, o1, o2⟩ (fun hHeld => ?_)
                    clear hK K
                    try simp only [Act.put, List.setIfInBounds_toArray, List.set_cons_zero, List.set_cons_succ]
                    refine wpAnyH_ready (rs := [3]) (by kernel_rfl) (by simp) ?_
                    refine AllReadyH.cons (by simp only [List.getElem?_toArray, List.getElem?_cons_succ, List.getElem?_cons_zero]; rfl) (fun K hK => ?_) AllReadyH.nil
                    go_simp
                    refine H5.out.mono ?_
                    rintro e wg ⟨rfl, hbg⟩
                    have HLG := Lib.hid (HLF.out.below hw1 hbg)
                    obtain ⟨c0, c1, c2, -, -, -, cl⟩ := kept3 HLG.out.box5
                    obtain ⟨d0, d1, d2, -, -, -, dl⟩ := kept3 HLG.out.box8
                    clear hbg
                    have CS2 := Lib.hid (snap_any wg HLG.out.at_)
                    dsimp only
                    refine hK.out _ _ ⟨c0, c1, c2, d0, d1, d2⟩ (fun hHeld => ?_)
                    clear hK K
                    try simp only [Act.put, List.setIfInBounds_toArray, List.set_cons_zero, List.set_cons_succ]
                    refine wpAnyH_take (i := 4) (v := ?_) (by simp only [List.getElem?_toArray, List.getElem?_cons_succ, List.getElem?_cons_zero]; rfl) (by kernel_rfl) (by kernel_rfl) (by kernel_rfl) (by intro _ _ _ h; exact h) (Or.inl ⟨by rfl, ?_⟩) (by assumption) ?_
                    rotate_left
                    · (intro w hSw; (try dsimp only at hSw); go_simp; try with_reducible rfl)
                    try simp only [Act.put, List.setIfInBounds_toArray, List.set_cons_zero, List.set_cons_succ]
                    refine wpAnyH_take (i := 5) (v := ?_) (by simp only [List.getElem?_toArray, List.getElem?_cons_succ, List.getElem?_cons_zero]; rfl) (by kernel_rfl) (by kernel_rfl) (by kernel_rfl) (by intro _ _ _ h; exact h) (Or.inl ⟨by rfl, ?_⟩) (by assumption) ?_
                    rotate_left
                    · (intro w hSw; (try dsimp only at hSw); go_simp; try with_reducible rfl)
                    try simp only [Act.put, List.setIfInBounds_toArray, List.set_cons_zero, List.set_cons_succ]
                    refine wpAnyH_take (i := 6) (v := ?_) (by simp only [List.getElem?_toArray, List.getElem?_cons_succ, List.getElem?_cons_zero]; rfl) (by kernel_rfl) (by kernel_rfl) (by kernel_rfl) (by intro _ _ _ h; exact h) (Or.inl ⟨by rfl, ?_⟩) (by assumption) ?_
                    rotate_left
                    · (intro w hSw; (try dsimp only at hSw); go_simp; try with_reducible rfl)
                    try simp only [Act.put, List.setIfInBounds_toArray, List.set_cons_zero, List.set_cons_succ]
                    refine wpAnyH_take (i := 8) (v := ?_) (by simp only [List.getElem?_toArray, List.getElem?_cons_succ, List.getElem?_cons_zero]; rfl) (by kernel_rfl) (by kernel_rfl) (by kernel_rfl) (by intro _ _ _ h; exact h) (Or.inl ⟨by rfl, ?_⟩) (by assumption) ?_
                    rotate_left
                    · (intro w hSw; (try dsimp only at hSw); go_simp; try with_reducible rfl)
                    try simp only [Act.put, List.setIfInBounds_toArray, List.set_cons_zero, List.set_cons_succ]
                    refine wpAnyH_ready (rs := [7]) (by kernel_rfl) (by simp) ?_
                    refine AllReadyH.cons (by simp only [List.getElem?_toArray, List.getElem?_cons_succ, List.getElem?_cons_zero]; rfl) (fun K hK => ?_) AllReadyH.nil
                    go_simp
                    refine CS2.out.mono ?_
                    rintro e wf2 ⟨vf2, rfl, hof, hbf⟩
                    have HLH := Lib.hid (HLG.out.below hw1 hbf)
                    obtain ⟨p'0, p'1, p'2, -, -, -, p'l⟩ := kept3 HLH.out.box5
                    obtain ⟨o'0, o'1, o'2, -, -, -, o'l⟩ := kept3 HLH.out.box8
                    have H52 := Lib.hid (same_any s5.sn N vf2 (.slice o' N.dat.length c') wf2 (Rd.of_own hof) HLH.out.hx8.rd)
                    rw [show sameB s5.sn N = true from by rw [HSN7.out, sameB_self]] at H52
                    obtain ⟨of2, cf2, rfl, -, -⟩ := own_slice hof
                    clear hof hbf
                    unfold snV at *
                    dsimp only
                    refine hK.out _ _ ⟨p'0, p'1, p'2, o'0, o'1, o'2⟩ (fun hHeld => ?_)
                    clear hK K
                    try simp only [Act.put, List.setIfInBounds_toArray, List.set_cons_zero, List.set_cons_succ]
                    refine wpAnyH_ready (rs := [9]) (by kernel_rfl) (by simp) ?_
                    refine AllReadyH.cons (by simp only [List.getElem?_toArray, List.getElem?_cons_succ, List.getElem?_cons_zero]; rfl) (fun K hK => ?_) AllReadyH.nil
                    go_simp
                    refine H52.out.mono ?_
                    rintro e wg2 ⟨rfl, hbg⟩
                    have HLI := Lib.hid (HLH.out.below hw1 hbg)
                    obtain ⟨c'0, c'1, c'2, -, -, -, c'l⟩ := kept3 HLI.out.box5
                    obtain ⟨d'0, d'1, d'2, -, -, -, d'l⟩ := kept3 HLI.out.box8
                    clear hbg
                    dsimp only
                    refine hK.out _ _ ⟨c'0, c'1, c'2, d'0, d'1, d'2⟩ (fun hHeld => ?_)
                    clear hK K
                    try simp only [Act.put, List.setIfInBounds_toArray, List.set_cons_zero, List.set_cons_succ]
                    refine wpAnyH_take (i := 10) (v := ?_) (by simp only [List.getElem?_toArray, List.getElem?_cons_succ, List.getElem?_cons_zero]; rfl) (by kernel_rfl) (by kernel_rfl) (by kernel_rfl) (by intro _ _ _ h; exact h) (Or.inl ⟨by rfl, ?_⟩) (by assumption) ?_
                    rotate_left
                    · (intro w hSw; (try dsimp only at hSw); go_simp; try with_reducible rfl)
                    try simp only [Act.put, List.setIfInBounds_toArray, List.set_cons_zero, List.set_cons_succ]
                    refine wpAnyH_take (i := 11) (v := ?_) (by simp only [List.getElem?_toArray, List.getElem?_cons_succ, List.getElem?_cons_zero]; rfl) (by kernel_rfl) (by kernel_rfl) (by kernel_rfl) (by intro _ _ _ h; exact h) (Or.inl ⟨by rfl, ?_⟩) (by assumption) ?_
                    rotate_left
                    · (intro w hSw; (try dsimp only at hSw); go_simp; try with_reducible rfl)
                    try simp only [Act.put, List.setIfInBounds_toArray, List.set_cons_zero, List.set_cons_succ]
                    refine wpAnyH_done (by kernel_rfl) ?_ _
                    dsimp only [onlyN]
                    have HSN := Lib.hid (snap_any wg2 HLI.out.at_)
                    go_wp2_with fail
                    refine HSN.out.mono ?_
                    rintro e wh ⟨vh, rfl, hoh, hbh⟩
                    obtain ⟨oh, ch, rfl, -, -⟩ := own_slice hoh
                    have HTH := Lib.hid (HLI.out.below hw1 hbh)
                    have hcl := CL.set (m := m + 1) (D := D) (T := T) HTH.out.at_ HSG5.out HOP5.out HTH.out.nb5 HTH.out.ge HTH.out.bel HTH.out.b5ge HTH.out.low hw1 HTH.out.box5 (Hx.own hoh (fun g hg hR => by
                      have h1 := (hoh.lt g hg).1
                      rcases hR with hR | hR
                      · have := HLI.out.at_.lt g hR; omega
                      · have := lt_of_block HLI.out.box5; omega))
                    obtain ⟨z0, z1, z2, fz0, fz1, fz2, zl⟩ := kept3 HTH.out.box5
                    have HCL := Lib.hid hcl
                    clear HSN hoh hbh hcl HTE HT1 CS
                    unfold snV
                    go_upto_region 44 with fail
                    generalize (((wh.setCell ⟨b5, 0, none⟩ (.int .u64 (s5.sn.ix : Int))).setCell ⟨b5, 1, none⟩ (.int .u64 (s5.sn.tm : Int))).setCell ⟨b5, 2, none⟩ (.slice oh s5.sn.dat.length ch)) = wi at *
                    clear z0 z1 z2 fz0 fz1 fz2 zl HTH
                    obtain ⟨z0, z1, z2, -, -, -, zl⟩ := kept3 HCL.out.box
                    have HT1 := Lib.hid ((HCL.out).drew hw1)
                    have CS := Lib.hid (snap_any wi.drew HT1.out.at_)
                    refine wp_onlyN ?_
                    refine wp_region_held_drew (S := fun w' => w'.cell? ⟨b5, 0, none⟩ = some (.int .u64 (s5.sn.ix : Int)) ∧ w'.cell? ⟨b5, 1, none⟩ = some (.int .u64 (s5.sn.tm : Int)) ∧ w'.cell? ⟨b5, 2, none⟩ = some (.slice oh s5.sn.dat.length ch)) (by kernel_rfl) ⟨z0, z1, z2⟩ ?_
                    intro hHeld
                    refine wpAnyH_take (i := 0) (v := ?_) (by simp only [List.getElem?_toArray, List.getElem?_cons_zero]; rfl) (by kernel_rfl) (by kernel_rfl) (by kernel_rfl) (by intro _ _ _ h; exact h) (Or.inl ⟨by rfl, ?_⟩) (by assumption) ?_
                    rotate_left
                    · (intro w hSw; (try dsimp only at hSw); go_simp; try with_reducible rfl)
                    try simp only [Act.put, List.setIfInBounds_toArray, List.set_cons_zero, List.set_cons_succ]
                    refine wpAnyH_take (i := 2) (v := ?_) (by simp only [List.getElem?_toArray, List.getElem?_cons_succ, List.getElem?_cons_zero]; rfl) (by kernel_rfl) (by kernel_rfl) (by kernel_rfl) (by intro _ _ _ h; exact h) (Or.inl ⟨by rfl, ?_⟩) (by assumption) ?_
                    rotate_left
                    · (intro w hSw; (try dsimp only at hSw); go_simp; try with_reducible rfl)
                    try simp only [Act.put, List.setIfInBounds_toArray, List.set_cons_zero, List.set_cons_succ]
                    refine wpAnyH_ready (rs := [1]) (by kernel_rfl) (by simp) ?_
                    refine AllReadyH.cons (by simp only [List.getElem?_toArray, List.getElem?_cons_succ, List.getElem?_cons_zero]; rfl) (fun K hK => ?_) AllReadyH.nil
                    go_simp
                    refine CS.out.mono ?_
                    rintro e wf ⟨vf, rfl, hof, hbf⟩
                    have HLF := Lib.hid (HT1.out.below hw1 hbf)
                    obtain ⟨p0, p1, p2, -, -, -, pl⟩ := kept3 HLF.out.box
                    have H5 := Lib.hid (same_any s5.sn s5.sn vf (.slice oh s5.sn.dat.length ch) wf (Rd.of_own hof) HLF.out.hx.rd)
                    rw [sameB_self] at H5
                    obtain ⟨of, cf, rfl, -, -⟩ := own_slice hof
                    clear hof hbf
                    unfold snV at *
                    dsimp only
                    refine hK.out _ _ ⟨p0, p1, p2⟩ (fun hHeld => ?_)
                    clear hK K
                    try simp only [Act.put, List.setIfInBounds_toArray, List.set_cons_zero, List.set_cons_succ]
                    refine wpAnyH_ready (rs := [3]) (by kernel_rfl) (by simp) ?_
                    refine AllReadyH.cons (by simp only [List.getElem?_toArray, List.getElem?_cons_succ, List.getElem?_cons_zero]; rfl) (fun K hK => ?_) AllReadyH.nil
                    go_simp
                    refine H5.out.mono ?_
                    rintro e wg ⟨rfl, hbg⟩
                    have HLG := Lib.hid (HLF.out.below hw1 hbg)
                    obtain ⟨o0, o1, o2, -, -, -, ol⟩ := kept3 HLG.out.box
                    clear hbg
                    dsimp only
                    refine hK.out _ _ ⟨o0, o1, o2⟩ (fun hHeld => ?_)
                    clear hK K
                    try simp only [Act.put, List.setIfInBounds_toArray, List.set_cons_zero, List.set_cons_succ]
                    refine wpAnyH_take (i := 4) (v := ?_) (by simp only [List.getElem?_toArray, List.getElem?_cons_succ, List.getElem?_cons_zero]; rfl) (by kernel_rfl) (by kernel_rfl) (by kernel_rfl) (by intro _ _ _ h; exact h) (Or.inl ⟨by rfl, ?_⟩) (by assumption) ?_
                    rotate_left
                    · (intro w hSw; (try dsimp only at hSw); go_simp; try with_reducible rfl)
                    try simp only [Act.put, List.setIfInBounds_toArray, List.set_cons_zero, List.set_cons_succ]
                    refine wpAnyH_done (by kernel_rfl) ?_ _
                    dsimp only [onlyN]
                    have wm : IntKind.i64.wrap ((m : Int) + 1) = (m : Int) + 1 := IntWalk.i64_in _ (by omega)
                    go_wp2_with fail
                    go_roundw
                    case rel => exact ⟨m + 1, St', RD, s5, oh, ch, by omega, by omega, by go_num, rfl, HLG.out⟩
                    case measure => simp [intOf]; omega
            · have HBN := Lib.hid bnear
              have HBNN := Lib.hid bn
              have hlow : ∀ kk, ((R kk ∨ kk = b5) ∨ kk = b8) → w.heap.size ≤ kk := fun kk hk => by
                have h5 := HL8.out.b5ge
                have h6 := HL.out.low
                rcases hk with (hk | hk) | hk
                · have := HL8.out.ge kk hk; omega
                · omega
                · omega
              have HLOW := Lib.hid hlow
              clear bnear bn hbig hlow hr3 hr5 e0 e1 e2 f0 f1 f2 el hn8
              go_wp2_with fail
              refine (ssnap_any ⟨k, ⟨ix, tm, l⟩, po, pc, near, n, .slice ocv ncv ccv, cuts⟩ s.sn.ix w8 (HAT0.out.rd.below HL8.out.bel) HBN.out HBNN.out hl3 HL8.out.sg.fits.ix).mono ?_
              rintro e wb ⟨v', rfl, hbb, hv'⟩
              have hn1 : (snapS ⟨k, ⟨ix, tm, l⟩, po, pc, near, n, .slice ocv ncv ccv, cuts⟩ s.sn.ix).ix < 18446744073709551616 := by
                have h1 := HBIX.out
                have h2 := HBN.out
                unfold snapS
                dsimp only
                split <;> omega
              have hn2 : (snapS ⟨k, ⟨ix, tm, l⟩, po, pc, near, n, .slice ocv ncv ccv, cuts⟩ s.sn.ix).tm < 18446744073709551616 := HBTM.out
              have hn3 : (snapS ⟨k, ⟨ix, tm, l⟩, po, pc, near, n, .slice ocv ncv ccv, cuts⟩ s.sn.ix).dat.length ≤ 5000 := by
                have h2 := HBNN.out
                unfold snapS
                dsimp only
                split
                · rw [nz_length]; omega
                · omega
              generalize snapS ⟨k, ⟨ix, tm, l⟩, po, pc, near, n, .slice ocv ncv ccv, cuts⟩ s.sn.ix = N at *
              have hsb := hbb.size
              obtain ⟨o', c', rfl⟩ : ∃ o c, v' = .slice o N.dat.length c := by
                rcases hv' with ⟨rfl, h⟩ | h
                · rw [h]; exact ⟨_, _, rfl⟩
                · obtain ⟨o, c, rfl, -, -⟩ := own_slice h
                  exact ⟨_, _, rfl⟩
              have hbc : Below wb.heap.size wb (wb.alloc (.cells #[.int .u64 (N.ix : Int), .int .u64 (N.tm : Int), .slice o' N.dat.length c'] 55)) := (Below.refl _ _).alloc (Nat.le_refl _) _
              have hsc : (wb.alloc (.cells #[.int .u64 (N.ix : Int), .int .u64 (N.tm : Int), .slice o' N.dat.length c'] 55)).heap.size = wb.heap.size + 1 := by simp
              have hnc := heap_alloc_new wb (.cells #[.int .u64 (N.ix : Int), .int .u64 (N.tm : Int), .slice o' N.dat.length c'] 55)
              have HLB := Lib.hid (HL8.out.below hw1 hbb)
              have HLC := Lib.hid (HLB.out.below hw1 hbc)
              have HX5 := Lib.hid ((HX8.out.below hbb).below hbc)
              have HNA := Lib.hid ((hbc.block ba (by omega)).trans ((hbb.block ba (by omega)).trans HNA8.out))
              have HNE := Lib.hid ((hbc.block b8 (by omega)).trans ((hbb.block b8 (by omega)).trans HEB8.out))
              have hRl := HL8.out.at_.lt
              have hxc : Hx (fun kk => (R kk ∨ kk = b5) ∨ kk = b8) (wb.alloc (.cells #[.int .u64 (N.ix : Int), .int .u64 (N.tm : Int), .slice o' N.dat.length c'] 55)) (.slice o' N.dat.length c') N.dat := by
                rcases hv' with ⟨hv1, h⟩ | h
                · have hq : Hx (fun kk => (R kk ∨ kk = b5) ∨ kk = b8) _ (.slice po l.length pc) l := Hx.low HAT0.out.rd HLC.out.bel HLOW.out
                  have h' : N.dat = l := h
                  have hv2 : Value.slice o' N.dat.length c' = .slice po l.length pc := hv1
                  rw [← hv2, ← h'] at hq
                  exact hq
                · refine Hx.own (own_below h hbc (Nat.le_refl _)) (fun g hg hR => ?_)
                  have h1 := (h.lt g hg).1
                  have h5 := lt_of_block HL8.out.box
                  rcases hR with (hR | hR) | hR
                  · have := hRl g hR; omega
                  · omega
                  · omega
              have HXC := Lib.hid hxc
              have hnbx : ¬ R wb.heap.size := fun h => by have := hRl _ h; omega
              clear hv' hbb hbc x0 x1 x2 x3 x4 x5 x6 s0 s1 s2 g0 g1 g2 sl hxc hRl HBIX HBTM HBN HX8 HEB8 HLB
              unfold snV
              go_upto_region 19 with fail
              generalize wb.alloc (.cells #[.int .u64 (N.ix : Int), .int .u64 (N.tm : Int), .slice o' N.dat.length c'] 55) = wc at *
              generalize hbx0 : wb.heap.size = bx at *
              obtain ⟨t0, t1, t2, -, -, -, tl⟩ := kept3 hnc
              have hops : s.d.ops ≤ 900000 := by have := HLC.out.ops; omega
              cases save_cases 20000 s N HLC.out.sg (by omega) hn1 hn2 with
              | full _ a _ => have := (snB_bound N).2; omega
              | stale hle he =>
                have H4 := Lib.hid (save_gen N (.slice o' N.dat.length c') wc HLC.out.at_ (HXC.out.sub fun kk hk => .inl (.inl hk)) hn1 hn2 (by omega) hops he)
                unfold snV at H4
                clear he hle
                go_wp2_with fail
                refine H4.out.mono ?_
                rintro e wd ⟨rfl, ha4, hk4⟩
                have HLD := Lib.hid (HLC.out.new hw1 ha4 hk4 rfl HLC.out.sg (Nat.le_refl _))
                obtain ⟨z0, z1, z2, -, -, -, zl⟩ := kept3 HLD.out.box
                have HNAD := Lib.hid ((hk4.block ba (lt_of_block HNA.out) hnRa).trans HNA.out)
                have q0 : wd.cell? ⟨ba, 0, none⟩ = some (.int .u8 k) := cellk (i := 0) HNAD.out rfl
                generalize Fr R wc wd = R4 at *
                clear ha4 hk4 t0 t1 t2 H4
                go_wp2_with fail
                have HT1 := Lib.hid ((HLD.out.more (Nat.le_succ m)).drew hw1)
                have CS := Lib.hid (snap_any wd.drew HT1.out.at_)
                refine wp_onlyN ?_
                refine wp_region_held_drew (S := fun w' => w'.cell? ⟨b5, 0, none⟩ = some (.int .u64 (s.sn.ix : Int)) ∧ w'.cell? ⟨b5, 1, none⟩ = some (.int .u64 (s.sn.tm : Int)) ∧ w'.cell? ⟨b5, 2, none⟩ = some (.slice vo s.sn.dat.length vc)) (by kernel_rfl) ⟨z0, z1, z2⟩ ?_
                intro hHeld
                refine wpAnyH_take (i := 0) (v := ?_) (by simp only [List.getElem?_toArray, List.getElem?_cons_zero]; rfl) (by kernel_rfl) (by kernel_rfl) (by kernel_rfl) (by intro _ _ _ h; exact h) (Or.inl ⟨by rfl, ?_⟩) (by assumption) ?_
                rotate_left
                · (intro w hSw; (try dsimp only at hSw); go_simp; try with_reducible rfl)
                try simp only [Act.put, List.setIfInBounds_toArray, List.set_cons_zero, List.set_cons_succ]
                refine wpAnyH_take (i := 2) (v := ?_) (by simp only [List.getElem?_toArray, List.getElem?_cons_succ, List.getElem?_cons_zero]; rfl) (by kernel_rfl) (by kernel_rfl) (by kernel_rfl) (by intro _ _ _ h; exact h) (Or.inl ⟨by rfl, ?_⟩) (by assumption) ?_
                rotate_left
                · (intro w hSw; (try dsimp only at hSw); go_simp; try with_reducible rfl)
                try simp only [Act.put, List.setIfInBounds_toArray, List.set_cons_zero, List.set_cons_succ]
                refine wpAnyH_ready (rs := [1]) (by kernel_rfl) (by simp) ?_
                refine AllReadyH.cons (by simp only [List.getElem?_toArray, List.getElem?_cons_succ, List.getElem?_cons_zero]; rfl) (fun K hK => ?_) AllReadyH.nil
                go_simp
                refine CS.out.mono ?_
                rintro e wf ⟨vf, rfl, hof, hbf⟩
                have HLF := Lib.hid (HT1.out.below hw1 hbf)
                obtain ⟨p0, p1, p2, -, -, -, pl⟩ := kept3 HLF.out.box
                have H5 := Lib.hid (same_any s.sn s.sn vf (.slice vo s.sn.dat.length vc) wf (Rd.of_own hof) HLF.out.hx.rd)
                rw [sameB_self] at H5
                obtain ⟨of, cf, rfl, -, -⟩ := own_slice hof
                clear hof hbf
                unfold snV at *
                dsimp only
                refine hK.out _ _ ⟨p0, p1, p2⟩ (fun hHeld => ?_)
                clear hK K
                try simp only [Act.put, List.setIfInBounds_toArray, List.set_cons_zero, List.set_cons_succ]
                refine wpAnyH_ready (rs := [3]) (by kernel_rfl) (by simp) ?_
                refine AllReadyH.cons (by simp only [List.getElem?_toArray, List.getElem?_cons_succ, List.getElem?_cons_zero]; rfl) (fun K hK => ?_) AllReadyH.nil
                go_simp
                refine H5.out.mono ?_
                rintro e wg ⟨rfl, hbg⟩
                have HLG := Lib.hid (HLF.out.below hw1 hbg)
                obtain ⟨o0, o1, o2, -, -, -, ol⟩ := kept3 HLG.out.box
                clear hbg
                dsimp only
                refine hK.out _ _ ⟨o0, o1, o2⟩ (fun hHeld => ?_)
                clear hK K
                try simp only [Act.put, List.setIfInBounds_toArray, List.set_cons_zero, List.set_cons_succ]
                refine wpAnyH_take (i := 4) (v := ?_) (by simp only [List.getElem?_toArray, List.getElem?_cons_succ, List.getElem?_cons_zero]; rfl) (by kernel_rfl) (by kernel_rfl) (by kernel_rfl) (by intro _ _ _ h; exact h) (Or.inl ⟨by rfl, ?_⟩) (by assumption) ?_
                rotate_left
                · (intro w hSw; (try dsimp only at hSw); go_simp; try with_reducible rfl)
                try simp only [Act.put, List.setIfInBounds_toArray, List.set_cons_zero, List.set_cons_succ]
                refine wpAnyH_done (by kernel_rfl) ?_ _
                dsimp only [onlyN]
                have wm : IntKind.i64.wrap ((m : Int) + 1) = (m : Int) + 1 := IntWalk.i64_in _ (by omega)
                go_wp2_with fail
                go_roundw
                case rel => exact ⟨m + 1, St, R4, s, vo, vc, by omega, by omega, by go_num, rfl, HLG.out⟩
                case measure => simp [intOf]; omega
              | done hgt hnf c g e f _ =>
                obtain ⟨s8, he⟩ : ∃ s8, saveS s N = (0, s8) := ⟨(saveS s N).2, Prod.ext c rfl⟩
                rw [he] at e g
                dsimp only at e g
                have HG8 := Lib.hid g
                have HN8 := Lib.hid e
                clear c f g e hgt hnf
                have ho8 := save_ops 20000 s N HLC.out.sg.most (by omega)
                rw [he] at ho8
                dsimp only at ho8
                have H4 := Lib.hid (save_gen N (.slice o' N.dat.length c') wc HLC.out.at_ (HXC.out.sub fun kk hk => .inl (.inl hk)) hn1 hn2 (by omega) hops he)
                unfold snV at H4
                clear he
                have HOP := Lib.hid (show s8.d.ops ≤ 3000 * (m + 1) + 2100 by have := HLC.out.ops; omega)
                go_wp2_with fail
                refine H4.out.mono ?_
                rintro e wd ⟨rfl, ha4, hk4⟩
                have hnd := (hk4.block bx tl hnbx).trans hnc
                obtain ⟨y0, y1, y2, -, -, -, yl⟩ := kept3 hnd
                have hne := (hk4.block b8 (lt_of_block HNE.out) hnR8).trans HNE.out
                obtain ⟨e0, e1, e2, f0, f1, f2, el⟩ := kept3 hne
                have HTL := Lib.hid (TL.cut (n0 := N) (vo8 := o') (vc8 := c') hw1 ha4 ((hk4.block b5 (lt_of_block HLC.out.box) HLC.out.nb).trans HLC.out.box) (HX5.out.fr2 hk4) hne (HXC.out.fr2 hk4) ((hk4.block ba (lt_of_block HNA.out) hnRa).trans HNA.out)
                  (Fr.out HLC.out.nb (lt_of_block HLC.out.box)) (Fr.out hnR8 (lt_of_block HNE.out)) (Fr.out hnRa (lt_of_block HNA.out)) (Ne.symm hn85) (by omega) (Fr.ge HLC.out.ge HLC.out.low) (HLC.out.bel.trans (hk4.below (by have := HLC.out.low; omega) (fun k hk => by have := HLC.out.ge k hk; omega))) HLC.out.b5ge (by have := HL.out.low; omega) (by have := HLC.out.low; have := hk4.size; omega))
                generalize Fr R wc wd = R4 at *
                clear ha4 hk4 t0 t1 t2 H4 hnd hne
                go_upto_region 24 with fail
                generalize (((wd.setCell ⟨b8, 0, none⟩ (.int .u64 (N.ix : Int))).setCell ⟨b8, 1, none⟩ (.int .u64 (N.tm : Int))).setCell ⟨b8, 2, none⟩ (.slice o' N.dat.length c')) = we at *
                clear y0 y1 y2 e0 e1 e2 f0 f1 f2 el
                have q0 : we.cell? ⟨ba, 0, none⟩ = some (.int .u8 k) := cellk (i := 0) HTL.out.act rfl
                obtain ⟨e0, e1, e2, -, -, -, el⟩ := kept3 HTL.out.box8
                obtain ⟨z0, z1, z2, fz0, fz1, fz2, zl⟩ := kept3 HTL.out.box5
                have hcl := CL.set (m := m + 1) (D := D) (T := T) (vo' := o') (vc' := c') HTL.out.at_ HG8.out (by have := HOP.out; omega) HTL.out.nb5 HTL.out.ge HTL.out.bel HTL.out.b5ge HTL.out.low hw1 HTL.out.box5 (by rw [HN8.out]; exact HTL.out.hx8)
                rw [HN8.out] at hcl
                have HCL := Lib.hid hcl
                have hact2 := (set3_other we (.int .u64 (N.ix : Int)) (.int .u64 (N.tm : Int)) (.slice o' N.dat.length c') hna5).trans HTL.out.act
                have HACT2 := Lib.hid hact2
                clear hcl hact2
                go_upto_region 26 with fail
                generalize (((we.setCell ⟨b5, 0, none⟩ (.int .u64 (N.ix : Int))).setCell ⟨b5, 1, none⟩ (.int .u64 (N.tm : Int))).setCell ⟨b5, 2, none⟩ (.slice o' N.dat.length c')) = wg0 at *
                clear q0 e0 e1 e2 z0 z1 z2 fz0 fz1 fz2 zl
                have q0 : wg0.cell? ⟨ba, 0, none⟩ = some (.int .u8 k) := cellk (i := 0) HACT2.out rfl
                obtain ⟨z0, z1, z2, -, -, -, zl⟩ := kept3 HCL.out.box
                clear HTL
                go_wp2_with fail
                have HT1 := Lib.hid ((HCL.out).drew hw1)
                have CS := Lib.hid (snap_any wg0.drew HT1.out.at_)
                refine wp_onlyN ?_
                refine wp_region_held_drew (S := fun w' => w'.cell? ⟨b5, 0, none⟩ = some (.int .u64 (s8.sn.ix : Int)) ∧ w'.cell? ⟨b5, 1, none⟩ = some (.int .u64 (s8.sn.tm : Int)) ∧ w'.cell? ⟨b5, 2, none⟩ = some (.slice o' s8.sn.dat.length c')) (by kernel_rfl) ⟨z0, z1, z2⟩ ?_
                intro hHeld
                refine wpAnyH_take (i := 0) (v := ?_) (by simp only [List.getElem?_toArray, List.getElem?_cons_zero]; rfl) (by kernel_rfl) (by kernel_rfl) (by kernel_rfl) (by intro _ _ _ h; exact h) (Or.inl ⟨by rfl, ?_⟩) (by assumption) ?_
                rotate_left
                · (intro w hSw; (try dsimp only at hSw); go_simp; try with_reducible rfl)
                try simp only [Act.put, List.setIfInBounds_toArray, List.set_cons_zero, List.set_cons_succ]
                refine wpAnyH_take (i := 2) (v := ?_) (by simp only [List.getElem?_toArray, List.getElem?_cons_succ, List.getElem?_cons_zero]; rfl) (by kernel_rfl) (by kernel_rfl) (by kernel_rfl) (by intro _ _ _ h; exact h) (Or.inl ⟨by rfl, ?_⟩) (by assumption) ?_
                rotate_left
                · (intro w hSw; (try dsimp only at hSw); go_simp; try with_reducible rfl)
                try simp only [Act.put, List.setIfInBounds_toArray, List.set_cons_zero, List.set_cons_succ]
                refine wpAnyH_ready (rs := [1]) (by kernel_rfl) (by simp) ?_
                refine AllReadyH.cons (by simp only [List.getElem?_toArray, List.getElem?_cons_succ, List.getElem?_cons_zero]; rfl) (fun K hK => ?_) AllReadyH.nil
                go_simp
                refine CS.out.mono ?_
                rintro e wf ⟨vf, rfl, hof, hbf⟩
                have HLF := Lib.hid (HT1.out.below hw1 hbf)
                obtain ⟨p0, p1, p2, -, -, -, pl⟩ := kept3 HLF.out.box
                have H5 := Lib.hid (same_any s8.sn s8.sn vf (.slice o' s8.sn.dat.length c') wf (Rd.of_own hof) HLF.out.hx.rd)
                rw [sameB_self] at H5
                obtain ⟨of, cf, rfl, -, -⟩ := own_slice hof
                clear hof hbf
                unfold snV at *
                dsimp only
                refine hK.out _ _ ⟨p0, p1, p2⟩ (fun hHeld => ?_)
                clear hK K
                try simp only [Act.put, List.setIfInBounds_toArray, List.set_cons_zero, List.set_cons_succ]
                refine wpAnyH_ready (rs := [3]) (by kernel_rfl) (by simp) ?_
                refine AllReadyH.cons (by simp only [List.getElem?_toArray, List.getElem?_cons_succ, List.getElem?_cons_zero]; rfl) (fun K hK => ?_) AllReadyH.nil
                go_simp
                refine H5.out.mono ?_
                rintro e wg ⟨rfl, hbg⟩
                have HLG := Lib.hid (HLF.out.below hw1 hbg)
                obtain ⟨o0, o1, o2, -, -, -, ol⟩ := kept3 HLG.out.box
                clear hbg
                dsimp only
                refine hK.out _ _ ⟨o0, o1, o2⟩ (fun hHeld => ?_)
                clear hK K
                try simp only [Act.put, List.setIfInBounds_toArray, List.set_cons_zero, List.set_cons_succ]
                refine wpAnyH_take (i := 4) (v := ?_) (by simp only [List.getElem?_toArray, List.getElem?_cons_succ, List.getElem?_cons_zero]; rfl) (by kernel_rfl) (by kernel_rfl) (by kernel_rfl) (by intro _ _ _ h; exact h) (Or.inl ⟨by rfl, ?_⟩) (by assumption) ?_
                rotate_left
                · (intro w hSw; (try dsimp only at hSw); go_simp; try with_reducible rfl)
                try simp only [Act.put, List.setIfInBounds_toArray, List.set_cons_zero, List.set_cons_succ]
                refine wpAnyH_done (by kernel_rfl) ?_ _
                dsimp only [onlyN]
                have wm : IntKind.i64.wrap ((m : Int) + 1) = (m : Int) + 1 := IntWalk.i64_in _ (by omega)
                go_wp2_with fail
                go_roundw
                case rel => exact ⟨m + 1, St, R4, s8, o', c', by omega, by omega, by go_num, rfl, HLG.out⟩
                case measure => simp [intOf]; omega
              | cut hgt hnf c hfz hn3' hmost f =>
                obtain ⟨s8, he⟩ : ∃ s8, saveS s N = (12, s8) := ⟨(saveS s N).2, Prod.ext c rfl⟩
                rw [he] at f
                have HFL := Lib.hid (show Falls s8 s.sn N from f)
                clear c f hgt hnf hfz hn3' hmost
                have ho8 := save_ops 20000 s N HLC.out.sg.most (by omega)
                rw [he] at ho8
                dsimp only at ho8
                have H4 := Lib.hid (save_gen N (.slice o' N.dat.length c') wc HLC.out.at_ (HXC.out.sub fun kk hk => .inl (.inl hk)) hn1 hn2 (by omega) hops he)
                unfold snV at H4
                clear he
                have HOP := Lib.hid (show s8.d.ops ≤ 3000 * (m + 1) + 2100 by have := HLC.out.ops; omega)
                go_wp2_with fail
                refine H4.out.mono ?_
                rintro e wd ⟨rfl, ha4, hk4⟩
                have hnd := (hk4.block bx tl hnbx).trans hnc
                obtain ⟨y0, y1, y2, -, -, -, yl⟩ := kept3 hnd
                have hne := (hk4.block b8 (lt_of_block HNE.out) hnR8).trans HNE.out
                obtain ⟨e0, e1, e2, f0, f1, f2, el⟩ := kept3 hne
                have HTL := Lib.hid (TL.cut (n0 := N) (vo8 := o') (vc8 := c') hw1 ha4 ((hk4.block b5 (lt_of_block HLC.out.box) HLC.out.nb).trans HLC.out.box) (HX5.out.fr2 hk4) hne (HXC.out.fr2 hk4) ((hk4.block ba (lt_of_block HNA.out) hnRa).trans HNA.out)
                  (Fr.out HLC.out.nb (lt_of_block HLC.out.box)) (Fr.out hnR8 (lt_of_block HNE.out)) (Fr.out hnRa (lt_of_block HNA.out)) (Ne.symm hn85) (by omega) (Fr.ge HLC.out.ge HLC.out.low) (HLC.out.bel.trans (hk4.below (by have := HLC.out.low; omega) (fun k hk => by have := HLC.out.ge k hk; omega))) HLC.out.b5ge (by have := HL.out.low; omega) (by have := HLC.out.low; have := hk4.size; omega))
                generalize Fr R wc wd = R4 at *
                clear ha4 hk4 t0 t1 t2 H4 hnd hne
                go_upto_region 24 with fail
                generalize (((wd.setCell ⟨b8, 0, none⟩ (.int .u64 (N.ix : Int))).setCell ⟨b8, 1, none⟩ (.int .u64 (N.tm : Int))).setCell ⟨b8, 2, none⟩ (.slice o' N.dat.length c')) = we at *
                clear y0 y1 y2 e0 e1 e2 f0 f1 f2 el
                have bn := HBNN.out
                go_wp2_with fail
                go_loopw [11] (fun c wr => c = .int .i64 0 ∧ Hid (TL w w1 D T b5 b8 ba St R4 s8 s.sn N vo vc o' c' #[.int .u8 k, .int .u64 (ix : Int), .int .u64 (tm : Int), .slice po l.length pc, .int .u8 near, .int .u16 n, .slice ocv ncv ccv] wr)) (fun _ _ => 0)
                case atStart => exact ⟨rfl, HTL.out⟩
                case round =>
                  obtain ⟨rfl, HT⟩ := hrel
                  clear HTL
                  have q5 : wr.cell? ⟨ba, 5, none⟩ = some (.int .u16 n) := cellk (i := 5) HT.out.act rfl
                  have q6 : wr.cell? ⟨ba, 6, none⟩ = some (.slice ocv ncv ccv) := cellk (i := 6) HT.out.act rfl
                  have HR := Lib.hid (sat_restart (.slice ocv ncv ccv) cuts wr HT.out.at_ (HAT0.out.rc.below HT.out.bel) HCV.out)
                  go_wp2_with fail
                  refine HR.out.mono ?_
                  rintro e wA ⟨rfl, haA, hkA⟩
                  have HTA := Lib.hid (HT.out.new hw1 haA hkA)
                  generalize Fr R4 wr wA = RA at *
                  clear haA hkA HR q5 q6 HT
                  have q5 : wA.cell? ⟨ba, 5, none⟩ = some (.int .u16 n) := cellk (i := 5) HTA.out.act rfl
                  obtain ⟨kk, hkk⟩ : ∃ kk : Nat, n % 3 = (kk : Int) := ⟨(n % 3).toNat, by omega⟩
                  have hkt : Int.tmod n 3 = (kk : Int) := by rw [← hkk]; exact Int.tmod_eq_emod_of_nonneg hn0
                  have wn : IntKind.i64.wrap n = n := IntWalk.i64_in _ (by omega)
                  have HM := Lib.hid (sat_arm kk wA HTA.out.at_ (by omega))
                  go_wp2_with fail
                  refine HM.out.mono ?_
                  rintro e wB ⟨rfl, haB, hkB⟩
                  have HTB := Lib.hid (HTA.out.new hw1 haB hkB)
                  generalize Fr RA wA wB = RB at *
                  clear haB hkB HM q5 HTA
                  have HO := Lib.hid (sat_open wB HTB.out.at_ (by have := (HFL.out cuts).1.n; rw [opened_d] at this; exact this) rfl)
                  go_wp2_with fail
                  refine HO.out.mono ?_
                  rintro e wC ⟨St', rfl, haC, hbC⟩
                  rw [opened_fuse] at haC
                  have HTC := Lib.hid (HTB.out.new hw1 haC (kept_of_below hbC))
                  generalize Fr RB wB wC = RC at *
                  clear haC hbC HO HTB
                  have HM2 := Lib.hid (sat_arm 0 wC HTC.out.at_ (by omega))
                  go_wp2_with fail
                  refine HM2.out.mono ?_
                  rintro e wD ⟨rfl, haD, hkD⟩
                  have HTD := Lib.hid (HTC.out.new hw1 haD hkD)
                  generalize Fr RC wC wD = RD at *
                  clear haD hkD HM2 HTC
                  have hsg5 := (HFL.out cuts).1.armed 0
                  rw [opened_d] at hsg5
                  have hsn5 := (HFL.out cuts).2
                  have hop5 : (restartS s8.d cuts).ops ≤ 3000 * (m + 1 + 1) := by rw [restart_ops]; have := HOP.out; omega
                  obtain ⟨s5, hs5⟩ : ∃ s5, s5 = ({ opened (restartS s8.d cuts) with d := { restartS s8.d cuts with fuse := 0 } } : Ss) := ⟨_, rfl⟩
                  have HTE : Hid (TL w w1 D T b5 b8 ba St' RD s5 s.sn N vo vc o' c' #[.int .u8 k, .int .u64 (ix : Int), .int .u64 (tm : Int), .slice po l.length pc, .int .u8 near, .int .u16 n, .slice ocv ncv ccv] wD) := by rw [hs5]; exact HTD
                  have HSG5 := Lib.hid (show SG 20000 s5 by rw [hs5]; exact hsg5)
                  have HOP5 := Lib.hid (show s5.d.ops ≤ 3000 * (m + 1 + 1) by rw [hs5]; exact hop5)
                  have HSN6 := Lib.hid (show s5.sn = s.sn ∨ s5.sn = N by rw [hs5]; exact hsn5)
                  clear hs5 HTD hsg5 hop5 hsn5 HFL
                  obtain ⟨z0, z1, z2, -, -, -, zl⟩ := kept3 HTE.out.box5
                  obtain ⟨y0, y1, y2, -, -, -, yl⟩ := kept3 HTE.out.box8
                  go_wp2_with fail
                  have HT1 := Lib.hid (HTE.out.below hw1 (kept_draw wD))
                  have CS := Lib.hid (snap_any wD.drew HT1.out.at_)
                  by_cases hsame : s5.sn = s.sn
                  · have HSAME := Lib.hid hsame
                    clear hsame
                    refine wp_onlyN ?_
                    refine wp_region_held_drew (S := fun w' => w'.cell? ⟨b5, 0, none⟩ = some (.int .u64 (s.sn.ix : Int)) ∧ w'.cell? ⟨b5, 1, none⟩ = some (.int .u64 (s.sn.tm : Int)) ∧ w'.cell? ⟨b5, 2, none⟩ = some (.slice vo s.sn.dat.length vc) ∧ w'.cell? ⟨b8, 0, none⟩ = some (.int .u64 (N.ix : Int)) ∧ w'.cell? ⟨b8, 1, none⟩ = some (.int .u64 (N.tm : Int)) ∧ w'.cell? ⟨b8, 2, none⟩ = some (.slice o' N.dat.length c')) (by kernel_rfl) ⟨z0, z1, z2, y0, y1, y2⟩ ?_
                    intro hHeld
                    refine wpAnyH_take (i := 0) (v := ?_) (by simp only [List.getElem?_toArray, List.getElem?_cons_zero]; rfl) (by kernel_rfl) (by kernel_rfl) (by kernel_rfl) (by intro _ _ _ h; exact h) (Or.inl ⟨by rfl, ?_⟩) (by assumption) ?_
                    rotate_left
                    · (intro w hSw; (try dsimp only at hSw); go_simp; try with_reducible rfl)
                    try simp only [Act.put, List.setIfInBounds_toArray, List.set_cons_zero, List.set_cons_succ]
                    refine wpAnyH_take (i := 2) (v := ?_) (by simp only [List.getElem?_toArray, List.getElem?_cons_succ, List.getElem?_cons_zero]; rfl) (by kernel_rfl) (by kernel_rfl) (by kernel_rfl) (by intro _ _ _ h; exact h) (Or.inl ⟨by rfl, ?_⟩) (by assumption) ?_
                    rotate_left
                    · (intro w hSw; (try dsimp only at hSw); go_simp; try with_reducible rfl)
                    try simp only [Act.put, List.setIfInBounds_toArray, List.set_cons_zero, List.set_cons_succ]
                    refine wpAnyH_ready (rs := [1]) (by kernel_rfl) (by simp) ?_
                    refine AllReadyH.cons (by simp only [List.getElem?_toArray, List.getElem?_cons_succ, List.getElem?_cons_zero]; rfl) (fun K hK => ?_) AllReadyH.nil
                    go_simp
                    refine CS.out.mono ?_
                    rintro e wf ⟨vf, rfl, hof, hbf⟩
                    have HLF := Lib.hid (HT1.out.below hw1 hbf)
                    obtain ⟨p0, p1, p2, -, -, -, pl⟩ := kept3 HLF.out.box5
                    obtain ⟨o0, o1, o2, -, -, -, ol⟩ := kept3 HLF.out.box8
                    have H5 := Lib.hid (same_any s5.sn s.sn vf (.slice vo s.sn.dat.length vc) wf (Rd.of_own hof) HLF.out.hx5.rd)
                    rw [show sameB s5.sn s.sn = true from by rw [HSAME.out, sameB_self]] at H5
                    obtain ⟨of, cf, rfl, -, -⟩ := own_slice hof
                    clear hof hbf
                    unfold snV at *
                    dsimp only
                    refine hK.out _ _ ⟨p0, p1, p2, o0, o1, o2⟩ (fun hHeld => ?_)
                    clear hK K
                    try simp only [Act.put, List.setIfInBounds_toArray, List.set_cons_zero, List.set_cons_succ]
                    refine wpAnyH_ready (rs := [3]) (by kernel_rfl) (by simp) ?_
                    refine AllReadyH.cons (by simp only [List.getElem?_toArray, List.getElem?_cons_succ, List.getElem?_cons_zero]; rfl) (fun K hK => ?_) AllReadyH.nil
                    go_simp
                    refine H5.out.mono ?_
                    rintro e wg ⟨rfl, hbg⟩
                    have HLG := Lib.hid (HLF.out.below hw1 hbg)
                    obtain ⟨c0, c1, c2, -, -, -, cl⟩ := kept3 HLG.out.box5
                    obtain ⟨d0, d1, d2, -, -, -, dl⟩ := kept3 HLG.out.box8
                    clear hbg
                    dsimp only
                    refine hK.out _ _ ⟨c0, c1, c2, d0, d1, d2⟩ (fun hHeld => ?_)
                    clear hK K
                    try simp only [Act.put, List.setIfInBounds_toArray, List.set_cons_zero, List.set_cons_succ]
                    refine wpAnyH_take (i := 4) (v := ?_) (by simp only [List.getElem?_toArray, List.getElem?_cons_succ, List.getElem?_cons_zero]; rfl) (by kernel_rfl) (by kernel_rfl) (by kernel_rfl) (by intro _ _ _ h; exact h) (Or.inl ⟨by rfl, ?_⟩) (by assumption) ?_
                    rotate_left
                    · (intro w hSw; (try dsimp only at hSw); go_simp; try with_reducible rfl)
                    try simp only [Act.put, List.setIfInBounds_toArray, List.set_cons_zero, List.set_cons_succ]
                    refine wpAnyH_take (i := 5) (v := ?_) (by simp only [List.getElem?_toArray, List.getElem?_cons_succ, List.getElem?_cons_zero]; rfl) (by kernel_rfl) (by kernel_rfl) (by kernel_rfl) (by intro _ _ _ h; exact h) (Or.inl ⟨by rfl, ?_⟩) (by assumption) ?_
                    rotate_left
                    · (intro w hSw; (try dsimp only at hSw); go_simp; try with_reducible rfl)
                    try simp only [Act.put, List.setIfInBounds_toArray, List.set_cons_zero, List.set_cons_succ]
                    refine wpAnyH_take (i := 6) (v := undef) (by simp only [List.getElem?_toArray, List.getElem?_cons_succ, List.getElem?_cons_zero]; rfl) (by kernel_rfl) (by kernel_rfl) (by kernel_rfl) (by intro _ _ _ h; exact h) (Or.inr ⟨by rfl, rfl⟩) (by assumption) ?_
                    try simp only [Act.put, List.setIfInBounds_toArray, List.set_cons_zero, List.set_cons_succ]
                    refine wpAnyH_take (i := 7) (v := undef) (by simp only [List.getElem?_toArray, List.getElem?_cons_succ, List.getElem?_cons_zero]; rfl) (by kernel_rfl) (by kernel_rfl) (by kernel_rfl) (by intro _ _ _ h; exact h) (Or.inr ⟨by rfl, rfl⟩) (by assumption) ?_
                    try simp only [Act.put, List.setIfInBounds_toArray, List.set_cons_zero, List.set_cons_succ]
                    refine wpAnyH_take (i := 8) (v := undef) (by simp only [List.getElem?_toArray, List.getElem?_cons_succ, List.getElem?_cons_zero]; rfl) (by kernel_rfl) (by kernel_rfl) (by kernel_rfl) (by intro _ _ _ h; exact h) (Or.inr ⟨by rfl, rfl⟩) (by assumption) ?_
                    try simp only [Act.put, List.setIfInBounds_toArray, List.set_cons_zero, List.set_cons_succ]
                    refine wpAnyH_take (i := 9) (v := undef) (by simp only [List.getElem?_toArray, List.getElem?_cons_succ, List.getElem?_cons_zero]; rfl) (by kernel_rfl) (by kernel_rfl) (by kernel_rfl) (by intro _ _ _ h; exact h) (Or.inr ⟨by rfl, rfl⟩) (by assumption) ?_
                    try simp only [Act.put, List.setIfInBounds_toArray, List.set_cons_zero, List.set_cons_succ]
                    refine wpAnyH_take (i := 10) (v := undef) (by simp only [List.getElem?_toArray, List.getElem?_cons_succ, List.getElem?_cons_zero]; rfl) (by kernel_rfl) (by kernel_rfl) (by kernel_rfl) (by intro _ _ _ h; exact h) (Or.inr ⟨by rfl, rfl⟩) (by assumption) ?_
                    try simp only [Act.put, List.setIfInBounds_toArray, List.set_cons_zero, List.set_cons_succ]
                    refine wpAnyH_take (i := 11) (v := ?_) (by simp only [List.getElem?_toArray, List.getElem?_cons_succ, List.getElem?_cons_zero]; rfl) (by kernel_rfl) (by kernel_rfl) (by kernel_rfl) (by intro _ _ _ h; exact h) (Or.inl ⟨by rfl, ?_⟩) (by assumption) ?_
                    rotate_left
                    · (intro w hSw; (try dsimp only at hSw); go_simp; try with_reducible rfl)
                    try simp only [Act.put, List.setIfInBounds_toArray, List.set_cons_zero, List.set_cons_succ]
                    refine wpAnyH_done (by kernel_rfl) ?_ _
                    dsimp only [onlyN]
                    have HSN := Lib.hid (snap_any wg HLG.out.at_)
                    go_wp2_with fail
                    refine HSN.out.mono ?_
                    rintro e wh ⟨vh, rfl, hoh, hbh⟩
                    obtain ⟨oh, ch, rfl, -, -⟩ := own_slice hoh
                    have HTH := Lib.hid (HLG.out.below hw1 hbh)
                    have hcl := CL.set (m := m + 1) (D := D) (T := T) HTH.out.at_ HSG5.out HOP5.out HTH.out.nb5 HTH.out.ge HTH.out.bel HTH.out.b5ge HTH.out.low hw1 HTH.out.box5 (Hx.own hoh (fun g hg hR => by
                      have h1 := (hoh.lt g hg).1
                      rcases hR with hR | hR
                      · have := HLG.out.at_.lt g hR; omega
                      · have := lt_of_block HLG.out.box5; omega))
                    obtain ⟨z0, z1, z2, fz0, fz1, fz2, zl⟩ := kept3 HTH.out.box5
                    have HCL := Lib.hid hcl
                    clear HSN hoh hbh hcl HTE HT1 CS
                    unfold snV
                    go_upto_region 44 with fail
                    generalize (((wh.setCell ⟨b5, 0, none⟩ (.int .u64 (s5.sn.ix : Int))).setCell ⟨b5, 1, none⟩ (.int .u64 (s5.sn.tm : Int))).setCell ⟨b5, 2, none⟩ (.slice oh s5.sn.dat.length ch)) = wi at *
                    clear z0 z1 z2 fz0 fz1 fz2 zl HTH
                    obtain ⟨z0, z1, z2, -, -, -, zl⟩ := kept3 HCL.out.box
                    have HT1 := Lib.hid ((HCL.out).drew hw1)
                    have CS := Lib.hid (snap_any wi.drew HT1.out.at_)
                    refine wp_onlyN ?_
                    refine wp_region_held_drew (S := fun w' => w'.cell? ⟨b5, 0, none⟩ = some (.int .u64 (s5.sn.ix : Int)) ∧ w'.cell? ⟨b5, 1, none⟩ = some (.int .u64 (s5.sn.tm : Int)) ∧ w'.cell? ⟨b5, 2, none⟩ = some (.slice oh s5.sn.dat.length ch)) (by kernel_rfl) ⟨z0, z1, z2⟩ ?_
                    intro hHeld
                    refine wpAnyH_take (i := 0) (v := ?_) (by simp only [List.getElem?_toArray, List.getElem?_cons_zero]; rfl) (by kernel_rfl) (by kernel_rfl) (by kernel_rfl) (by intro _ _ _ h; exact h) (Or.inl ⟨by rfl, ?_⟩) (by assumption) ?_
                    rotate_left
                    · (intro w hSw; (try dsimp only at hSw); go_simp; try with_reducible rfl)
                    try simp only [Act.put, List.setIfInBounds_toArray, List.set_cons_zero, List.set_cons_succ]
                    refine wpAnyH_take (i := 2) (v := ?_) (by simp only [List.getElem?_toArray, List.getElem?_cons_succ, List.getElem?_cons_zero]; rfl) (by kernel_rfl) (by kernel_rfl) (by kernel_rfl) (by intro _ _ _ h; exact h) (Or.inl ⟨by rfl, ?_⟩) (by assumption) ?_
                    rotate_left
                    · (intro w hSw; (try dsimp only at hSw); go_simp; try with_reducible rfl)
                    try simp only [Act.put, List.setIfInBounds_toArray, List.set_cons_zero, List.set_cons_succ]
                    refine wpAnyH_ready (rs := [1]) (by kernel_rfl) (by simp) ?_
                    refine AllReadyH.cons (by simp only [List.getElem?_toArray, List.getElem?_cons_succ, List.getElem?_cons_zero]; rfl) (fun K hK => ?_) AllReadyH.nil
                    go_simp
                    refine CS.out.mono ?_
                    rintro e wf ⟨vf, rfl, hof, hbf⟩
                    have HLF := Lib.hid (HT1.out.below hw1 hbf)
                    obtain ⟨p0, p1, p2, -, -, -, pl⟩ := kept3 HLF.out.box
                    have H5 := Lib.hid (same_any s5.sn s5.sn vf (.slice oh s5.sn.dat.length ch) wf (Rd.of_own hof) HLF.out.hx.rd)
                    rw [sameB_self] at H5
                    obtain ⟨of, cf, rfl, -, -⟩ := own_slice hof
                    clear hof hbf
                    unfold snV at *
                    dsimp only
                    refine hK.out _ _ ⟨p0, p1, p2⟩ (fun hHeld => ?_)
                    clear hK K
                    try simp only [Act.put, List.setIfInBounds_toArray, List.set_cons_zero, List.set_cons_succ]
                    refine wpAnyH_ready (rs := [3]) (by kernel_rfl) (by simp) ?_
                    refine AllReadyH.cons (by simp only [List.getElem?_toArray, List.getElem?_cons_succ, List.getElem?_cons_zero]; rfl) (fun K hK => ?_) AllReadyH.nil
                    go_simp
                    refine H5.out.mono ?_
                    rintro e wg ⟨rfl, hbg⟩
                    have HLG := Lib.hid (HLF.out.below hw1 hbg)
                    obtain ⟨o0, o1, o2, -, -, -, ol⟩ := kept3 HLG.out.box
                    clear hbg
                    dsimp only
                    refine hK.out _ _ ⟨o0, o1, o2⟩ (fun hHeld => ?_)
                    clear hK K
                    try simp only [Act.put, List.setIfInBounds_toArray, List.set_cons_zero, List.set_cons_succ]
                    refine wpAnyH_take (i := 4) (v := ?_) (by simp only [List.getElem?_toArray, List.getElem?_cons_succ, List.getElem?_cons_zero]; rfl) (by kernel_rfl) (by kernel_rfl) (by kernel_rfl) (by intro _ _ _ h; exact h) (Or.inl ⟨by rfl, ?_⟩) (by assumption) ?_
                    rotate_left
                    · (intro w hSw; (try dsimp only at hSw); go_simp; try with_reducible rfl)
                    try simp only [Act.put, List.setIfInBounds_toArray, List.set_cons_zero, List.set_cons_succ]
                    refine wpAnyH_done (by kernel_rfl) ?_ _
                    dsimp only [onlyN]
                    have wm : IntKind.i64.wrap ((m : Int) + 1) = (m : Int) + 1 := IntWalk.i64_in _ (by omega)
                    go_wp2_with fail
                    go_roundw
                    case rel => exact ⟨m + 1, St', RD, s5, oh, ch, by omega, by omega, by go_num, rfl, HLG.out⟩
                    case measure => simp [intOf]; omega
                  · have HSN7 := Lib.hid (HSN6.out.resolve_left hsame)
                    have HSAME := Lib.hid hsame
                    clear hsame
                    refine wp_onlyN ?_
                    refine wp_region_held_drew (S := fun w' => w'.cell? ⟨b5, 0, none⟩ = some (.int .u64 (s.sn.ix : Int)) ∧ w'.cell? ⟨b5, 1, none⟩ = some (.int .u64 (s.sn.tm : Int)) ∧ w'.cell? ⟨b5, 2, none⟩ = some (.slice vo s.sn.dat.length vc) ∧ w'.cell? ⟨b8, 0, none⟩ = some (.int .u64 (N.ix : Int)) ∧ w'.cell? ⟨b8, 1, none⟩ = some (.int .u64 (N.tm : Int)) ∧ w'.cell? ⟨b8, 2, none⟩ = some (.slice o' N.dat.length c')) (by kernel_rfl) ⟨z0, z1, z2, y0, y1, y2⟩ ?_
                    intro hHeld
                    refine wpAnyH_take (i := 0) (v := ?_) (by simp only [List.getElem?_toArray, List.getElem?_cons_zero]; rfl) (by kernel_rfl) (by kernel_rfl) (by kernel_rfl) (by intro _ _ _ h; exact h) (Or.inl ⟨by rfl, ?_⟩) (by assumption) ?_
                    rotate_left
                    · (intro w hSw; (try dsimp only at hSw); go_simp; try with_reducible rfl)
                    try simp only [Act.put, List.setIfInBounds_toArray, List.set_cons_zero, List.set_cons_succ]
                    refine wpAnyH_take (i := 2) (v := ?_) (by simp only [List.getElem?_toArray, List.getElem?_cons_succ, List.getElem?_cons_zero]; rfl) (by kernel_rfl) (by kernel_rfl) (by kernel_rfl) (by intro _ _ _ h; exact h) (Or.inl ⟨by rfl, ?_⟩) (by assumption) ?_
                    rotate_left
                    · (intro w hSw; (try dsimp only at hSw); go_simp; try with_reducible rfl)
                    try simp only [Act.put, List.setIfInBounds_toArray, List.set_cons_zero, List.set_cons_succ]
                    refine wpAnyH_ready (rs := [1]) (by kernel_rfl) (by simp) ?_
                    refine AllReadyH.cons (by simp only [List.getElem?_toArray, List.getElem?_cons_succ, List.getElem?_cons_zero]; rfl) (fun K hK => ?_) AllReadyH.nil
                    go_simp
                    refine CS.out.mono ?_
                    rintro e wf ⟨vf, rfl, hof, hbf⟩
                    have HLF := Lib.hid (HT1.out.below hw1 hbf)
                    obtain ⟨p0, p1, p2, -, -, -, pl⟩ := kept3 HLF.out.box5
                    obtain ⟨o0, o1, o2, -, -, -, ol⟩ := kept3 HLF.out.box8
                    have H5 := Lib.hid (same_any s5.sn s.sn vf (.slice vo s.sn.dat.length vc) wf (Rd.of_own hof) HLF.out.hx5.rd)
                    rw [show sameB s5.sn s.sn = false from sameB_ne HSAME.out] at H5
                    obtain ⟨of, cf, rfl, -, -⟩ := own_slice hof
                    clear hof hbf
                    unfold snV at *
                    dsimp only
                    refine hK.out _ _ ⟨p0, p1, p2, o0, o1, o2⟩ (fun hHeld => ?_)
                    clear hK K
                    try simp only [Act.put, List.setIfInBounds_toArray, List.set_cons_zero, List.set_cons_succ]
                    refine wpAnyH_ready (rs := [3]) (by kernel_rfl) (by simp) ?_
                    refine AllReadyH.cons (by simp only [List.getElem?_toArray, List.getElem?_cons_succ, List.getElem?_cons_zero]; rfl) (fun K hK => ?_) AllReadyH.nil
                    go_simp
                    refine H5.out.mono ?_
                    rintro e wg ⟨rfl, hbg⟩
                    have HLG := Lib.hid (HLF.out.below hw1 hbg)
                    obtain ⟨c0, c1, c2, -, -, -, cl⟩ := kept3 HLG.out.box5
                    obtain ⟨d0, d1, d2, -, -, -, dl⟩ := kept3 HLG.out.box8
                    clear hbg
                    have CS2 := Lib.hid (snap_any wg HLG.out.at_)
                    dsimp only
                    refine hK.out _ _ ⟨c0, c1, c2, d0, d1, d2⟩ (fun hHeld => ?_)
                    clear hK K
                    try simp only [Act.put, List.setIfInBounds_toArray, List.set_cons_zero, List.set_cons_succ]
                    refine wpAnyH_take (i := 4) (v := ?_) (by simp only [List.getElem?_toArray, List.getElem?_cons_succ, List.getElem?_cons_zero]; rfl) (by kernel_rfl) (by kernel_rfl) (by kernel_rfl) (by intro _ _ _ h; exact h) (Or.inl ⟨by rfl, ?_⟩) (by assumption) ?_
                    rotate_left
                    · (intro w hSw; (try dsimp only at hSw); go_simp; try with_reducible rfl)
                    try simp only [Act.put, List.setIfInBounds_toArray, List.set_cons_zero, List.set_cons_succ]
                    refine wpAnyH_take (i := 5) (v := ?_) (by simp only [List.getElem?_toArray, List.getElem?_cons_succ, List.getElem?_cons_zero]; rfl) (by kernel_rfl) (by kernel_rfl) (by kernel_rfl) (by intro _ _ _ h; exact h) (Or.inl ⟨by rfl, ?_⟩) (by assumption) ?_
                    rotate_left
                    · (intro w hSw; (try dsimp only at hSw); go_simp; try with_reducible rfl)
                    try simp only [Act.put, List.setIfInBounds_toArray, List.set_cons_zero, List.set_cons_succ]
                    refine wpAnyH_take (i := 6) (v := ?_) (by simp only [List.getElem?_toArray, List.getElem?_cons_succ, List.getElem?_cons_zero]; rfl) (by kernel_rfl) (by kernel_rfl) (by kernel_rfl) (by intro _ _ _ h; exact h) (Or.inl ⟨by rfl, ?_⟩) (by assumption) ?_
                    rotate_left
                    · (intro w hSw; (try dsimp only at hSw); go_simp; try with_reducible rfl)
                    try simp only [Act.put, List.setIfInBounds_toArray, List.set_cons_zero, List.set_cons_succ]
                    refine wpAnyH_take (i := 8) (v := ?_) (by simp only [List.getElem?_toArray, List.getElem?_cons_succ, List.getElem?_cons_zero]; rfl) (by kernel_rfl) (by kernel_rfl) (by kernel_rfl) (by intro _ _ _ h; exact h) (Or.inl ⟨by rfl, ?_⟩) (by assumption) ?_
                    rotate_left
                    · (intro w hSw; (try dsimp only at hSw); go_simp; try with_reducible rfl)
                    try simp only [Act.put, List.setIfInBounds_toArray, List.set_cons_zero, List.set_cons_succ]
                    refine wpAnyH_ready (rs := [7]) (by kernel_rfl) (by simp) ?_
                    refine AllReadyH.cons (by simp only [List.getElem?_toArray, List.getElem?_cons_succ, List.getElem?_cons_zero]; rfl) (fun K hK => ?_) AllReadyH.nil
                    go_simp
                    refine CS2.out.mono ?_
                    rintro e wf2 ⟨vf2, rfl, hof, hbf⟩
                    have HLH := Lib.hid (HLG.out.below hw1 hbf)
                    obtain ⟨p'0, p'1, p'2, -, -, -, p'l⟩ := kept3 HLH.out.box5
                    obtain ⟨o'0, o'1, o'2, -, -, -, o'l⟩ := kept3 HLH.out.box8
                    have H52 := Lib.hid (same_any s5.sn N vf2 (.slice o' N.dat.length c') wf2 (Rd.of_own hof) HLH.out.hx8.rd)
                    rw [show sameB s5.sn N = true from by rw [HSN7.out, sameB_self]] at H52
                    obtain ⟨of2, cf2, rfl, -, -⟩ := own_slice hof
                    clear hof hbf
                    unfold snV at *
                    dsimp only
                    refine hK.out _ _ ⟨p'0, p'1, p'2, o'0, o'1, o'2⟩ (fun hHeld => ?_)
                    clear hK K
                    try simp only [Act.put, List.setIfInBounds_toArray, List.set_cons_zero, List.set_cons_succ]
                    refine wpAnyH_ready (rs := [9]) (by kernel_rfl) (by simp) ?_
                    refine AllReadyH.cons (by simp only [List.getElem?_toArray, List.getElem?_cons_succ, List.getElem?_cons_zero]; rfl) (fun K hK => ?_) AllReadyH.nil
                    go_simp
                    refine H52.out.mono ?_
                    rintro e wg2 ⟨rfl, hbg⟩
                    have HLI := Lib.hid (HLH.out.below hw1 hbg)
                    obtain ⟨c'0, c'1, c'2, -, -, -, c'l⟩ := kept3 HLI.out.box5
                    obtain ⟨d'0, d'1, d'2, -, -, -, d'l⟩ := kept3 HLI.out.box8
                    clear hbg
                    dsimp only
                    refine hK.out _ _ ⟨c'0, c'1, c'2, d'0, d'1, d'2⟩ (fun hHeld => ?_)
                    clear hK K
                    try simp only [Act.put, List.setIfInBounds_toArray, List.set_cons_zero, List.set_cons_succ]
                    refine wpAnyH_take (i := 10) (v := ?_) (by simp only [List.getElem?_toArray, List.getElem?_cons_succ, List.getElem?_cons_zero]; rfl) (by kernel_rfl) (by kernel_rfl) (by kernel_rfl) (by intro _ _ _ h; exact h) (Or.inl ⟨by rfl, ?_⟩) (by assumption) ?_
                    rotate_left
                    · (intro w hSw; (try dsimp only at hSw); go_simp; try with_reducible rfl)
                    try simp only [Act.put, List.setIfInBounds_toArray, List.set_cons_zero, List.set_cons_succ]
                    refine wpAnyH_take (i := 11) (v := ?_) (by simp only [List.getElem?_toArray, List.getElem?_cons_succ, List.getElem?_cons_zero]; rfl) (by kernel_rfl) (by kernel_rfl) (by kernel_rfl) (by intro _ _ _ h; exact h) (Or.inl ⟨by rfl, ?_⟩) (by assumption) ?_
                    rotate_left
                    · (intro w hSw; (try dsimp only at hSw); go_simp; try with_reducible rfl)
                    try simp only [Act.put, List.setIfInBounds_toArray, List.set_cons_zero, List.set_cons_succ]
                    refine wpAnyH_done (by kernel_rfl) ?_ _
                    dsimp only [onlyN]
                    have HSN := Lib.hid (snap_any wg2 HLI.out.at_)
                    go_wp2_with fail
                    refine HSN.out.mono ?_
                    rintro e wh ⟨vh, rfl, hoh, hbh⟩
                    obtain ⟨oh, ch, rfl, -, -⟩ := own_slice hoh
                    have HTH := Lib.hid (HLI.out.below hw1 hbh)
                    have hcl := CL.set (m := m + 1) (D := D) (T := T) HTH.out.at_ HSG5.out HOP5.out HTH.out.nb5 HTH.out.ge HTH.out.bel HTH.out.b5ge HTH.out.low hw1 HTH.out.box5 (Hx.own hoh (fun g hg hR => by
                      have h1 := (hoh.lt g hg).1
                      rcases hR with hR | hR
                      · have := HLI.out.at_.lt g hR; omega
                      · have := lt_of_block HLI.out.box5; omega))
                    obtain ⟨z0, z1, z2, fz0, fz1, fz2, zl⟩ := kept3 HTH.out.box5
                    have HCL := Lib.hid hcl
                    clear HSN hoh hbh hcl HTE HT1 CS
                    unfold snV
                    go_upto_region 44 with fail
                    generalize (((wh.setCell ⟨b5, 0, none⟩ (.int .u64 (s5.sn.ix : Int))).setCell ⟨b5, 1, none⟩ (.int .u64 (s5.sn.tm : Int))).setCell ⟨b5, 2, none⟩ (.slice oh s5.sn.dat.length ch)) = wi at *
                    clear z0 z1 z2 fz0 fz1 fz2 zl HTH
                    obtain ⟨z0, z1, z2, -, -, -, zl⟩ := kept3 HCL.out.box
                    have HT1 := Lib.hid ((HCL.out).drew hw1)
                    have CS := Lib.hid (snap_any wi.drew HT1.out.at_)
                    refine wp_onlyN ?_
                    refine wp_region_held_drew (S := fun w' => w'.cell? ⟨b5, 0, none⟩ = some (.int .u64 (s5.sn.ix : Int)) ∧ w'.cell? ⟨b5, 1, none⟩ = some (.int .u64 (s5.sn.tm : Int)) ∧ w'.cell? ⟨b5, 2, none⟩ = some (.slice oh s5.sn.dat.length ch)) (by kernel_rfl) ⟨z0, z1, z2⟩ ?_
                    intro hHeld
                    refine wpAnyH_take (i := 0) (v := ?_) (by simp only [List.getElem?_toArray, List.getElem?_cons_zero]; rfl) (by kernel_rfl) (by kernel_rfl) (by kernel_rfl) (by intro _ _ _ h; exact h) (Or.inl ⟨by rfl, ?_⟩) (by assumption) ?_
                    rotate_left
                    · (intro w hSw; (try dsimp only at hSw); go_simp; try with_reducible rfl)
                    try simp only [Act.put, List.setIfInBounds_toArray, List.set_cons_zero, List.set_cons_succ]
                    refine wpAnyH_take (i := 2) (v := ?_) (by simp only [List.getElem?_toArray, List.getElem?_cons_succ, List.getElem?_cons_zero]; rfl) (by kernel_rfl) (by kernel_rfl) (by kernel_rfl) (by intro _ _ _ h; exact h) (Or.inl ⟨by rfl, ?_⟩) (by assumption) ?_
                    rotate_left
                    · (intro w hSw; (try dsimp only at hSw); go_simp; try with_reducible rfl)
                    try simp only [Act.put, List.setIfInBounds_toArray, List.set_cons_zero, List.set_cons_succ]
                    refine wpAnyH_ready (rs := [1]) (by kernel_rfl) (by simp) ?_
                    refine AllReadyH.cons (by simp only [List.getElem?_toArray, List.getElem?_cons_succ, List.getElem?_cons_zero]; rfl) (fun K hK => ?_) AllReadyH.nil
                    go_simp
                    refine CS.out.mono ?_
                    rintro e wf ⟨vf, rfl, hof, hbf⟩
                    have HLF := Lib.hid (HT1.out.below hw1 hbf)
                    obtain ⟨p0, p1, p2, -, -, -, pl⟩ := kept3 HLF.out.box
                    have H5 := Lib.hid (same_any s5.sn s5.sn vf (.slice oh s5.sn.dat.length ch) wf (Rd.of_own hof) HLF.out.hx.rd)
                    rw [sameB_self] at H5
                    obtain ⟨of, cf, rfl, -, -⟩ := own_slice hof
                    clear hof hbf
                    unfold snV at *
                    dsimp only
                    refine hK.out _ _ ⟨p0, p1, p2⟩ (fun hHeld => ?_)
                    clear hK K
                    try simp only [Act.put, List.setIfInBounds_toArray, List.set_cons_zero, List.set_cons_succ]
                    refine wpAnyH_ready (rs := [3]) (by kernel_rfl) (by simp) ?_
                    refine AllReadyH.cons (by simp only [List.getElem?_toArray, List.getElem?_cons_succ, List.getElem?_cons_zero]; rfl) (fun K hK => ?_) AllReadyH.nil
                    go_simp
                    refine H5.out.mono ?_
                    rintro e wg ⟨rfl, hbg⟩
                    have HLG := Lib.hid (HLF.out.below hw1 hbg)
                    obtain ⟨o0, o1, o2, -, -, -, ol⟩ := kept3 HLG.out.box
                    clear hbg
                    dsimp only
                    refine hK.out _ _ ⟨o0, o1, o2⟩ (fun hHeld => ?_)
                    clear hK K
                    try simp only [Act.put, List.setIfInBounds_toArray, List.set_cons_zero, List.set_cons_succ]
                    refine wpAnyH_take (i := 4) (v := ?_) (by simp only [List.getElem?_toArray, List.getElem?_cons_succ, List.getElem?_cons_zero]; rfl) (by kernel_rfl) (by kernel_rfl) (by kernel_rfl) (by intro _ _ _ h; exact h) (Or.inl ⟨by rfl, ?_⟩) (by assumption) ?_
                    rotate_left
                    · (intro w hSw; (try dsimp only at hSw); go_simp; try with_reducible rfl)
                    try simp only [Act.put, List.setIfInBounds_toArray, List.set_cons_zero, List.set_cons_succ]
                    refine wpAnyH_done (by kernel_rfl) ?_ _
                    dsimp only [onlyN]
                    have wm : IntKind.i64.wrap ((m : Int) + 1) = (m : Int) + 1 := IntWalk.i64_in _ (by omega)
                    go_wp2_with fail
                    go_roundw
                    case rel => exact ⟨m + 1, St', RD, s5, oh, ch, by omega, by omega, by go_num, rfl, HLG.out⟩
                    case measure => simp [intOf]; omega
    · by_cases h1 : m < acts.length
      · have i1 : (m : Int) < (acts.length : Int) := by omega
        have i2 : ¬ (m : Int) < 30 := by omega
        have HB := Lib.hid HL.out.bel
        clear HL
        go_wp2_with fail
        go_ret
        exact ⟨rfl, HB.out⟩
      · have i1 : ¬ (m : Int) < (acts.length : Int) := by omega
        have HB := Lib.hid HL.out.bel
        clear HL
        go_wp2_with fail
        go_ret
        exact ⟨rfl, HB.out⟩
end Go.Proofs.Ytonahfpnlaolpaa
