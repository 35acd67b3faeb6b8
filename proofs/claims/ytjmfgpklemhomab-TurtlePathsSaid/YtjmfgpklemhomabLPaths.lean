/- The law of paths: where the turtle stood, and looks, the least rectangle about that, the area. -/
import Derived.Test.YtjmfgpklemhomabTurN
import Derived.IntWalk
namespace Go.Proofs.Ytjmfgpklemhomab
open Go.RowKit TurF TurP

/-- Half of a new corner. -/
def half (t : Nat) (a b : Pt) : Pt := (if 0 < t then b.1 else a.1, if 1 < t then b.2 else a.2)
theorem half0 (a b : Pt) : half 0 a b = a := rfl
theorem half2 (a b : Pt) : half 2 a b = b := rfl

/-- Two corners in two blocks, one behind the other. -/
structure BoxP (W0 : World) (n : Nat) (wr : World) (lo hi : Pt) : Prop where
  lo : wr.heap[n]? = some (.cells #[.int .i64 lo.1, .int .i64 lo.2] 37 (0, 0))
  hi : wr.heap[n + 1]? = some (.cells #[.int .i64 hi.1, .int .i64 hi.2] 37 (0, 0))
  below : Below n W0 wr

theorem BoxP.drewN {W0 wr : World} {n : Nat} {lo hi : Pt} (h : BoxP W0 n wr lo hi) (k : Nat) : BoxP W0 n (wr.drewN k) lo hi := ⟨h.lo, h.hi, below_drewN h.below k⟩
theorem BoxP.lo0 {W0 wr : World} {n : Nat} {lo hi : Pt} (h : BoxP W0 n wr lo hi) (x : Int) : BoxP W0 n (wr.setCell ⟨n, 0, none⟩ (.int .i64 x)) (x, lo.2) hi :=
  ⟨at_setCell h.lo, (Below.heap_setCell _ _ _ _ (by simp)).trans h.hi, h.below.setCell (by simp) _⟩
theorem BoxP.lo1 {W0 wr : World} {n : Nat} {lo hi : Pt} (h : BoxP W0 n wr lo hi) (x : Int) : BoxP W0 n (wr.setCell ⟨n, 1, none⟩ (.int .i64 x)) (lo.1, x) hi :=
  ⟨at_setCell h.lo, (Below.heap_setCell _ _ _ _ (by simp)).trans h.hi, h.below.setCell (by simp) _⟩
theorem BoxP.hi0 {W0 wr : World} {n : Nat} {lo hi : Pt} (h : BoxP W0 n wr lo hi) (x : Int) : BoxP W0 n (wr.setCell ⟨n + 1, 0, none⟩ (.int .i64 x)) lo (x, hi.2) :=
  ⟨(Below.heap_setCell _ _ _ _ (by simp)).trans h.lo, at_setCell h.hi, h.below.setCell (by simp) _⟩
theorem BoxP.hi1 {W0 wr : World} {n : Nat} {lo hi : Pt} (h : BoxP W0 n wr lo hi) (x : Int) : BoxP W0 n (wr.setCell ⟨n + 1, 1, none⟩ (.int .i64 x)) lo (hi.1, x) :=
  ⟨(Below.heap_setCell _ _ _ _ (by simp)).trans h.lo, at_setCell h.hi, h.below.setCell (by simp) _⟩

theorem wrap_eq (n : Int) : IntKind.i64.wrap n = wrap64 n := by
  rw [IntKind.wrap_i64]; unfold wrap64; rfl

theorem along_take (P : List Pt) (k : Nat) (h : k + 1 < P.length) : along (P.take (k + 2)) = along (P.take (k + 1)) + cross P[k] P[k + 1] := by
  rw [List.take_succ_eq_append_getElem h, List.take_succ_eq_append_getElem (by omega : k < P.length), along_snoc]

theorem along_at (P : List Pt) (j : Nat) (h0 : 0 < j) (h : j < P.length) : along (P.take (j + 1)) = along (P.take j) + cross (P[j - 1]'(by omega)) P[j] := by
  obtain ⟨t, rfl⟩ : ∃ t, j = t + 1 := ⟨j - 1, by omega⟩
  exact along_take P t h
theorem along_one (P : List Pt) : along (P.take 1) = 0 := by rcases P with _ | ⟨p, P⟩ <;> rfl

/-- Places read at their index, where all below block n is as it was. -/
theorem at_under {w w' : World} {g i n : Nat} {ps : List Pt} {p : Pt} (h : Hid (∀ j p, ps[j]? = some p → w.cell? ⟨g, j * 2, none⟩ = some (.int .i64 p.1) ∧ w.cell? ⟨g, j * 2 + 1, none⟩ = some (.int .i64 p.2))) (hg : g < n) (hs : Below n w w') (hi : ps[i]? = some p) :
    w'.cell? ⟨g, i * 2, none⟩ = some (.int .i64 p.1) ∧ w'.cell? ⟨g, i * 2 + 1, none⟩ = some (.int .i64 p.2) := by
  obtain ⟨c1, c2⟩ := h.out i p hi
  exact ⟨(hs.cell (p := ⟨g, i * 2, none⟩) hg).trans c1, (hs.cell (p := ⟨g, i * 2 + 1, none⟩) hg).trans c2⟩

theorem boxP_start (w6 : World) (d : Pt) : BoxP (w6.alloc (.cells #[.int .i64 d.1, .int .i64 d.2] 37)) (w6.heap.size + 1) (((w6.alloc (.cells #[.int .i64 d.1, .int .i64 d.2] 37)).alloc (.cells #[.int .i64 0, .int .i64 0] 37)).alloc (.cells #[.int .i64 0, .int .i64 0] 37)) (0, 0) (0, 0) := by
  generalize hW : w6.alloc (.cells #[.int .i64 d.1, .int .i64 d.2] 37) = W
  have e : w6.heap.size + 1 = W.heap.size := by rw [← hW]; simp
  rw [e]
  refine ⟨(Below.heap_alloc _ _ _ (by simp)).trans (heap_alloc_new W _), ?_, ((Below.refl _ W).alloc (Nat.le_refl _) _).alloc (by simp) _⟩
  have := heap_alloc_new (W.alloc (.cells #[.int .i64 0, .int .i64 0] 37)) (.cells #[.int .i64 0, .int .i64 0] 37)
  simpa using this

set_option maxHeartbeats 4000000 in
set_option maxRecDepth 200000 in
theorem paths_good (v : Value) (l : List Mv) (w : World) (h : RdM w v l) (he : err l = 0) (hlong : ¬ 1000 < l.length) (hfar : l.any far = false) :
    Calls Try.prog 3 #[v] w fun e w' => e = .returned (.bool true) ∧ Below w.heap.size w w' := by
  obtain ⟨o, c, rfl⟩ := h.form
  have hd : decide (2000 < (l.length : Int)) = false := by simp; omega
  have HR0 := Lib.hid h
  have HE0 := Lib.hid he
  have eq := eqPlace
  clear h he
  go_enter Try.func3, Try.ntmps3
  go_wp2_with fail
  refine (awake w).mono ?_
  rintro e w1 ⟨rfl, hb1⟩
  have HR1 := Lib.hid (HR0.out.below hb1 (Nat.le_refl _))
  have B1 := Lib.hid hb1
  clear hb1 HR0
  go_wp2_with fail
  refine (path_good _ l w1 HR1.out hlong hfar).mono ?_
  rintro e w2 ⟨p, rfl, hp2, hb2⟩
  have HR2 := Lib.hid (HR1.out.below hb2 (Nat.le_refl _))
  have HP2 := Lib.hid hp2
  have B2 := Lib.hid (B1.out.trans (hb2.mono B1.out.size))
  clear hb2 HR1 B1 hp2
  go_wp2_with fail
  refine (look_good _ l w2 HR2.out hlong hfar).mono ?_
  rintro e w3 ⟨h3, hb3⟩
  unfold LGood at h3
  subst h3
  have hb3a := hb3.alloc hb3.size (.cells #[.int .i64 (run l).look.1, .int .i64 (run l).look.2] 29)
  have HR3 := Lib.hid (HR2.out.below hb3a (Nat.le_refl _))
  have HP3 := Lib.hid (HP2.out.below hb3a (Nat.le_refl _))
  have B3 := Lib.hid (B2.out.trans (hb3a.mono B2.out.size))
  have K3 := Lib.hid (heap_alloc_new w3 (.cells #[.int .i64 (run l).look.1, .int .i64 (run l).look.2] 29))
  clear hb3 hb3a HR2 B2 HP2
  go_wp2_with fail
  refine (box_good _ l _ HR3.out hlong hfar).mono ?_
  rintro e w4 ⟨h4, hb4⟩
  unfold BGood at h4
  subst h4
  have s4 := hb4.size
  simp at s4
  have hb4a := (hb4.alloc hb4.size (.cells #[.int .i64 (low (run l).path).1, .int .i64 (low (run l).path).2] 29)).alloc (by simp; omega) (.cells #[.int .i64 (high (run l).path).1, .int .i64 (high (run l).path).2] 29)
  have HR4 := Lib.hid (HR3.out.below hb4a (Nat.le_refl _))
  have HP4 := Lib.hid (HP3.out.below hb4a (Nat.le_refl _))
  have B4 := Lib.hid (B3.out.trans (hb4a.mono B3.out.size))
  have K4 := Lib.hid ((hb4a.block w3.heap.size (by simp)).trans K3.out)
  have K5 : Hid (((w4.alloc (.cells #[.int .i64 (low (run l).path).1, .int .i64 (low (run l).path).2] 29)).alloc (.cells #[.int .i64 (high (run l).path).1, .int .i64 (high (run l).path).2] 29)).heap[w4.heap.size]? = some (.cells #[.int .i64 (low (run l).path).1, .int .i64 (low (run l).path).2] 29 (0, 0))) := (Below.heap_alloc _ _ _ (by simp)).trans (heap_alloc_new w4 _)
  have k6 : ((w4.alloc (.cells #[.int .i64 (low (run l).path).1, .int .i64 (low (run l).path).2] 29)).alloc (.cells #[.int .i64 (high (run l).path).1, .int .i64 (high (run l).path).2] 29)).heap[w4.heap.size + 1]? = some (.cells #[.int .i64 (high (run l).path).1, .int .i64 (high (run l).path).2] 29 (0, 0)) := by
    have := heap_alloc_new (w4.alloc (.cells #[.int .i64 (low (run l).path).1, .int .i64 (low (run l).path).2] 29)) (.cells #[.int .i64 (high (run l).path).1, .int .i64 (high (run l).path).2] 29)
    simpa using this
  have K6 := Lib.hid k6
  clear hb4 hb4a HR3 B3 K3 k6 HP3
  go_wp2_with fail
  refine (area_good _ l _ HR4.out hlong hfar).mono ?_
  rintro e w5 ⟨h5, hb5⟩
  unfold AGood at h5
  subst h5
  have s5 := hb5.size
  simp at s5
  have HR5 := Lib.hid (HR4.out.below hb5 (Nat.le_refl _))
  have HP5 := Lib.hid (HP4.out.below hb5 (Nat.le_refl _))
  have B5 := Lib.hid (B4.out.trans (hb5.mono B4.out.size))
  have J1 := Lib.hid ((hb5.block w3.heap.size (by simp; omega)).trans K4.out)
  have J2 := Lib.hid ((hb5.block w4.heap.size (by simp; omega)).trans K5.out)
  have J3 := Lib.hid ((hb5.block (w4.heap.size + 1) (by simp)).trans K6.out)
  clear hb5 HR4 B4 K4 K5 K6 HP4
  go_wp2_with fail
  refine (ref_any _ l _ HR5.out).mono ?_
  rintro e w6 (⟨h6, _⟩ | ⟨_, q, rfl, hq6, hb6⟩)
  · exact absurd HE0.out h6
  have s6 := hb6.size
  have hb6a := hb6.alloc hb6.size (.cells #[.int .i64 (run l).look.1, .int .i64 (run l).look.2] 37)
  have HR6 := Lib.hid (HR5.out.below hb6a (Nat.le_refl _))
  have hp6 := HP5.out.below hb6a (Nat.le_refl _)
  have hq6a : OwnA (w6.alloc (.cells #[.int .i64 (run l).look.1, .int .i64 (run l).look.2] 37)) (w5.heap.size + 1) q (run l).path := World.ownsRow.alloc hq6 _
  have B6 := Lib.hid (B5.out.trans (hb6a.mono B5.out.size))
  have I1 := Lib.hid ((hb6a.block w3.heap.size (by omega)).trans J1.out)
  have I2 := Lib.hid ((hb6a.block w4.heap.size (by omega)).trans J2.out)
  have I3 := Lib.hid ((hb6a.block (w4.heap.size + 1) (by omega)).trans J3.out)
  have I4 := Lib.hid (heap_alloc_new w6 (.cells #[.int .i64 (run l).look.1, .int .i64 (run l).look.2] 37))
  have ok := ok_run (B := 1000000) (by omega) l (within_of_err hfar)
  have hn := path_pos l
  have hpl := path_le l
  have CL := Lib.hid (fun (w' : World) (hb' : Below (w6.heap.size + 1) (w6.alloc (.cells #[.int .i64 (run l).look.1, .int .i64 (run l).look.2] 37)) w') => closed_good _ l w' (HR6.out.below hb' (by simp)) hlong hfar)
  have BD := Lib.hid (fun p hp => ok.all p hp)
  obtain ⟨pre, hlast⟩ := ok.last
  have LA := Lib.hid (show (run l).path[(run l).path.length - 1]? = some (run l).pos by rw [hlast]; simp)
  obtain ⟨gp, cp, rfl, _, hgp, hcp, hmp, kp⟩ := hp6.cells hn
  obtain ⟨gq, cq, rfl, _, hgq, hcq, hmq, kq⟩ := hq6a.cells hn
  have KP := Lib.hid kp
  have KQ := Lib.hid kq
  simp at hgp hgq
  unfold maxLen at hmp hmq
  clear hb6 hb6a HR5 B5 J1 J2 J3 HP5 hp6 hq6 hq6a ok hlast kp kq HR6
  unfold CGood at CL
  generalize (run l).path = P at *
  generalize (run l).look = d at *
  generalize (run l).pos = z at *
  have ST := Lib.hid (boxP_start w6 d)
  go_wp2_with fail
  go_loopw [15, 18] (fun a i wr => ∃ j : Nat, j ≤ P.length ∧ i = .int .i64 j ∧ a = .int .i64 (wrap64 (along (P.take j))) ∧ BoxP (w6.alloc (.cells #[.int .i64 d.1, .int .i64 d.2] 37)) (w6.heap.size + 1) wr (low (P.take j)) (high (P.take j))) (fun _ i _ => P.length - (intOf i).toNat)
  case atStart => exact ⟨0, by omega, rfl, by simp [along, wrap64], ST.out⟩
  case round =>
    clear ST
    obtain ⟨j, hj, rfl, rfl, hbox⟩ := hrel
    have hsz := hbox.below.size
    have hbl := lt_of_block hbox.hi
    by_cases hlt : j < P.length
    · have hpj : P[j]? = some P[j] := by simp [hlt]
      obtain ⟨c1, c2⟩ := at_under KP (n := w6.heap.size + 1) (by omega) hbox.below hpj
      obtain ⟨c3, c4⟩ := at_under KQ (n := w6.heap.size + 1) (by omega) hbox.below hpj
      have HL := Lib.hid (low_take P j hlt)
      have HH := Lib.hid (high_take P j hlt)
      have HPJ := Lib.hid hpj
      have HBX := Lib.hid hbox
      generalize hA : wrap64 (along (P.take j)) = A at *
      have HA := Lib.hid hA
      clear hA hpj hbox
      generalize hx : P[j] = x at *
      have HX := Lib.hid hx
      clear hx
      generalize low (P.take j) = lo at *
      generalize high (P.take j) = hi at *
      have hix : (j : Int) < (P.length : Int) := by omega
      go_wp2
      go_quiet (fail)
      go_wp2
      obtain ⟨wo, rfl⟩ : ∃ wo : World, wo = wr := ⟨_, rfl⟩
      have hne1 : gq ≠ w6.heap.size + 1 := by omega
      have hne2 : gq ≠ w6.heap.size + 1 + 1 := by omega
      go_loopw [19] (fun t wi => ∃ r : Nat, r ≤ 2 ∧ t = .int .i64 r ∧ BoxP (w6.alloc (.cells #[.int .i64 d.1, .int .i64 d.2] 37)) (w6.heap.size + 1) wi (half r lo (lowF lo x)) (half r hi (highF hi x))) (fun t _ => 2 - (intOf t).toNat)
      case atStart => exact ⟨0, by omega, rfl, HBX.out.drewN _⟩
      case round =>
        obtain ⟨r, hr, rfl, hb⟩ := hrel
        clear c1 c2 c3 c4
        have hpj := HPJ.out
        obtain ⟨c3, c4⟩ := at_under KQ (n := w6.heap.size + 1) (by omega) hb.below hpj
        obtain ⟨a1, a2, a3, a4⟩ := cells_two hb.lo
        obtain ⟨b1, b2, b3, b4⟩ := cells_two hb.hi
        have hbl2 := lt_of_block hb.hi
        clear hpj
        obtain rfl | rfl | rfl : r = 0 ∨ r = 1 ∨ r = 2 := by omega
        · have hb' : BoxP (w6.alloc (.cells #[.int .i64 d.1, .int .i64 d.2] 37)) (w6.heap.size + 1) wr lo hi := hb
          have A0 : wr.cell? ⟨w6.heap.size + 1, 0, none⟩ = some (.int .i64 lo.1) := a1
          have B0 : wr.cell? ⟨w6.heap.size + 1 + 1, 0, none⟩ = some (.int .i64 hi.1) := b1
          clear a1 b1 hb
          have HBB := Lib.hid hb'
          clear hb'
          by_cases q1 : x.1 < lo.1
          · by_cases q2 : hi.1 < x.1
            · have eL : half 1 lo (lowF lo x) = (x.1, lo.2) := by show ((if x.1 < lo.1 then x.1 else lo.1), lo.2) = _; rw [if_pos q1]
              have eH : half 1 hi (highF hi x) = (x.1, hi.2) := by show ((if hi.1 < x.1 then x.1 else hi.1), hi.2) = _; rw [if_pos q2]
              have EL := Lib.hid eL
              have EH := Lib.hid eH
              clear eL eH
              go_wp2
              go_quiet (fail)
              go_wp2
              go_quiet (fail)
              go_wp2
              refine ⟨⟨1, by omega, by first | rfl | go_num, ?_⟩, by simp [intOf]⟩
              rw [EL.out, EH.out]
              exact ((((HBB.out.drewN _).lo0 x.1).drewN _).hi0 x.1)
            · have eL : half 1 lo (lowF lo x) = (x.1, lo.2) := by show ((if x.1 < lo.1 then x.1 else lo.1), lo.2) = _; rw [if_pos q1]
              have eH : half 1 hi (highF hi x) = (hi.1, hi.2) := by show ((if hi.1 < x.1 then x.1 else hi.1), hi.2) = _; rw [if_neg q2]
              have EL := Lib.hid eL
              have EH := Lib.hid eH
              clear eL eH
              go_wp2
              go_quiet (fail)
              go_wp2
              go_quiet (fail)
              go_wp2
              refine ⟨⟨1, by omega, by first | rfl | go_num, ?_⟩, by simp [intOf]⟩
              rw [EL.out, EH.out]
              exact (((HBB.out.drewN _).lo0 x.1).drewN _)
          · by_cases q2 : hi.1 < x.1
            · have eL : half 1 lo (lowF lo x) = (lo.1, lo.2) := by show ((if x.1 < lo.1 then x.1 else lo.1), lo.2) = _; rw [if_neg q1]
              have eH : half 1 hi (highF hi x) = (x.1, hi.2) := by show ((if hi.1 < x.1 then x.1 else hi.1), hi.2) = _; rw [if_pos q2]
              have EL := Lib.hid eL
              have EH := Lib.hid eH
              clear eL eH
              go_wp2
              go_quiet (fail)
              go_wp2
              go_quiet (fail)
              go_wp2
              refine ⟨⟨1, by omega, by first | rfl | go_num, ?_⟩, by simp [intOf]⟩
              rw [EL.out, EH.out]
              exact ((HBB.out.drewN _).hi0 x.1)
            · have eL : half 1 lo (lowF lo x) = (lo.1, lo.2) := by show ((if x.1 < lo.1 then x.1 else lo.1), lo.2) = _; rw [if_neg q1]
              have eH : half 1 hi (highF hi x) = (hi.1, hi.2) := by show ((if hi.1 < x.1 then x.1 else hi.1), hi.2) = _; rw [if_neg q2]
              have EL := Lib.hid eL
              have EH := Lib.hid eH
              clear eL eH
              go_wp2
              go_quiet (fail)
              go_wp2
              go_quiet (fail)
              go_wp2
              refine ⟨⟨1, by omega, by first | rfl | go_num, ?_⟩, by simp [intOf]⟩
              rw [EL.out, EH.out]
              exact (HBB.out.drewN _)
        · have hb' : BoxP (w6.alloc (.cells #[.int .i64 d.1, .int .i64 d.2] 37)) (w6.heap.size + 1) wr ((lowF lo x).1, lo.2) ((highF hi x).1, hi.2) := hb
          have A1 : wr.cell? ⟨w6.heap.size + 1, 1, none⟩ = some (.int .i64 lo.2) := a2
          have B1 : wr.cell? ⟨w6.heap.size + 1 + 1, 1, none⟩ = some (.int .i64 hi.2) := b2
          clear a2 b2 hb
          have HBB := Lib.hid hb'
          clear hb'
          by_cases q1 : x.2 < lo.2
          · by_cases q2 : hi.2 < x.2
            · have eL : half 2 lo (lowF lo x) = ((lowF lo x).1, x.2) := by show ((lowF lo x).1, (if x.2 < lo.2 then x.2 else lo.2)) = _; rw [if_pos q1]
              have eH : half 2 hi (highF hi x) = ((highF hi x).1, x.2) := by show ((highF hi x).1, (if hi.2 < x.2 then x.2 else hi.2)) = _; rw [if_pos q2]
              have EL := Lib.hid eL
              have EH := Lib.hid eH
              clear eL eH
              go_wp2
              go_quiet (fail)
              go_wp2
              go_quiet (fail)
              go_wp2
              refine ⟨⟨2, by omega, by first | rfl | go_num, ?_⟩, by simp [intOf]⟩
              rw [EL.out, EH.out]
              exact ((((HBB.out.drewN _).lo1 x.2).drewN _).hi1 x.2)
            · have eL : half 2 lo (lowF lo x) = ((lowF lo x).1, x.2) := by show ((lowF lo x).1, (if x.2 < lo.2 then x.2 else lo.2)) = _; rw [if_pos q1]
              have eH : half 2 hi (highF hi x) = ((highF hi x).1, hi.2) := by show ((highF hi x).1, (if hi.2 < x.2 then x.2 else hi.2)) = _; rw [if_neg q2]
              have EL := Lib.hid eL
              have EH := Lib.hid eH
              clear eL eH
              go_wp2
              go_quiet (fail)
              go_wp2
              go_quiet (fail)
              go_wp2
              refine ⟨⟨2, by omega, by first | rfl | go_num, ?_⟩, by simp [intOf]⟩
              rw [EL.out, EH.out]
              exact (((HBB.out.drewN _).lo1 x.2).drewN _)
          · by_cases q2 : hi.2 < x.2
            · have eL : half 2 lo (lowF lo x) = ((lowF lo x).1, lo.2) := by show ((lowF lo x).1, (if x.2 < lo.2 then x.2 else lo.2)) = _; rw [if_neg q1]
              have eH : half 2 hi (highF hi x) = ((highF hi x).1, x.2) := by show ((highF hi x).1, (if hi.2 < x.2 then x.2 else hi.2)) = _; rw [if_pos q2]
              have EL := Lib.hid eL
              have EH := Lib.hid eH
              clear eL eH
              go_wp2
              go_quiet (fail)
              go_wp2
              go_quiet (fail)
              go_wp2
              refine ⟨⟨2, by omega, by first | rfl | go_num, ?_⟩, by simp [intOf]⟩
              rw [EL.out, EH.out]
              exact ((HBB.out.drewN _).hi1 x.2)
            · have eL : half 2 lo (lowF lo x) = ((lowF lo x).1, lo.2) := by show ((lowF lo x).1, (if x.2 < lo.2 then x.2 else lo.2)) = _; rw [if_neg q1]
              have eH : half 2 hi (highF hi x) = ((highF hi x).1, hi.2) := by show ((highF hi x).1, (if hi.2 < x.2 then x.2 else hi.2)) = _; rw [if_neg q2]
              have EL := Lib.hid eL
              have EH := Lib.hid eH
              clear eL eH
              go_wp2
              go_quiet (fail)
              go_wp2
              go_quiet (fail)
              go_wp2
              refine ⟨⟨2, by omega, by first | rfl | go_num, ?_⟩, by simp [intOf]⟩
              rw [EL.out, EH.out]
              exact (HBB.out.drewN _)
        · have hb' : BoxP (w6.alloc (.cells #[.int .i64 d.1, .int .i64 d.2] 37)) (w6.heap.size + 1) wr (lowF lo x) (highF hi x) := hb
          rw [← HL.out, ← HH.out] at hb'
          have HBB := Lib.hid hb'
          clear hb hb' a1 a2 a3 a4 b1 b2 b3 b4
          by_cases hj0 : 0 < j
          · have hpt : P[j - 1]? = some (P[j - 1]'(by omega)) := List.getElem?_eq_getElem _
            obtain ⟨c5, c6⟩ := at_under KQ (n := w6.heap.size + 1) (by omega) HBB.out.below hpt
            have at' := along_at P j hj0 hlt
            rw [HX.out] at at'
            have AT := Lib.hid at'
            clear at'
            have bx := BD.out x (by rw [← HX.out]; exact List.getElem_mem _)
            have by' := BD.out (P[j - 1]'(by omega)) (List.getElem_mem _)
            generalize hy : P[j - 1]'_ = y at *
            have HY := Lib.hid hy
            clear hy hpt
            have hle : ((l.length : Int)) * 1000000 ≤ 1000000000 := by omega
            have m1 := mul_le y.1 x.2 (by omega) (by omega)
            have m2 := mul_le x.1 y.2 (by omega) (by omega)
            have HW := Lib.hid (wrap_add (along (P.take j)) (y.1 * x.2 - x.1 * y.2))
            have R1 : Hid (IntKind.i64.wrap ((j : Int) - 1) = (j : Int) - 1) := IntWalk.i64_in _ (by omega)
            have R2 : Hid (((j : Int) - 1).toNat = j - 1) := by show ((j : Int) - 1).toNat = j - 1; omega
            have R3 : (0 : Int) ≤ (j : Int) - 1 := by omega
            have R3' : (1 : Int) ≤ (j : Int) := by omega
            have R4 : (j : Int) - 1 < (P.length : Int) := by omega
            have R5 : Hid (IntKind.i64.wrap (y.1 * x.2) = y.1 * x.2) := IntWalk.i64_in _ (by omega)
            have R6 : Hid (IntKind.i64.wrap (x.1 * y.2) = x.1 * y.2) := IntWalk.i64_in _ (by omega)
            have R7 : Hid (IntKind.i64.wrap (y.1 * x.2 - x.1 * y.2) = y.1 * x.2 - x.1 * y.2) := IntWalk.i64_in _ (by omega)
            go_wp2
            have r1 := R1.out
            have r2 := R2.out
            have r5 := R5.out
            have r6 := R6.out
            have r7 := R7.out
            go_quiet (fail)
            clear r1 r2 r5 r6 r7
            go_wp2
            exact ⟨⟨j + 1, by omega, by go_num, congrArg _ (by rw [← HA.out, HW.out, AT.out]; rfl), HBB.out.drewN _⟩, by simp [intOf]; omega⟩
          · have hj00 : j = 0 := by omega
            have EA : Hid (A = wrap64 (along (P.take 1))) := by
              show A = _
              rw [← HA.out, hj00, along_one]
              rfl
            have EB : Hid (BoxP (w6.alloc (.cells #[.int .i64 d.1, .int .i64 d.2] 37)) (w6.heap.size + 1) wr (low (P.take 1)) (high (P.take 1))) := by
              have := HBB.out
              rw [hj00] at this
              exact this
            go_wp2
            exact ⟨⟨1, by omega, rfl, congrArg _ EA.out, EB.out⟩, by simp [intOf]; omega⟩
    · have e : P.take j = P := List.take_of_length_le (by omega)
      rw [e] at hbox
      rw [e]
      have hk1 : P[P.length - 1]? = some z := LA.out
      obtain ⟨z1, z2⟩ := at_under KQ (n := w6.heap.size + 1) (by omega) hbox.below hk1
      have HBX := Lib.hid hbox
      clear e hbox hk1
      have hn1 : (0 : Int) ≤ (P.length : Int) - 1 := by omega
      have hn2 : (1 : Int) ≤ (P.length : Int) := by omega
      have hb0 := HBX.out.below
      have e1 := (hb0.block w3.heap.size (by omega)).trans I1.out
      have e2 := (hb0.block w4.heap.size (by omega)).trans I2.out
      have e3 := (hb0.block (w4.heap.size + 1) (by omega)).trans I3.out
      have e4 := (hb0.block w6.heap.size (by omega)).trans I4.out
      have e5 := HBX.out.lo
      have e6 := HBX.out.hi
      have BWF := Lib.hid (hb0.alloc (by have := hb0.size; simp at this; omega) (.cells #[.int .i64 z.1, .int .i64 z.2] 37))
      have BALL := Lib.hid (B6.out.trans ((hb0.alloc (by have := hb0.size; simp at this; omega) (.cells #[.int .i64 z.1, .int .i64 z.2] 37)).mono (by have := B6.out.size; simp at this; omega)))
      clear hb0 hj
      generalize low P = lo at *
      generalize high P = hi at *
      have up : ∀ {b : Nat} {x y : Int} {t : TypeId}, wr.heap[b]? = some (.cells #[.int .i64 x, .int .i64 y] t (0, 0)) → (wr.alloc (.cells #[.int .i64 z.1, .int .i64 z.2] 37)).heap[b]? = some (.cells #[.int .i64 x, .int .i64 y] t (0, 0)) := fun h => (Below.heap_alloc _ _ _ (lt_of_block h)).trans h
      obtain ⟨s00, s01, _, _⟩ := cells_two (up e1)
      obtain ⟨s10, s11, _, _⟩ := cells_two (up e2)
      obtain ⟨s20, s21, _, _⟩ := cells_two (up e3)
      obtain ⟨s30, s31, _, _⟩ := cells_two (up e4)
      obtain ⟨s40, s41, _, _⟩ := cells_two (up e5)
      obtain ⟨s50, s51, _, _⟩ := cells_two (up e6)
      obtain ⟨s60, s61, _, _⟩ := cells_two (heap_alloc_new wr (.cells #[.int .i64 z.1, .int .i64 z.2] 37))
      have E1 := Lib.hid (up e1)
      have E2 := Lib.hid (up e2)
      have E3 := Lib.hid (up e3)
      have E4 := Lib.hid (up e4)
      have E5 := Lib.hid (up e5)
      have E6 := Lib.hid (up e6)
      have E7 := Lib.hid (heap_alloc_new wr (.cells #[.int .i64 z.1, .int .i64 z.2] 37))
      clear e1 e2 e3 e4 e5 e6 up
      have hbs := HBX.out.below.size
      simp at hbs
      have hbl6 := lt_of_block HBX.out.hi
      have cl := CL.out
      have hsw : ((0 == z.1) && (0 == z.2)) = ((z.1 == 0) && (z.2 == 0)) := by rw [Bool.beq_comm (a := (0 : Int)), Bool.beq_comm (a := (0 : Int))]
      simp only [hsw] at cl
      clear hsw CL
      by_cases hz : z.1 = 0
      · have hz1 : (z.1 == 0) = true := by simp [hz]
        have hcv : ((z.1 == 0) && (z.2 == 0)) = (z.2 == 0) := by rw [hz1, Bool.true_and]
        simp only [hcv] at cl
        have CL2 := Lib.hid cl
        clear cl hcv hz
        go_wp2
        refine wp_region_held_drew (S := fun w' => w'.cell? ⟨w3.heap.size, 0, none⟩ = some (.int .i64 d.1) ∧ w'.cell? ⟨w3.heap.size, 1, none⟩ = some (.int .i64 d.2) ∧ w'.cell? ⟨w4.heap.size, 0, none⟩ = some (.int .i64 lo.1) ∧ w'.cell? ⟨w4.heap.size, 1, none⟩ = some (.int .i64 lo.2) ∧ w'.cell? ⟨w4.heap.size + 1, 0, none⟩ = some (.int .i64 hi.1) ∧ w'.cell? ⟨w4.heap.size + 1, 1, none⟩ = some (.int .i64 hi.2) ∧ w'.cell? ⟨w6.heap.size, 0, none⟩ = some (.int .i64 d.1) ∧ w'.cell? ⟨w6.heap.size, 1, none⟩ = some (.int .i64 d.2) ∧ w'.cell? ⟨w6.heap.size + 1, 0, none⟩ = some (.int .i64 lo.1) ∧ w'.cell? ⟨w6.heap.size + 1, 1, none⟩ = some (.int .i64 lo.2) ∧ w'.cell? ⟨w6.heap.size + 1 + 1, 0, none⟩ = some (.int .i64 hi.1) ∧ w'.cell? ⟨w6.heap.size + 1 + 1, 1, none⟩ = some (.int .i64 hi.2) ∧ w'.cell? ⟨wr.heap.size, 0, none⟩ = some (.int .i64 z.1) ∧ w'.cell? ⟨wr.heap.size, 1, none⟩ = some (.int .i64 z.2)) (by kernel_rfl) ⟨s00, s01, s10, s11, s20, s21, s30, s31, s40, s41, s50, s51, s60, s61⟩ ?_
        intro hHeld
        refine wpAnyH_take (i := 0) (v := ?_) (by simp only [List.getElem?_toArray, List.getElem?_cons_zero]; rfl) (by kernel_rfl) (by kernel_rfl) (by kernel_rfl) (by intro _ _ _ h; exact h) (Or.inl ⟨by rfl, ?_⟩) (by assumption) ?_
        rotate_left
        · (intro w hSw; (try dsimp only at hSw); go_simp; try with_reducible rfl)
        try simp only [Act.put, List.setIfInBounds_toArray, List.set_cons_zero, List.set_cons_succ]
        refine wpAnyH_take (i := 1) (v := ?_) (by simp only [List.getElem?_toArray, List.getElem?_cons_succ, List.getElem?_cons_zero]; rfl) (by kernel_rfl) (by kernel_rfl) (by kernel_rfl) (by intro _ _ _ h; exact h) (Or.inl ⟨by rfl, ?_⟩) (by assumption) ?_
        rotate_left
        · (intro w hSw; (try dsimp only at hSw); go_simp; try with_reducible rfl)
        try simp only [Act.put, List.setIfInBounds_toArray, List.set_cons_zero, List.set_cons_succ]
        refine wpAnyH_take (i := 2) (v := ?_) (by simp only [List.getElem?_toArray, List.getElem?_cons_succ, List.getElem?_cons_zero]; rfl) (by kernel_rfl) (by kernel_rfl) (by kernel_rfl) (by intro _ _ _ h; exact h) (Or.inl ⟨by rfl, ?_⟩) (by assumption) ?_
        rotate_left
        · (intro w hSw; (try dsimp only at hSw); go_simp; try with_reducible rfl)
        try simp only [Act.put, List.setIfInBounds_toArray, List.set_cons_zero, List.set_cons_succ]
        refine wpAnyH_take (i := 3) (v := ?_) (by simp only [List.getElem?_toArray, List.getElem?_cons_succ, List.getElem?_cons_zero]; rfl) (by kernel_rfl) (by kernel_rfl) (by kernel_rfl) (by intro _ _ _ h; exact h) (Or.inl ⟨by rfl, ?_⟩) (by assumption) ?_
        rotate_left
        · (intro w hSw; (try dsimp only at hSw); go_simp; try with_reducible rfl)
        try simp only [Act.put, List.setIfInBounds_toArray, List.set_cons_zero, List.set_cons_succ]
        refine wpAnyH_take (i := 4) (v := ?_) (by simp only [List.getElem?_toArray, List.getElem?_cons_succ, List.getElem?_cons_zero]; rfl) (by kernel_rfl) (by kernel_rfl) (by kernel_rfl) (by intro _ _ _ h; exact h) (Or.inl ⟨by rfl, ?_⟩) (by assumption) ?_
        rotate_left
        · (intro w hSw; (try dsimp only at hSw); go_simp; try with_reducible rfl)
        try simp only [Act.put, List.setIfInBounds_toArray, List.set_cons_zero, List.set_cons_succ]
        refine wpAnyH_take (i := 5) (v := ?_) (by simp only [List.getElem?_toArray, List.getElem?_cons_succ, List.getElem?_cons_zero]; rfl) (by kernel_rfl) (by kernel_rfl) (by kernel_rfl) (by intro _ _ _ h; exact h) (Or.inl ⟨by rfl, ?_⟩) (by assumption) ?_
        rotate_left
        · (intro w hSw; (try dsimp only at hSw); go_simp; try with_reducible rfl)
        try simp only [Act.put, List.setIfInBounds_toArray, List.set_cons_zero, List.set_cons_succ]
        refine wpAnyH_take (i := 6) (v := ?_) (by simp only [List.getElem?_toArray, List.getElem?_cons_succ, List.getElem?_cons_zero]; rfl) (by kernel_rfl) (by kernel_rfl) (by kernel_rfl) (by intro _ _ _ h; exact h) (Or.inl ⟨by rfl, ?_⟩) (by assumption) ?_
        rotate_left
        · (intro w hSw; (try dsimp only at hSw); go_simp; try with_reducible rfl)
        try simp only [Act.put, List.setIfInBounds_toArray, List.set_cons_zero, List.set_cons_succ]
        refine wpAnyH_take (i := 7) (v := ?_) (by simp only [List.getElem?_toArray, List.getElem?_cons_succ, List.getElem?_cons_zero]; rfl) (by kernel_rfl) (by kernel_rfl) (by kernel_rfl) (by intro _ _ _ h; exact h) (Or.inl ⟨by rfl, ?_⟩) (by assumption) ?_
        rotate_left
        · (intro w hSw; (try dsimp only at hSw); go_simp; try with_reducible rfl)
        try simp only [Act.put, List.setIfInBounds_toArray, List.set_cons_zero, List.set_cons_succ]
        refine wpAnyH_take (i := 8) (v := ?_) (by simp only [List.getElem?_toArray, List.getElem?_cons_succ, List.getElem?_cons_zero]; rfl) (by kernel_rfl) (by kernel_rfl) (by kernel_rfl) (by intro _ _ _ h; exact h) (Or.inl ⟨by rfl, ?_⟩) (by assumption) ?_
        rotate_left
        · (intro w hSw; (try dsimp only at hSw); go_simp; try with_reducible rfl)
        try simp only [Act.put, List.setIfInBounds_toArray, List.set_cons_zero, List.set_cons_succ]
        refine wpAnyH_take (i := 9) (v := ?_) (by simp only [List.getElem?_toArray, List.getElem?_cons_succ, List.getElem?_cons_zero]; rfl) (by kernel_rfl) (by kernel_rfl) (by kernel_rfl) (by intro _ _ _ h; exact h) (Or.inl ⟨by rfl, ?_⟩) (by assumption) ?_
        rotate_left
        · (intro w hSw; (try dsimp only at hSw); go_simp; try with_reducible rfl)
        try simp only [Act.put, List.setIfInBounds_toArray, List.set_cons_zero, List.set_cons_succ]
        refine wpAnyH_take (i := 10) (v := ?_) (by simp only [List.getElem?_toArray, List.getElem?_cons_succ, List.getElem?_cons_zero]; rfl) (by kernel_rfl) (by kernel_rfl) (by kernel_rfl) (by intro _ _ _ h; exact h) (Or.inl ⟨by rfl, ?_⟩) (by assumption) ?_
        rotate_left
        · (intro w hSw; (try dsimp only at hSw); go_simp; try with_reducible rfl)
        try simp only [Act.put, List.setIfInBounds_toArray, List.set_cons_zero, List.set_cons_succ]
        refine wpAnyH_take (i := 11) (v := ?_) (by simp only [List.getElem?_toArray, List.getElem?_cons_succ, List.getElem?_cons_zero]; rfl) (by kernel_rfl) (by kernel_rfl) (by kernel_rfl) (by intro _ _ _ h; exact h) (Or.inl ⟨by rfl, ?_⟩) (by assumption) ?_
        rotate_left
        · (intro w hSw; (try dsimp only at hSw); go_simp; try with_reducible rfl)
        try simp only [Act.put, List.setIfInBounds_toArray, List.set_cons_zero, List.set_cons_succ]
        refine wpAnyH_take (i := 12) (v := ?_) (by simp only [List.getElem?_toArray, List.getElem?_cons_succ, List.getElem?_cons_zero]; rfl) (by kernel_rfl) (by kernel_rfl) (by kernel_rfl) (by intro _ _ _ h; exact h) (Or.inl ⟨by rfl, ?_⟩) (by assumption) ?_
        rotate_left
        · (intro w hSw; (try dsimp only at hSw); go_simp; try with_reducible rfl)
        try simp only [Act.put, List.setIfInBounds_toArray, List.set_cons_zero, List.set_cons_succ]
        refine wpAnyH_take (i := 13) (v := ?_) (by simp only [List.getElem?_toArray, List.getElem?_cons_succ, List.getElem?_cons_zero]; rfl) (by kernel_rfl) (by kernel_rfl) (by kernel_rfl) (by intro _ _ _ h; exact h) (Or.inl ⟨by rfl, ?_⟩) (by assumption) ?_
        rotate_left
        · (intro w hSw; (try dsimp only at hSw); go_simp; try with_reducible rfl)
        try simp only [Act.put, List.setIfInBounds_toArray, List.set_cons_zero, List.set_cons_succ]
        refine wpAnyH_take (i := 14) (v := ?_) (by simp only [List.getElem?_toArray, List.getElem?_cons_succ, List.getElem?_cons_zero]; rfl) (by kernel_rfl) (by kernel_rfl) (by kernel_rfl) (by intro _ _ _ h; exact h) (Or.inl ⟨by rfl, ?_⟩) (by assumption) ?_
        rotate_left
        · (intro w hSw; (try dsimp only at hSw); go_simp; try with_reducible rfl)
        try simp only [Act.put, List.setIfInBounds_toArray, List.set_cons_zero, List.set_cons_succ]
        refine wpAnyH_take (i := 15) (v := ?_) (by simp only [List.getElem?_toArray, List.getElem?_cons_succ, List.getElem?_cons_zero]; rfl) (by kernel_rfl) (by kernel_rfl) (by kernel_rfl) (by intro _ _ _ h; exact h) (Or.inl ⟨by rfl, ?_⟩) (by assumption) ?_
        rotate_left
        · (intro w hSw; (try dsimp only at hSw); go_simp; try with_reducible rfl)
        try simp only [Act.put, List.setIfInBounds_toArray, List.set_cons_zero, List.set_cons_succ]
        refine wpAnyH_take (i := 16) (v := ?_) (by simp only [List.getElem?_toArray, List.getElem?_cons_succ, List.getElem?_cons_zero]; rfl) (by kernel_rfl) (by kernel_rfl) (by kernel_rfl) (by intro _ _ _ h; exact h) (Or.inl ⟨by rfl, ?_⟩) (by assumption) ?_
        rotate_left
        · (intro w hSw; (try dsimp only at hSw); go_simp; try with_reducible rfl)
        try simp only [Act.put, List.setIfInBounds_toArray, List.set_cons_zero, List.set_cons_succ]
        refine wpAnyH_take (i := 17) (v := ?_) (by simp only [List.getElem?_toArray, List.getElem?_cons_succ, List.getElem?_cons_zero]; rfl) (by kernel_rfl) (by kernel_rfl) (by kernel_rfl) (by intro _ _ _ h; exact h) (Or.inl ⟨by rfl, ?_⟩) (by assumption) ?_
        rotate_left
        · (intro w hSw; (try dsimp only at hSw); go_simp; try with_reducible rfl)
        try simp only [Act.put, List.setIfInBounds_toArray, List.set_cons_zero, List.set_cons_succ]
        refine wpAnyH_take (i := 18) (v := ?_) (by simp only [List.getElem?_toArray, List.getElem?_cons_succ, List.getElem?_cons_zero]; rfl) (by kernel_rfl) (by kernel_rfl) (by kernel_rfl) (by intro _ _ _ h; exact h) (Or.inl ⟨by rfl, ?_⟩) (by assumption) ?_
        rotate_left
        · (intro w hSw; (try dsimp only at hSw); go_simp; try with_reducible rfl)
        try simp only [Act.put, List.setIfInBounds_toArray, List.set_cons_zero, List.set_cons_succ]
        refine wpAnyH_take (i := 19) (v := ?_) (by simp only [List.getElem?_toArray, List.getElem?_cons_succ, List.getElem?_cons_zero]; rfl) (by kernel_rfl) (by kernel_rfl) (by kernel_rfl) (by intro _ _ _ h; exact h) (Or.inl ⟨by rfl, ?_⟩) (by assumption) ?_
        rotate_left
        · (intro w hSw; (try dsimp only at hSw); go_simp; try with_reducible rfl)
        try simp only [Act.put, List.setIfInBounds_toArray, List.set_cons_zero, List.set_cons_succ]
        refine wpAnyH_take (i := 20) (v := ?_) (by simp only [List.getElem?_toArray, List.getElem?_cons_succ, List.getElem?_cons_zero]; rfl) (by kernel_rfl) (by kernel_rfl) (by kernel_rfl) (by intro _ _ _ h; exact h) (Or.inl ⟨by rfl, ?_⟩) (by assumption) ?_
        rotate_left
        · (intro w hSw; (try dsimp only at hSw); go_simp; try with_reducible rfl)
        try simp only [Act.put, List.setIfInBounds_toArray, List.set_cons_zero, List.set_cons_succ]
        refine wpAnyH_take (i := 21) (v := ?_) (by simp only [List.getElem?_toArray, List.getElem?_cons_succ, List.getElem?_cons_zero]; rfl) (by kernel_rfl) (by kernel_rfl) (by kernel_rfl) (by intro _ _ _ h; exact h) (Or.inl ⟨by rfl, ?_⟩) (by assumption) ?_
        rotate_left
        · (intro w hSw; (try dsimp only at hSw); go_simp; try with_reducible rfl)
        try simp only [Act.put, List.setIfInBounds_toArray, List.set_cons_zero, List.set_cons_succ]
        refine wpAnyH_take (i := 22) (v := ?_) (by simp only [List.getElem?_toArray, List.getElem?_cons_succ, List.getElem?_cons_zero]; rfl) (by kernel_rfl) (by kernel_rfl) (by kernel_rfl) (by intro _ _ _ h; exact h) (Or.inl ⟨by rfl, ?_⟩) (by assumption) ?_
        rotate_left
        · (intro w hSw; (try dsimp only at hSw); go_simp; try with_reducible rfl)
        try simp only [Act.put, List.setIfInBounds_toArray, List.set_cons_zero, List.set_cons_succ]
        refine wpAnyH_take (i := 23) (v := ?_) (by simp only [List.getElem?_toArray, List.getElem?_cons_succ, List.getElem?_cons_zero]; rfl) (by kernel_rfl) (by kernel_rfl) (by kernel_rfl) (by intro _ _ _ h; exact h) (Or.inl ⟨by rfl, ?_⟩) (by assumption) ?_
        rotate_left
        · (intro w hSw; (try dsimp only at hSw); go_simp; try with_reducible rfl)
        try simp only [Act.put, List.setIfInBounds_toArray, List.set_cons_zero, List.set_cons_succ]
        refine wpAnyH_take (i := 24) (v := ?_) (by simp only [List.getElem?_toArray, List.getElem?_cons_succ, List.getElem?_cons_zero]; rfl) (by kernel_rfl) (by kernel_rfl) (by kernel_rfl) (by intro _ _ _ h; exact h) (Or.inl ⟨by rfl, ?_⟩) (by assumption) ?_
        rotate_left
        · (intro w hSw; (try dsimp only at hSw); go_simp; try with_reducible rfl)
        try simp only [Act.put, List.setIfInBounds_toArray, List.set_cons_zero, List.set_cons_succ]
        refine wpAnyH_take (i := 25) (v := ?_) (by simp only [List.getElem?_toArray, List.getElem?_cons_succ, List.getElem?_cons_zero]; rfl) (by kernel_rfl) (by kernel_rfl) (by kernel_rfl) (by intro _ _ _ h; exact h) (Or.inl ⟨by rfl, ?_⟩) (by assumption) ?_
        rotate_left
        · (intro w hSw; (try dsimp only at hSw); go_simp; try with_reducible rfl)
        try simp only [Act.put, List.setIfInBounds_toArray, List.set_cons_zero, List.set_cons_succ]
        refine wpAnyH_take (i := 26) (v := ?_) (by simp only [List.getElem?_toArray, List.getElem?_cons_succ, List.getElem?_cons_zero]; rfl) (by kernel_rfl) (by kernel_rfl) (by kernel_rfl) (by intro _ _ _ h; exact h) (Or.inl ⟨by rfl, ?_⟩) (by assumption) ?_
        rotate_left
        · (intro w hSw; (try dsimp only at hSw); go_simp; try with_reducible rfl)
        try simp only [Act.put, List.setIfInBounds_toArray, List.set_cons_zero, List.set_cons_succ]
        refine wpAnyH_take (i := 27) (v := ?_) (by simp only [List.getElem?_toArray, List.getElem?_cons_succ, List.getElem?_cons_zero]; rfl) (by kernel_rfl) (by kernel_rfl) (by kernel_rfl) (by intro _ _ _ h; exact h) (Or.inl ⟨by rfl, ?_⟩) (by assumption) ?_
        rotate_left
        · (intro w hSw; (try dsimp only at hSw); go_simp; try with_reducible rfl)
        try simp only [Act.put, List.setIfInBounds_toArray, List.set_cons_zero, List.set_cons_succ]
        refine wpAnyH_take (i := 28) (v := ?_) (by simp only [List.getElem?_toArray, List.getElem?_cons_succ, List.getElem?_cons_zero]; rfl) (by kernel_rfl) (by kernel_rfl) (by kernel_rfl) (by intro _ _ _ h; exact h) (Or.inl ⟨by rfl, ?_⟩) (by assumption) ?_
        rotate_left
        · (intro w hSw; (try dsimp only at hSw); go_simp; try with_reducible rfl)
        try simp only [Act.put, List.setIfInBounds_toArray, List.set_cons_zero, List.set_cons_succ]
        refine wpAnyH_take (i := 29) (v := ?_) (by simp only [List.getElem?_toArray, List.getElem?_cons_succ, List.getElem?_cons_zero]; rfl) (by kernel_rfl) (by kernel_rfl) (by kernel_rfl) (by intro _ _ _ h; exact h) (Or.inl ⟨by rfl, ?_⟩) (by assumption) ?_
        rotate_left
        · (intro w hSw; (try dsimp only at hSw); go_simp; try with_reducible rfl)
        try simp only [Act.put, List.setIfInBounds_toArray, List.set_cons_zero, List.set_cons_succ]
        refine wpAnyH_take (i := 30) (v := ?_) (by simp only [List.getElem?_toArray, List.getElem?_cons_succ, List.getElem?_cons_zero]; rfl) (by kernel_rfl) (by kernel_rfl) (by kernel_rfl) (by intro _ _ _ h; exact h) (Or.inl ⟨by rfl, ?_⟩) (by assumption) ?_
        rotate_left
        · (intro w hSw; (try dsimp only at hSw); go_simp; try with_reducible rfl)
        try simp only [Act.put, List.setIfInBounds_toArray, List.set_cons_zero, List.set_cons_succ]
        refine wpAnyH_take (i := 31) (v := ?_) (by simp only [List.getElem?_toArray, List.getElem?_cons_succ, List.getElem?_cons_zero]; rfl) (by kernel_rfl) (by kernel_rfl) (by kernel_rfl) (by intro _ _ _ h; exact h) (Or.inl ⟨by rfl, ?_⟩) (by assumption) ?_
        rotate_left
        · (intro w hSw; (try dsimp only at hSw); go_simp; try with_reducible rfl)
        try simp only [Act.put, List.setIfInBounds_toArray, List.set_cons_zero, List.set_cons_succ]
        refine wpAnyH_take (i := 32) (v := ?_) (by simp only [List.getElem?_toArray, List.getElem?_cons_succ, List.getElem?_cons_zero]; rfl) (by kernel_rfl) (by kernel_rfl) (by kernel_rfl) (by intro _ _ _ h; exact h) (Or.inl ⟨by rfl, ?_⟩) (by assumption) ?_
        rotate_left
        · (intro w hSw; (try dsimp only at hSw); go_simp; try with_reducible rfl)
        try simp only [Act.put, List.setIfInBounds_toArray, List.set_cons_zero, List.set_cons_succ]
        refine wpAnyH_take (i := 33) (v := ?_) (by simp only [List.getElem?_toArray, List.getElem?_cons_succ, List.getElem?_cons_zero]; rfl) (by kernel_rfl) (by kernel_rfl) (by kernel_rfl) (by intro _ _ _ h; exact h) (Or.inl ⟨by rfl, ?_⟩) (by assumption) ?_
        rotate_left
        · (intro w hSw; (try dsimp only at hSw); go_simp; try with_reducible rfl)
        try simp only [Act.put, List.setIfInBounds_toArray, List.set_cons_zero, List.set_cons_succ]
        refine wpAnyH_take (i := 34) (v := ?_) (by simp only [List.getElem?_toArray, List.getElem?_cons_succ, List.getElem?_cons_zero]; rfl) (by kernel_rfl) (by kernel_rfl) (by kernel_rfl) (by intro _ _ _ h; exact h) (Or.inl ⟨by rfl, ?_⟩) (by assumption) ?_
        rotate_left
        · (intro w hSw; (try dsimp only at hSw); go_simp; try with_reducible rfl)
        try simp only [Act.put, List.setIfInBounds_toArray, List.set_cons_zero, List.set_cons_succ]
        refine wpAnyH_take (i := 35) (v := ?_) (by simp only [List.getElem?_toArray, List.getElem?_cons_succ, List.getElem?_cons_zero]; rfl) (by kernel_rfl) (by kernel_rfl) (by kernel_rfl) (by intro _ _ _ h; exact h) (Or.inl ⟨by rfl, ?_⟩) (by assumption) ?_
        rotate_left
        · (intro w hSw; (try dsimp only at hSw); go_simp; try with_reducible rfl)
        try simp only [Act.put, List.setIfInBounds_toArray, List.set_cons_zero, List.set_cons_succ]
        refine wpAnyH_take (i := 36) (v := ?_) (by simp only [List.getElem?_toArray, List.getElem?_cons_succ, List.getElem?_cons_zero]; rfl) (by kernel_rfl) (by kernel_rfl) (by kernel_rfl) (by intro _ _ _ h; exact h) (Or.inl ⟨by rfl, ?_⟩) (by assumption) ?_
        rotate_left
        · (intro w hSw; (try dsimp only at hSw); go_simp; try with_reducible rfl)
        try simp only [Act.put, List.setIfInBounds_toArray, List.set_cons_zero, List.set_cons_succ]
        refine wpAnyH_take (i := 37) (v := ?_) (by simp only [List.getElem?_toArray, List.getElem?_cons_succ, List.getElem?_cons_zero]; rfl) (by kernel_rfl) (by kernel_rfl) (by kernel_rfl) (by intro _ _ _ h; exact h) (Or.inl ⟨by rfl, ?_⟩) (by assumption) ?_
        rotate_left
        · (intro w hSw; (try dsimp only at hSw); go_simp; try with_reducible rfl)
        try simp only [Act.put, List.setIfInBounds_toArray, List.set_cons_zero, List.set_cons_succ]
        refine wpAnyH_take (i := 38) (v := ?_) (by simp only [List.getElem?_toArray, List.getElem?_cons_succ, List.getElem?_cons_zero]; rfl) (by kernel_rfl) (by kernel_rfl) (by kernel_rfl) (by intro _ _ _ h; exact h) (Or.inl ⟨by rfl, ?_⟩) (by assumption) ?_
        rotate_left
        · (intro w hSw; (try dsimp only at hSw); go_simp; try with_reducible rfl)
        try simp only [Act.put, List.setIfInBounds_toArray, List.set_cons_zero, List.set_cons_succ]
        refine wpAnyH_take (i := 39) (v := ?_) (by simp only [List.getElem?_toArray, List.getElem?_cons_succ, List.getElem?_cons_zero]; rfl) (by kernel_rfl) (by kernel_rfl) (by kernel_rfl) (by intro _ _ _ h; exact h) (Or.inl ⟨by rfl, ?_⟩) (by assumption) ?_
        rotate_left
        · (intro w hSw; (try dsimp only at hSw); go_simp; try with_reducible rfl)
        try simp only [Act.put, List.setIfInBounds_toArray, List.set_cons_zero, List.set_cons_succ]
        refine wpAnyH_take (i := 40) (v := ?_) (by simp only [List.getElem?_toArray, List.getElem?_cons_succ, List.getElem?_cons_zero]; rfl) (by kernel_rfl) (by kernel_rfl) (by kernel_rfl) (by intro _ _ _ h; exact h) (Or.inl ⟨by rfl, ?_⟩) (by assumption) ?_
        rotate_left
        · (intro w hSw; (try dsimp only at hSw); go_simp; try with_reducible rfl)
        try simp only [Act.put, List.setIfInBounds_toArray, List.set_cons_zero, List.set_cons_succ]
        refine wpAnyH_take (i := 41) (v := ?_) (by simp only [List.getElem?_toArray, List.getElem?_cons_succ, List.getElem?_cons_zero]; rfl) (by kernel_rfl) (by kernel_rfl) (by kernel_rfl) (by intro _ _ _ h; exact h) (Or.inl ⟨by rfl, ?_⟩) (by assumption) ?_
        rotate_left
        · (intro w hSw; (try dsimp only at hSw); go_simp; try with_reducible rfl)
        try simp only [Act.put, List.setIfInBounds_toArray, List.set_cons_zero, List.set_cons_succ]
        refine wpAnyH_take (i := 42) (v := ?_) (by simp only [List.getElem?_toArray, List.getElem?_cons_succ, List.getElem?_cons_zero]; rfl) (by kernel_rfl) (by kernel_rfl) (by kernel_rfl) (by intro _ _ _ h; exact h) (Or.inl ⟨by rfl, ?_⟩) (by assumption) ?_
        rotate_left
        · (intro w hSw; (try dsimp only at hSw); go_simp; try with_reducible rfl)
        try simp only [Act.put, List.setIfInBounds_toArray, List.set_cons_zero, List.set_cons_succ]
        refine wpAnyH_take (i := 43) (v := ?_) (by simp only [List.getElem?_toArray, List.getElem?_cons_succ, List.getElem?_cons_zero]; rfl) (by kernel_rfl) (by kernel_rfl) (by kernel_rfl) (by intro _ _ _ h; exact h) (Or.inl ⟨by rfl, ?_⟩) (by assumption) ?_
        rotate_left
        · (intro w hSw; (try dsimp only at hSw); go_simp; try with_reducible rfl)
        try simp only [Act.put, List.setIfInBounds_toArray, List.set_cons_zero, List.set_cons_succ]
        refine wpAnyH_take (i := 44) (v := ?_) (by simp only [List.getElem?_toArray, List.getElem?_cons_succ, List.getElem?_cons_zero]; rfl) (by kernel_rfl) (by kernel_rfl) (by kernel_rfl) (by intro _ _ _ h; exact h) (Or.inl ⟨by rfl, ?_⟩) (by assumption) ?_
        rotate_left
        · (intro w hSw; (try dsimp only at hSw); go_simp; try with_reducible rfl)
        try simp only [Act.put, List.setIfInBounds_toArray, List.set_cons_zero, List.set_cons_succ]
        refine wpAnyH_take (i := 45) (v := ?_) (by simp only [List.getElem?_toArray, List.getElem?_cons_succ, List.getElem?_cons_zero]; rfl) (by kernel_rfl) (by kernel_rfl) (by kernel_rfl) (by intro _ _ _ h; exact h) (Or.inl ⟨by rfl, ?_⟩) (by assumption) ?_
        rotate_left
        · (intro w hSw; (try dsimp only at hSw); go_simp; try with_reducible rfl)
        try simp only [Act.put, List.setIfInBounds_toArray, List.set_cons_zero, List.set_cons_succ]
        refine wpAnyH_take (i := 46) (v := ?_) (by simp only [List.getElem?_toArray, List.getElem?_cons_succ, List.getElem?_cons_zero]; rfl) (by kernel_rfl) (by kernel_rfl) (by kernel_rfl) (by intro _ _ _ h; exact h) (Or.inl ⟨by rfl, ?_⟩) (by assumption) ?_
        rotate_left
        · (intro w hSw; (try dsimp only at hSw); go_simp; try with_reducible rfl)
        try simp only [Act.put, List.setIfInBounds_toArray, List.set_cons_zero, List.set_cons_succ]
        refine wpAnyH_take (i := 48) (v := ?_) (by simp only [List.getElem?_toArray, List.getElem?_cons_succ, List.getElem?_cons_zero]; rfl) (by kernel_rfl) (by kernel_rfl) (by kernel_rfl) (by intro _ _ _ h; exact h) (Or.inl ⟨by rfl, ?_⟩) (by assumption) ?_
        rotate_left
        · (intro w hSw; (try dsimp only at hSw); go_simp; try with_reducible rfl)
        try simp only [Act.put, List.setIfInBounds_toArray, List.set_cons_zero, List.set_cons_succ]
        refine wpAnyH_take (i := 49) (v := ?_) (by simp only [List.getElem?_toArray, List.getElem?_cons_succ, List.getElem?_cons_zero]; rfl) (by kernel_rfl) (by kernel_rfl) (by kernel_rfl) (by intro _ _ _ h; exact h) (Or.inl ⟨by rfl, ?_⟩) (by assumption) ?_
        rotate_left
        · (intro w hSw; (try dsimp only at hSw); go_simp; try with_reducible rfl)
        try simp only [Act.put, List.setIfInBounds_toArray, List.set_cons_zero, List.set_cons_succ]
        refine wpAnyH_take (i := 50) (v := ?_) (by simp only [List.getElem?_toArray, List.getElem?_cons_succ, List.getElem?_cons_zero]; rfl) (by kernel_rfl) (by kernel_rfl) (by kernel_rfl) (by intro _ _ _ h; exact h) (Or.inl ⟨by rfl, ?_⟩) (by assumption) ?_
        rotate_left
        · (intro w hSw; (try dsimp only at hSw); go_simp; try with_reducible rfl)
        try simp only [Act.put, List.setIfInBounds_toArray, List.set_cons_zero, List.set_cons_succ]
        refine wpAnyH_ready (rs := [47]) (by kernel_rfl) (by simp) ?_
        refine AllReadyH.cons (by simp only [List.getElem?_toArray, List.getElem?_cons_succ, List.getElem?_cons_zero]; rfl) (fun K hK => ?_) AllReadyH.nil
        go_simp
        refine (CL2.out _ BWF.out.drew).mono ?_
        rintro e w8 ⟨rfl, hb8⟩
        have s8 := hb8.size
        simp [World.drew] at s8
        have B8 := Lib.hid (BALL.out.drew.trans (hb8.mono (by have := BALL.out.size; simp [World.drew] at this ⊢; omega)))
        obtain ⟨t00, t01, _, _⟩ := cells_two ((hb8.block w3.heap.size (by simp [World.drew] <;> omega)).trans E1.out)
        obtain ⟨t10, t11, _, _⟩ := cells_two ((hb8.block w4.heap.size (by simp [World.drew] <;> omega)).trans E2.out)
        obtain ⟨t20, t21, _, _⟩ := cells_two ((hb8.block (w4.heap.size + 1) (by simp [World.drew] <;> omega)).trans E3.out)
        obtain ⟨t30, t31, _, _⟩ := cells_two ((hb8.block w6.heap.size (by simp [World.drew] <;> omega)).trans E4.out)
        obtain ⟨t40, t41, _, _⟩ := cells_two ((hb8.block (w6.heap.size + 1) (by simp [World.drew] <;> omega)).trans E5.out)
        obtain ⟨t50, t51, _, _⟩ := cells_two ((hb8.block (w6.heap.size + 1 + 1) (by simp [World.drew] <;> omega)).trans E6.out)
        obtain ⟨t60, t61, _, _⟩ := cells_two ((hb8.block wr.heap.size (by simp [World.drew] <;> omega)).trans E7.out)
        clear hb8
        refine hK.out _ _ ⟨t00, t01, t10, t11, t20, t21, t30, t31, t40, t41, t50, t51, t60, t61⟩ (fun hHeld => ?_)
        clear hK K
        try simp only [Act.put, List.setIfInBounds_toArray, List.set_cons_zero, List.set_cons_succ]
        refine wpAnyH_take (i := 51) (v := ?_) (by simp only [List.getElem?_toArray, List.getElem?_cons_succ, List.getElem?_cons_zero]; rfl) (by kernel_rfl) (by kernel_rfl) (by kernel_rfl) (by intro _ _ _ h; exact h) (Or.inl ⟨by rfl, ?_⟩) (by assumption) ?_
        rotate_left
        · (intro w hSw; (try dsimp only at hSw); go_simp; try with_reducible rfl)
        try simp only [Act.put, List.setIfInBounds_toArray, List.set_cons_zero, List.set_cons_succ]
        refine wpAnyH_take (i := 52) (v := ?_) (by simp only [List.getElem?_toArray, List.getElem?_cons_succ, List.getElem?_cons_zero]; rfl) (by kernel_rfl) (by kernel_rfl) (by kernel_rfl) (by intro _ _ _ h; exact h) (Or.inl ⟨by rfl, ?_⟩) (by assumption) ?_
        rotate_left
        · (intro w hSw; (try dsimp only at hSw); go_simp; try with_reducible rfl)
        try simp only [Act.put, List.setIfInBounds_toArray, List.set_cons_zero, List.set_cons_succ]
        refine wpAnyH_take (i := 53) (v := ?_) (by simp only [List.getElem?_toArray, List.getElem?_cons_succ, List.getElem?_cons_zero]; rfl) (by kernel_rfl) (by kernel_rfl) (by kernel_rfl) (by intro _ _ _ h; exact h) (Or.inl ⟨by rfl, ?_⟩) (by assumption) ?_
        rotate_left
        · (intro w hSw; (try dsimp only at hSw); go_simp; try with_reducible rfl)
        try simp only [Act.put, List.setIfInBounds_toArray, List.set_cons_zero, List.set_cons_succ]
        refine wpAnyH_take (i := 54) (v := ?_) (by simp only [List.getElem?_toArray, List.getElem?_cons_succ, List.getElem?_cons_zero]; rfl) (by kernel_rfl) (by kernel_rfl) (by kernel_rfl) (by intro _ _ _ h; exact h) (Or.inl ⟨by rfl, ?_⟩) (by assumption) ?_
        rotate_left
        · (intro w hSw; (try dsimp only at hSw); go_simp; try with_reducible rfl)
        try simp only [Act.put, List.setIfInBounds_toArray, List.set_cons_zero, List.set_cons_succ]
        refine wpAnyH_take (i := 55) (v := ?_) (by simp only [List.getElem?_toArray, List.getElem?_cons_succ, List.getElem?_cons_zero]; rfl) (by kernel_rfl) (by kernel_rfl) (by kernel_rfl) (by intro _ _ _ h; exact h) (Or.inl ⟨by rfl, ?_⟩) (by assumption) ?_
        rotate_left
        · (intro w hSw; (try dsimp only at hSw); go_simp; try with_reducible rfl)
        try simp only [Act.put, List.setIfInBounds_toArray, List.set_cons_zero, List.set_cons_succ]
        refine wpAnyH_take (i := 56) (v := ?_) (by simp only [List.getElem?_toArray, List.getElem?_cons_succ, List.getElem?_cons_zero]; rfl) (by kernel_rfl) (by kernel_rfl) (by kernel_rfl) (by intro _ _ _ h; exact h) (Or.inl ⟨by rfl, ?_⟩) (by assumption) ?_
        rotate_left
        · (intro w hSw; (try dsimp only at hSw); go_simp; try with_reducible rfl)
        try simp only [Act.put, List.setIfInBounds_toArray, List.set_cons_zero, List.set_cons_succ]
        refine wpAnyH_take (i := 57) (v := ?_) (by simp only [List.getElem?_toArray, List.getElem?_cons_succ, List.getElem?_cons_zero]; rfl) (by kernel_rfl) (by kernel_rfl) (by kernel_rfl) (by intro _ _ _ h; exact h) (Or.inl ⟨by rfl, ?_⟩) (by assumption) ?_
        rotate_left
        · (intro w hSw; (try dsimp only at hSw); go_simp; try with_reducible rfl)
        try simp only [Act.put, List.setIfInBounds_toArray, List.set_cons_zero, List.set_cons_succ]
        refine wpAnyH_take (i := 58) (v := ?_) (by simp only [List.getElem?_toArray, List.getElem?_cons_succ, List.getElem?_cons_zero]; rfl) (by kernel_rfl) (by kernel_rfl) (by kernel_rfl) (by intro _ _ _ h; exact h) (Or.inl ⟨by rfl, ?_⟩) (by assumption) ?_
        rotate_left
        · (intro w hSw; (try dsimp only at hSw); go_simp; try with_reducible rfl)
        try simp only [Act.put, List.setIfInBounds_toArray, List.set_cons_zero, List.set_cons_succ]
        refine wpAnyH_done (by kernel_rfl) ?_ _
        go_wp2
        go_ret
        exact ⟨rfl, B8.out⟩
      · have hz1 : (z.1 == 0) = false := by simp [hz]
        have hcv : ((z.1 == 0) && (z.2 == 0)) = false := by rw [hz1, Bool.false_and]
        simp only [hcv] at cl
        have CL2 := Lib.hid cl
        clear cl hcv hz
        go_wp2
        refine wp_region_held_drew (S := fun w' => w'.cell? ⟨w3.heap.size, 0, none⟩ = some (.int .i64 d.1) ∧ w'.cell? ⟨w3.heap.size, 1, none⟩ = some (.int .i64 d.2) ∧ w'.cell? ⟨w4.heap.size, 0, none⟩ = some (.int .i64 lo.1) ∧ w'.cell? ⟨w4.heap.size, 1, none⟩ = some (.int .i64 lo.2) ∧ w'.cell? ⟨w4.heap.size + 1, 0, none⟩ = some (.int .i64 hi.1) ∧ w'.cell? ⟨w4.heap.size + 1, 1, none⟩ = some (.int .i64 hi.2) ∧ w'.cell? ⟨w6.heap.size, 0, none⟩ = some (.int .i64 d.1) ∧ w'.cell? ⟨w6.heap.size, 1, none⟩ = some (.int .i64 d.2) ∧ w'.cell? ⟨w6.heap.size + 1, 0, none⟩ = some (.int .i64 lo.1) ∧ w'.cell? ⟨w6.heap.size + 1, 1, none⟩ = some (.int .i64 lo.2) ∧ w'.cell? ⟨w6.heap.size + 1 + 1, 0, none⟩ = some (.int .i64 hi.1) ∧ w'.cell? ⟨w6.heap.size + 1 + 1, 1, none⟩ = some (.int .i64 hi.2) ∧ w'.cell? ⟨wr.heap.size, 0, none⟩ = some (.int .i64 z.1) ∧ w'.cell? ⟨wr.heap.size, 1, none⟩ = some (.int .i64 z.2)) (by kernel_rfl) ⟨s00, s01, s10, s11, s20, s21, s30, s31, s40, s41, s50, s51, s60, s61⟩ ?_
        intro hHeld
        refine wpAnyH_take (i := 0) (v := ?_) (by simp only [List.getElem?_toArray, List.getElem?_cons_zero]; rfl) (by kernel_rfl) (by kernel_rfl) (by kernel_rfl) (by intro _ _ _ h; exact h) (Or.inl ⟨by rfl, ?_⟩) (by assumption) ?_
        rotate_left
        · (intro w hSw; (try dsimp only at hSw); go_simp; try with_reducible rfl)
        try simp only [Act.put, List.setIfInBounds_toArray, List.set_cons_zero, List.set_cons_succ]
        refine wpAnyH_take (i := 1) (v := ?_) (by simp only [List.getElem?_toArray, List.getElem?_cons_succ, List.getElem?_cons_zero]; rfl) (by kernel_rfl) (by kernel_rfl) (by kernel_rfl) (by intro _ _ _ h; exact h) (Or.inl ⟨by rfl, ?_⟩) (by assumption) ?_
        rotate_left
        · (intro w hSw; (try dsimp only at hSw); go_simp; try with_reducible rfl)
        try simp only [Act.put, List.setIfInBounds_toArray, List.set_cons_zero, List.set_cons_succ]
        refine wpAnyH_take (i := 2) (v := ?_) (by simp only [List.getElem?_toArray, List.getElem?_cons_succ, List.getElem?_cons_zero]; rfl) (by kernel_rfl) (by kernel_rfl) (by kernel_rfl) (by intro _ _ _ h; exact h) (Or.inl ⟨by rfl, ?_⟩) (by assumption) ?_
        rotate_left
        · (intro w hSw; (try dsimp only at hSw); go_simp; try with_reducible rfl)
        try simp only [Act.put, List.setIfInBounds_toArray, List.set_cons_zero, List.set_cons_succ]
        refine wpAnyH_take (i := 3) (v := ?_) (by simp only [List.getElem?_toArray, List.getElem?_cons_succ, List.getElem?_cons_zero]; rfl) (by kernel_rfl) (by kernel_rfl) (by kernel_rfl) (by intro _ _ _ h; exact h) (Or.inl ⟨by rfl, ?_⟩) (by assumption) ?_
        rotate_left
        · (intro w hSw; (try dsimp only at hSw); go_simp; try with_reducible rfl)
        try simp only [Act.put, List.setIfInBounds_toArray, List.set_cons_zero, List.set_cons_succ]
        refine wpAnyH_take (i := 4) (v := ?_) (by simp only [List.getElem?_toArray, List.getElem?_cons_succ, List.getElem?_cons_zero]; rfl) (by kernel_rfl) (by kernel_rfl) (by kernel_rfl) (by intro _ _ _ h; exact h) (Or.inl ⟨by rfl, ?_⟩) (by assumption) ?_
        rotate_left
        · (intro w hSw; (try dsimp only at hSw); go_simp; try with_reducible rfl)
        try simp only [Act.put, List.setIfInBounds_toArray, List.set_cons_zero, List.set_cons_succ]
        refine wpAnyH_take (i := 5) (v := ?_) (by simp only [List.getElem?_toArray, List.getElem?_cons_succ, List.getElem?_cons_zero]; rfl) (by kernel_rfl) (by kernel_rfl) (by kernel_rfl) (by intro _ _ _ h; exact h) (Or.inl ⟨by rfl, ?_⟩) (by assumption) ?_
        rotate_left
        · (intro w hSw; (try dsimp only at hSw); go_simp; try with_reducible rfl)
        try simp only [Act.put, List.setIfInBounds_toArray, List.set_cons_zero, List.set_cons_succ]
        refine wpAnyH_take (i := 6) (v := ?_) (by simp only [List.getElem?_toArray, List.getElem?_cons_succ, List.getElem?_cons_zero]; rfl) (by kernel_rfl) (by kernel_rfl) (by kernel_rfl) (by intro _ _ _ h; exact h) (Or.inl ⟨by rfl, ?_⟩) (by assumption) ?_
        rotate_left
        · (intro w hSw; (try dsimp only at hSw); go_simp; try with_reducible rfl)
        try simp only [Act.put, List.setIfInBounds_toArray, List.set_cons_zero, List.set_cons_succ]
        refine wpAnyH_take (i := 7) (v := ?_) (by simp only [List.getElem?_toArray, List.getElem?_cons_succ, List.getElem?_cons_zero]; rfl) (by kernel_rfl) (by kernel_rfl) (by kernel_rfl) (by intro _ _ _ h; exact h) (Or.inl ⟨by rfl, ?_⟩) (by assumption) ?_
        rotate_left
        · (intro w hSw; (try dsimp only at hSw); go_simp; try with_reducible rfl)
        try simp only [Act.put, List.setIfInBounds_toArray, List.set_cons_zero, List.set_cons_succ]
        refine wpAnyH_take (i := 8) (v := ?_) (by simp only [List.getElem?_toArray, List.getElem?_cons_succ, List.getElem?_cons_zero]; rfl) (by kernel_rfl) (by kernel_rfl) (by kernel_rfl) (by intro _ _ _ h; exact h) (Or.inl ⟨by rfl, ?_⟩) (by assumption) ?_
        rotate_left
        · (intro w hSw; (try dsimp only at hSw); go_simp; try with_reducible rfl)
        try simp only [Act.put, List.setIfInBounds_toArray, List.set_cons_zero, List.set_cons_succ]
        refine wpAnyH_take (i := 9) (v := ?_) (by simp only [List.getElem?_toArray, List.getElem?_cons_succ, List.getElem?_cons_zero]; rfl) (by kernel_rfl) (by kernel_rfl) (by kernel_rfl) (by intro _ _ _ h; exact h) (Or.inl ⟨by rfl, ?_⟩) (by assumption) ?_
        rotate_left
        · (intro w hSw; (try dsimp only at hSw); go_simp; try with_reducible rfl)
        try simp only [Act.put, List.setIfInBounds_toArray, List.set_cons_zero, List.set_cons_succ]
        refine wpAnyH_take (i := 10) (v := ?_) (by simp only [List.getElem?_toArray, List.getElem?_cons_succ, List.getElem?_cons_zero]; rfl) (by kernel_rfl) (by kernel_rfl) (by kernel_rfl) (by intro _ _ _ h; exact h) (Or.inl ⟨by rfl, ?_⟩) (by assumption) ?_
        rotate_left
        · (intro w hSw; (try dsimp only at hSw); go_simp; try with_reducible rfl)
        try simp only [Act.put, List.setIfInBounds_toArray, List.set_cons_zero, List.set_cons_succ]
        refine wpAnyH_take (i := 11) (v := ?_) (by simp only [List.getElem?_toArray, List.getElem?_cons_succ, List.getElem?_cons_zero]; rfl) (by kernel_rfl) (by kernel_rfl) (by kernel_rfl) (by intro _ _ _ h; exact h) (Or.inl ⟨by rfl, ?_⟩) (by assumption) ?_
        rotate_left
        · (intro w hSw; (try dsimp only at hSw); go_simp; try with_reducible rfl)
        try simp only [Act.put, List.setIfInBounds_toArray, List.set_cons_zero, List.set_cons_succ]
        refine wpAnyH_take (i := 12) (v := ?_) (by simp only [List.getElem?_toArray, List.getElem?_cons_succ, List.getElem?_cons_zero]; rfl) (by kernel_rfl) (by kernel_rfl) (by kernel_rfl) (by intro _ _ _ h; exact h) (Or.inl ⟨by rfl, ?_⟩) (by assumption) ?_
        rotate_left
        · (intro w hSw; (try dsimp only at hSw); go_simp; try with_reducible rfl)
        try simp only [Act.put, List.setIfInBounds_toArray, List.set_cons_zero, List.set_cons_succ]
        refine wpAnyH_take (i := 13) (v := ?_) (by simp only [List.getElem?_toArray, List.getElem?_cons_succ, List.getElem?_cons_zero]; rfl) (by kernel_rfl) (by kernel_rfl) (by kernel_rfl) (by intro _ _ _ h; exact h) (Or.inl ⟨by rfl, ?_⟩) (by assumption) ?_
        rotate_left
        · (intro w hSw; (try dsimp only at hSw); go_simp; try with_reducible rfl)
        try simp only [Act.put, List.setIfInBounds_toArray, List.set_cons_zero, List.set_cons_succ]
        refine wpAnyH_take (i := 14) (v := ?_) (by simp only [List.getElem?_toArray, List.getElem?_cons_succ, List.getElem?_cons_zero]; rfl) (by kernel_rfl) (by kernel_rfl) (by kernel_rfl) (by intro _ _ _ h; exact h) (Or.inl ⟨by rfl, ?_⟩) (by assumption) ?_
        rotate_left
        · (intro w hSw; (try dsimp only at hSw); go_simp; try with_reducible rfl)
        try simp only [Act.put, List.setIfInBounds_toArray, List.set_cons_zero, List.set_cons_succ]
        refine wpAnyH_take (i := 15) (v := ?_) (by simp only [List.getElem?_toArray, List.getElem?_cons_succ, List.getElem?_cons_zero]; rfl) (by kernel_rfl) (by kernel_rfl) (by kernel_rfl) (by intro _ _ _ h; exact h) (Or.inl ⟨by rfl, ?_⟩) (by assumption) ?_
        rotate_left
        · (intro w hSw; (try dsimp only at hSw); go_simp; try with_reducible rfl)
        try simp only [Act.put, List.setIfInBounds_toArray, List.set_cons_zero, List.set_cons_succ]
        refine wpAnyH_take (i := 16) (v := ?_) (by simp only [List.getElem?_toArray, List.getElem?_cons_succ, List.getElem?_cons_zero]; rfl) (by kernel_rfl) (by kernel_rfl) (by kernel_rfl) (by intro _ _ _ h; exact h) (Or.inl ⟨by rfl, ?_⟩) (by assumption) ?_
        rotate_left
        · (intro w hSw; (try dsimp only at hSw); go_simp; try with_reducible rfl)
        try simp only [Act.put, List.setIfInBounds_toArray, List.set_cons_zero, List.set_cons_succ]
        refine wpAnyH_take (i := 17) (v := ?_) (by simp only [List.getElem?_toArray, List.getElem?_cons_succ, List.getElem?_cons_zero]; rfl) (by kernel_rfl) (by kernel_rfl) (by kernel_rfl) (by intro _ _ _ h; exact h) (Or.inl ⟨by rfl, ?_⟩) (by assumption) ?_
        rotate_left
        · (intro w hSw; (try dsimp only at hSw); go_simp; try with_reducible rfl)
        try simp only [Act.put, List.setIfInBounds_toArray, List.set_cons_zero, List.set_cons_succ]
        refine wpAnyH_take (i := 18) (v := ?_) (by simp only [List.getElem?_toArray, List.getElem?_cons_succ, List.getElem?_cons_zero]; rfl) (by kernel_rfl) (by kernel_rfl) (by kernel_rfl) (by intro _ _ _ h; exact h) (Or.inl ⟨by rfl, ?_⟩) (by assumption) ?_
        rotate_left
        · (intro w hSw; (try dsimp only at hSw); go_simp; try with_reducible rfl)
        try simp only [Act.put, List.setIfInBounds_toArray, List.set_cons_zero, List.set_cons_succ]
        refine wpAnyH_take (i := 19) (v := ?_) (by simp only [List.getElem?_toArray, List.getElem?_cons_succ, List.getElem?_cons_zero]; rfl) (by kernel_rfl) (by kernel_rfl) (by kernel_rfl) (by intro _ _ _ h; exact h) (Or.inl ⟨by rfl, ?_⟩) (by assumption) ?_
        rotate_left
        · (intro w hSw; (try dsimp only at hSw); go_simp; try with_reducible rfl)
        try simp only [Act.put, List.setIfInBounds_toArray, List.set_cons_zero, List.set_cons_succ]
        refine wpAnyH_take (i := 20) (v := ?_) (by simp only [List.getElem?_toArray, List.getElem?_cons_succ, List.getElem?_cons_zero]; rfl) (by kernel_rfl) (by kernel_rfl) (by kernel_rfl) (by intro _ _ _ h; exact h) (Or.inl ⟨by rfl, ?_⟩) (by assumption) ?_
        rotate_left
        · (intro w hSw; (try dsimp only at hSw); go_simp; try with_reducible rfl)
        try simp only [Act.put, List.setIfInBounds_toArray, List.set_cons_zero, List.set_cons_succ]
        refine wpAnyH_take (i := 21) (v := ?_) (by simp only [List.getElem?_toArray, List.getElem?_cons_succ, List.getElem?_cons_zero]; rfl) (by kernel_rfl) (by kernel_rfl) (by kernel_rfl) (by intro _ _ _ h; exact h) (Or.inl ⟨by rfl, ?_⟩) (by assumption) ?_
        rotate_left
        · (intro w hSw; (try dsimp only at hSw); go_simp; try with_reducible rfl)
        try simp only [Act.put, List.setIfInBounds_toArray, List.set_cons_zero, List.set_cons_succ]
        refine wpAnyH_take (i := 22) (v := ?_) (by simp only [List.getElem?_toArray, List.getElem?_cons_succ, List.getElem?_cons_zero]; rfl) (by kernel_rfl) (by kernel_rfl) (by kernel_rfl) (by intro _ _ _ h; exact h) (Or.inl ⟨by rfl, ?_⟩) (by assumption) ?_
        rotate_left
        · (intro w hSw; (try dsimp only at hSw); go_simp; try with_reducible rfl)
        try simp only [Act.put, List.setIfInBounds_toArray, List.set_cons_zero, List.set_cons_succ]
        refine wpAnyH_take (i := 23) (v := ?_) (by simp only [List.getElem?_toArray, List.getElem?_cons_succ, List.getElem?_cons_zero]; rfl) (by kernel_rfl) (by kernel_rfl) (by kernel_rfl) (by intro _ _ _ h; exact h) (Or.inl ⟨by rfl, ?_⟩) (by assumption) ?_
        rotate_left
        · (intro w hSw; (try dsimp only at hSw); go_simp; try with_reducible rfl)
        try simp only [Act.put, List.setIfInBounds_toArray, List.set_cons_zero, List.set_cons_succ]
        refine wpAnyH_take (i := 24) (v := ?_) (by simp only [List.getElem?_toArray, List.getElem?_cons_succ, List.getElem?_cons_zero]; rfl) (by kernel_rfl) (by kernel_rfl) (by kernel_rfl) (by intro _ _ _ h; exact h) (Or.inl ⟨by rfl, ?_⟩) (by assumption) ?_
        rotate_left
        · (intro w hSw; (try dsimp only at hSw); go_simp; try with_reducible rfl)
        try simp only [Act.put, List.setIfInBounds_toArray, List.set_cons_zero, List.set_cons_succ]
        refine wpAnyH_take (i := 25) (v := ?_) (by simp only [List.getElem?_toArray, List.getElem?_cons_succ, List.getElem?_cons_zero]; rfl) (by kernel_rfl) (by kernel_rfl) (by kernel_rfl) (by intro _ _ _ h; exact h) (Or.inl ⟨by rfl, ?_⟩) (by assumption) ?_
        rotate_left
        · (intro w hSw; (try dsimp only at hSw); go_simp; try with_reducible rfl)
        try simp only [Act.put, List.setIfInBounds_toArray, List.set_cons_zero, List.set_cons_succ]
        refine wpAnyH_take (i := 26) (v := ?_) (by simp only [List.getElem?_toArray, List.getElem?_cons_succ, List.getElem?_cons_zero]; rfl) (by kernel_rfl) (by kernel_rfl) (by kernel_rfl) (by intro _ _ _ h; exact h) (Or.inl ⟨by rfl, ?_⟩) (by assumption) ?_
        rotate_left
        · (intro w hSw; (try dsimp only at hSw); go_simp; try with_reducible rfl)
        try simp only [Act.put, List.setIfInBounds_toArray, List.set_cons_zero, List.set_cons_succ]
        refine wpAnyH_take (i := 27) (v := ?_) (by simp only [List.getElem?_toArray, List.getElem?_cons_succ, List.getElem?_cons_zero]; rfl) (by kernel_rfl) (by kernel_rfl) (by kernel_rfl) (by intro _ _ _ h; exact h) (Or.inl ⟨by rfl, ?_⟩) (by assumption) ?_
        rotate_left
        · (intro w hSw; (try dsimp only at hSw); go_simp; try with_reducible rfl)
        try simp only [Act.put, List.setIfInBounds_toArray, List.set_cons_zero, List.set_cons_succ]
        refine wpAnyH_take (i := 28) (v := ?_) (by simp only [List.getElem?_toArray, List.getElem?_cons_succ, List.getElem?_cons_zero]; rfl) (by kernel_rfl) (by kernel_rfl) (by kernel_rfl) (by intro _ _ _ h; exact h) (Or.inl ⟨by rfl, ?_⟩) (by assumption) ?_
        rotate_left
        · (intro w hSw; (try dsimp only at hSw); go_simp; try with_reducible rfl)
        try simp only [Act.put, List.setIfInBounds_toArray, List.set_cons_zero, List.set_cons_succ]
        refine wpAnyH_take (i := 29) (v := ?_) (by simp only [List.getElem?_toArray, List.getElem?_cons_succ, List.getElem?_cons_zero]; rfl) (by kernel_rfl) (by kernel_rfl) (by kernel_rfl) (by intro _ _ _ h; exact h) (Or.inl ⟨by rfl, ?_⟩) (by assumption) ?_
        rotate_left
        · (intro w hSw; (try dsimp only at hSw); go_simp; try with_reducible rfl)
        try simp only [Act.put, List.setIfInBounds_toArray, List.set_cons_zero, List.set_cons_succ]
        refine wpAnyH_take (i := 30) (v := ?_) (by simp only [List.getElem?_toArray, List.getElem?_cons_succ, List.getElem?_cons_zero]; rfl) (by kernel_rfl) (by kernel_rfl) (by kernel_rfl) (by intro _ _ _ h; exact h) (Or.inl ⟨by rfl, ?_⟩) (by assumption) ?_
        rotate_left
        · (intro w hSw; (try dsimp only at hSw); go_simp; try with_reducible rfl)
        try simp only [Act.put, List.setIfInBounds_toArray, List.set_cons_zero, List.set_cons_succ]
        refine wpAnyH_take (i := 31) (v := ?_) (by simp only [List.getElem?_toArray, List.getElem?_cons_succ, List.getElem?_cons_zero]; rfl) (by kernel_rfl) (by kernel_rfl) (by kernel_rfl) (by intro _ _ _ h; exact h) (Or.inl ⟨by rfl, ?_⟩) (by assumption) ?_
        rotate_left
        · (intro w hSw; (try dsimp only at hSw); go_simp; try with_reducible rfl)
        try simp only [Act.put, List.setIfInBounds_toArray, List.set_cons_zero, List.set_cons_succ]
        refine wpAnyH_take (i := 32) (v := ?_) (by simp only [List.getElem?_toArray, List.getElem?_cons_succ, List.getElem?_cons_zero]; rfl) (by kernel_rfl) (by kernel_rfl) (by kernel_rfl) (by intro _ _ _ h; exact h) (Or.inl ⟨by rfl, ?_⟩) (by assumption) ?_
        rotate_left
        · (intro w hSw; (try dsimp only at hSw); go_simp; try with_reducible rfl)
        try simp only [Act.put, List.setIfInBounds_toArray, List.set_cons_zero, List.set_cons_succ]
        refine wpAnyH_take (i := 33) (v := ?_) (by simp only [List.getElem?_toArray, List.getElem?_cons_succ, List.getElem?_cons_zero]; rfl) (by kernel_rfl) (by kernel_rfl) (by kernel_rfl) (by intro _ _ _ h; exact h) (Or.inl ⟨by rfl, ?_⟩) (by assumption) ?_
        rotate_left
        · (intro w hSw; (try dsimp only at hSw); go_simp; try with_reducible rfl)
        try simp only [Act.put, List.setIfInBounds_toArray, List.set_cons_zero, List.set_cons_succ]
        refine wpAnyH_take (i := 34) (v := ?_) (by simp only [List.getElem?_toArray, List.getElem?_cons_succ, List.getElem?_cons_zero]; rfl) (by kernel_rfl) (by kernel_rfl) (by kernel_rfl) (by intro _ _ _ h; exact h) (Or.inl ⟨by rfl, ?_⟩) (by assumption) ?_
        rotate_left
        · (intro w hSw; (try dsimp only at hSw); go_simp; try with_reducible rfl)
        try simp only [Act.put, List.setIfInBounds_toArray, List.set_cons_zero, List.set_cons_succ]
        refine wpAnyH_take (i := 35) (v := ?_) (by simp only [List.getElem?_toArray, List.getElem?_cons_succ, List.getElem?_cons_zero]; rfl) (by kernel_rfl) (by kernel_rfl) (by kernel_rfl) (by intro _ _ _ h; exact h) (Or.inl ⟨by rfl, ?_⟩) (by assumption) ?_
        rotate_left
        · (intro w hSw; (try dsimp only at hSw); go_simp; try with_reducible rfl)
        try simp only [Act.put, List.setIfInBounds_toArray, List.set_cons_zero, List.set_cons_succ]
        refine wpAnyH_take (i := 36) (v := ?_) (by simp only [List.getElem?_toArray, List.getElem?_cons_succ, List.getElem?_cons_zero]; rfl) (by kernel_rfl) (by kernel_rfl) (by kernel_rfl) (by intro _ _ _ h; exact h) (Or.inl ⟨by rfl, ?_⟩) (by assumption) ?_
        rotate_left
        · (intro w hSw; (try dsimp only at hSw); go_simp; try with_reducible rfl)
        try simp only [Act.put, List.setIfInBounds_toArray, List.set_cons_zero, List.set_cons_succ]
        refine wpAnyH_take (i := 37) (v := ?_) (by simp only [List.getElem?_toArray, List.getElem?_cons_succ, List.getElem?_cons_zero]; rfl) (by kernel_rfl) (by kernel_rfl) (by kernel_rfl) (by intro _ _ _ h; exact h) (Or.inl ⟨by rfl, ?_⟩) (by assumption) ?_
        rotate_left
        · (intro w hSw; (try dsimp only at hSw); go_simp; try with_reducible rfl)
        try simp only [Act.put, List.setIfInBounds_toArray, List.set_cons_zero, List.set_cons_succ]
        refine wpAnyH_take (i := 38) (v := ?_) (by simp only [List.getElem?_toArray, List.getElem?_cons_succ, List.getElem?_cons_zero]; rfl) (by kernel_rfl) (by kernel_rfl) (by kernel_rfl) (by intro _ _ _ h; exact h) (Or.inl ⟨by rfl, ?_⟩) (by assumption) ?_
        rotate_left
        · (intro w hSw; (try dsimp only at hSw); go_simp; try with_reducible rfl)
        try simp only [Act.put, List.setIfInBounds_toArray, List.set_cons_zero, List.set_cons_succ]
        refine wpAnyH_take (i := 39) (v := ?_) (by simp only [List.getElem?_toArray, List.getElem?_cons_succ, List.getElem?_cons_zero]; rfl) (by kernel_rfl) (by kernel_rfl) (by kernel_rfl) (by intro _ _ _ h; exact h) (Or.inl ⟨by rfl, ?_⟩) (by assumption) ?_
        rotate_left
        · (intro w hSw; (try dsimp only at hSw); go_simp; try with_reducible rfl)
        try simp only [Act.put, List.setIfInBounds_toArray, List.set_cons_zero, List.set_cons_succ]
        refine wpAnyH_take (i := 40) (v := ?_) (by simp only [List.getElem?_toArray, List.getElem?_cons_succ, List.getElem?_cons_zero]; rfl) (by kernel_rfl) (by kernel_rfl) (by kernel_rfl) (by intro _ _ _ h; exact h) (Or.inl ⟨by rfl, ?_⟩) (by assumption) ?_
        rotate_left
        · (intro w hSw; (try dsimp only at hSw); go_simp; try with_reducible rfl)
        try simp only [Act.put, List.setIfInBounds_toArray, List.set_cons_zero, List.set_cons_succ]
        refine wpAnyH_take (i := 41) (v := ?_) (by simp only [List.getElem?_toArray, List.getElem?_cons_succ, List.getElem?_cons_zero]; rfl) (by kernel_rfl) (by kernel_rfl) (by kernel_rfl) (by intro _ _ _ h; exact h) (Or.inl ⟨by rfl, ?_⟩) (by assumption) ?_
        rotate_left
        · (intro w hSw; (try dsimp only at hSw); go_simp; try with_reducible rfl)
        try simp only [Act.put, List.setIfInBounds_toArray, List.set_cons_zero, List.set_cons_succ]
        refine wpAnyH_take (i := 42) (v := ?_) (by simp only [List.getElem?_toArray, List.getElem?_cons_succ, List.getElem?_cons_zero]; rfl) (by kernel_rfl) (by kernel_rfl) (by kernel_rfl) (by intro _ _ _ h; exact h) (Or.inl ⟨by rfl, ?_⟩) (by assumption) ?_
        rotate_left
        · (intro w hSw; (try dsimp only at hSw); go_simp; try with_reducible rfl)
        try simp only [Act.put, List.setIfInBounds_toArray, List.set_cons_zero, List.set_cons_succ]
        refine wpAnyH_take (i := 43) (v := ?_) (by simp only [List.getElem?_toArray, List.getElem?_cons_succ, List.getElem?_cons_zero]; rfl) (by kernel_rfl) (by kernel_rfl) (by kernel_rfl) (by intro _ _ _ h; exact h) (Or.inl ⟨by rfl, ?_⟩) (by assumption) ?_
        rotate_left
        · (intro w hSw; (try dsimp only at hSw); go_simp; try with_reducible rfl)
        try simp only [Act.put, List.setIfInBounds_toArray, List.set_cons_zero, List.set_cons_succ]
        refine wpAnyH_take (i := 44) (v := ?_) (by simp only [List.getElem?_toArray, List.getElem?_cons_succ, List.getElem?_cons_zero]; rfl) (by kernel_rfl) (by kernel_rfl) (by kernel_rfl) (by intro _ _ _ h; exact h) (Or.inl ⟨by rfl, ?_⟩) (by assumption) ?_
        rotate_left
        · (intro w hSw; (try dsimp only at hSw); go_simp; try with_reducible rfl)
        try simp only [Act.put, List.setIfInBounds_toArray, List.set_cons_zero, List.set_cons_succ]
        refine wpAnyH_take (i := 45) (v := ?_) (by simp only [List.getElem?_toArray, List.getElem?_cons_succ, List.getElem?_cons_zero]; rfl) (by kernel_rfl) (by kernel_rfl) (by kernel_rfl) (by intro _ _ _ h; exact h) (Or.inl ⟨by rfl, ?_⟩) (by assumption) ?_
        rotate_left
        · (intro w hSw; (try dsimp only at hSw); go_simp; try with_reducible rfl)
        try simp only [Act.put, List.setIfInBounds_toArray, List.set_cons_zero, List.set_cons_succ]
        refine wpAnyH_take (i := 46) (v := ?_) (by simp only [List.getElem?_toArray, List.getElem?_cons_succ, List.getElem?_cons_zero]; rfl) (by kernel_rfl) (by kernel_rfl) (by kernel_rfl) (by intro _ _ _ h; exact h) (Or.inl ⟨by rfl, ?_⟩) (by assumption) ?_
        rotate_left
        · (intro w hSw; (try dsimp only at hSw); go_simp; try with_reducible rfl)
        try simp only [Act.put, List.setIfInBounds_toArray, List.set_cons_zero, List.set_cons_succ]
        refine wpAnyH_take (i := 48) (v := ?_) (by simp only [List.getElem?_toArray, List.getElem?_cons_succ, List.getElem?_cons_zero]; rfl) (by kernel_rfl) (by kernel_rfl) (by kernel_rfl) (by intro _ _ _ h; exact h) (Or.inl ⟨by rfl, ?_⟩) (by assumption) ?_
        rotate_left
        · (intro w hSw; (try dsimp only at hSw); go_simp; try with_reducible rfl)
        try simp only [Act.put, List.setIfInBounds_toArray, List.set_cons_zero, List.set_cons_succ]
        refine wpAnyH_take (i := 49) (v := ?_) (by simp only [List.getElem?_toArray, List.getElem?_cons_succ, List.getElem?_cons_zero]; rfl) (by kernel_rfl) (by kernel_rfl) (by kernel_rfl) (by intro _ _ _ h; exact h) (Or.inl ⟨by rfl, ?_⟩) (by assumption) ?_
        rotate_left
        · (intro w hSw; (try dsimp only at hSw); go_simp; try with_reducible rfl)
        try simp only [Act.put, List.setIfInBounds_toArray, List.set_cons_zero, List.set_cons_succ]
        refine wpAnyH_take (i := 50) (v := ?_) (by simp only [List.getElem?_toArray, List.getElem?_cons_succ, List.getElem?_cons_zero]; rfl) (by kernel_rfl) (by kernel_rfl) (by kernel_rfl) (by intro _ _ _ h; exact h) (Or.inl ⟨by rfl, ?_⟩) (by assumption) ?_
        rotate_left
        · (intro w hSw; (try dsimp only at hSw); go_simp; try with_reducible rfl)
        try simp only [Act.put, List.setIfInBounds_toArray, List.set_cons_zero, List.set_cons_succ]
        refine wpAnyH_ready (rs := [47]) (by kernel_rfl) (by simp) ?_
        refine AllReadyH.cons (by simp only [List.getElem?_toArray, List.getElem?_cons_succ, List.getElem?_cons_zero]; rfl) (fun K hK => ?_) AllReadyH.nil
        go_simp
        refine (CL2.out _ BWF.out.drew).mono ?_
        rintro e w8 ⟨rfl, hb8⟩
        have s8 := hb8.size
        simp [World.drew] at s8
        have B8 := Lib.hid (BALL.out.drew.trans (hb8.mono (by have := BALL.out.size; simp [World.drew] at this ⊢; omega)))
        obtain ⟨t00, t01, _, _⟩ := cells_two ((hb8.block w3.heap.size (by simp [World.drew] <;> omega)).trans E1.out)
        obtain ⟨t10, t11, _, _⟩ := cells_two ((hb8.block w4.heap.size (by simp [World.drew] <;> omega)).trans E2.out)
        obtain ⟨t20, t21, _, _⟩ := cells_two ((hb8.block (w4.heap.size + 1) (by simp [World.drew] <;> omega)).trans E3.out)
        obtain ⟨t30, t31, _, _⟩ := cells_two ((hb8.block w6.heap.size (by simp [World.drew] <;> omega)).trans E4.out)
        obtain ⟨t40, t41, _, _⟩ := cells_two ((hb8.block (w6.heap.size + 1) (by simp [World.drew] <;> omega)).trans E5.out)
        obtain ⟨t50, t51, _, _⟩ := cells_two ((hb8.block (w6.heap.size + 1 + 1) (by simp [World.drew] <;> omega)).trans E6.out)
        obtain ⟨t60, t61, _, _⟩ := cells_two ((hb8.block wr.heap.size (by simp [World.drew] <;> omega)).trans E7.out)
        clear hb8
        refine hK.out _ _ ⟨t00, t01, t10, t11, t20, t21, t30, t31, t40, t41, t50, t51, t60, t61⟩ (fun hHeld => ?_)
        clear hK K
        try simp only [Act.put, List.setIfInBounds_toArray, List.set_cons_zero, List.set_cons_succ]
        refine wpAnyH_take (i := 51) (v := ?_) (by simp only [List.getElem?_toArray, List.getElem?_cons_succ, List.getElem?_cons_zero]; rfl) (by kernel_rfl) (by kernel_rfl) (by kernel_rfl) (by intro _ _ _ h; exact h) (Or.inl ⟨by rfl, ?_⟩) (by assumption) ?_
        rotate_left
        · (intro w hSw; (try dsimp only at hSw); go_simp; try with_reducible rfl)
        try simp only [Act.put, List.setIfInBounds_toArray, List.set_cons_zero, List.set_cons_succ]
        refine wpAnyH_take (i := 52) (v := undef) (by simp only [List.getElem?_toArray, List.getElem?_cons_succ, List.getElem?_cons_zero]; rfl) (by kernel_rfl) (by kernel_rfl) (by kernel_rfl) (by intro _ _ _ h; exact h) (Or.inr ⟨by rfl, rfl⟩) (by assumption) ?_
        try simp only [Act.put, List.setIfInBounds_toArray, List.set_cons_zero, List.set_cons_succ]
        refine wpAnyH_take (i := 53) (v := undef) (by simp only [List.getElem?_toArray, List.getElem?_cons_succ, List.getElem?_cons_zero]; rfl) (by kernel_rfl) (by kernel_rfl) (by kernel_rfl) (by intro _ _ _ h; exact h) (Or.inr ⟨by rfl, rfl⟩) (by assumption) ?_
        try simp only [Act.put, List.setIfInBounds_toArray, List.set_cons_zero, List.set_cons_succ]
        refine wpAnyH_take (i := 54) (v := undef) (by simp only [List.getElem?_toArray, List.getElem?_cons_succ, List.getElem?_cons_zero]; rfl) (by kernel_rfl) (by kernel_rfl) (by kernel_rfl) (by intro _ _ _ h; exact h) (Or.inr ⟨by rfl, rfl⟩) (by assumption) ?_
        try simp only [Act.put, List.setIfInBounds_toArray, List.set_cons_zero, List.set_cons_succ]
        refine wpAnyH_take (i := 55) (v := ?_) (by simp only [List.getElem?_toArray, List.getElem?_cons_succ, List.getElem?_cons_zero]; rfl) (by kernel_rfl) (by kernel_rfl) (by kernel_rfl) (by intro _ _ _ h; exact h) (Or.inl ⟨by rfl, ?_⟩) (by assumption) ?_
        rotate_left
        · (intro w hSw; (try dsimp only at hSw); go_simp; try with_reducible rfl)
        try simp only [Act.put, List.setIfInBounds_toArray, List.set_cons_zero, List.set_cons_succ]
        refine wpAnyH_take (i := 56) (v := ?_) (by simp only [List.getElem?_toArray, List.getElem?_cons_succ, List.getElem?_cons_zero]; rfl) (by kernel_rfl) (by kernel_rfl) (by kernel_rfl) (by intro _ _ _ h; exact h) (Or.inl ⟨by rfl, ?_⟩) (by assumption) ?_
        rotate_left
        · (intro w hSw; (try dsimp only at hSw); go_simp; try with_reducible rfl)
        try simp only [Act.put, List.setIfInBounds_toArray, List.set_cons_zero, List.set_cons_succ]
        refine wpAnyH_take (i := 57) (v := ?_) (by simp only [List.getElem?_toArray, List.getElem?_cons_succ, List.getElem?_cons_zero]; rfl) (by kernel_rfl) (by kernel_rfl) (by kernel_rfl) (by intro _ _ _ h; exact h) (Or.inl ⟨by rfl, ?_⟩) (by assumption) ?_
        rotate_left
        · (intro w hSw; (try dsimp only at hSw); go_simp; try with_reducible rfl)
        try simp only [Act.put, List.setIfInBounds_toArray, List.set_cons_zero, List.set_cons_succ]
        refine wpAnyH_take (i := 58) (v := ?_) (by simp only [List.getElem?_toArray, List.getElem?_cons_succ, List.getElem?_cons_zero]; rfl) (by kernel_rfl) (by kernel_rfl) (by kernel_rfl) (by intro _ _ _ h; exact h) (Or.inl ⟨by rfl, ?_⟩) (by assumption) ?_
        rotate_left
        · (intro w hSw; (try dsimp only at hSw); go_simp; try with_reducible rfl)
        try simp only [Act.put, List.setIfInBounds_toArray, List.set_cons_zero, List.set_cons_succ]
        refine wpAnyH_done (by kernel_rfl) ?_ _
        go_wp2
        go_ret
        exact ⟨rfl, B8.out⟩
end Go.Proofs.Ytjmfgpklemhomab
