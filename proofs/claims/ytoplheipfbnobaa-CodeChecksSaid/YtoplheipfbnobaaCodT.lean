/- The reference's right. -/
import Derived.Test.YtoplheipfbnobaaCodS
import Derived.Test.YtoplheipfbnobaaCodU
namespace Go.Proofs.Ytoplheipfbnobaa
open Go.RowKit OctM CodM

theorem alloc_kept {X w' : World} {cs : Array Value} {t : TypeId} (h : Below (X.alloc (.cells cs t)).heap.size (X.alloc (.cells cs t)) w') : w'.heap[X.heap.size]? = some (.cells cs t (0, 0)) :=
  (h.block _ (by simp)).trans (heap_alloc_new X _)
theorem alloc_kept' {X w' : World} {cs : Array Value} {t : TypeId} (h : Below (X.alloc (.cells cs t)).drew.heap.size (X.alloc (.cells cs t)).drew w') : w'.heap[X.heap.size]? = some (.cells cs t (0, 0)) :=
  (h.block _ (by show X.heap.size < (X.alloc (.cells cs t)).heap.size; simp)).trans (heap_alloc_new X _)
theorem set_three {w : World} {b : Nat} {u v x u' v' x' : Value} {t : TypeId} (h : w.heap[b]? = some (.cells #[u, v, x] t (0, 0))) : (((w.setCell ⟨b, 0, none⟩ u').setCell ⟨b, 1, none⟩ v').setCell ⟨b, 2, none⟩ x').heap[b]? = some (.cells #[u', v', x'] t (0, 0)) := by simp [World.setCell, Array.getElem?_modify, h]
theorem set_three2 {w : World} {b : Nat} {u v x x' : Value} {t : TypeId} (h : w.heap[b]? = some (.cells #[u, v, x] t (0, 0))) : (w.setCell ⟨b, 2, none⟩ x').heap[b]? = some (.cells #[u, v, x'] t (0, 0)) := by simp [World.setCell, Array.getElem?_modify, h]
theorem cells_three_new (w : World) (x y z : Value) (t : TypeId) : ∀ j u, [x, y, z][j]? = some u → (w.alloc (.cells #[x, y, z] t)).cell? ((⟨w.heap.size, 0, none⟩ : Addr).add j) = some u := by
  intro j u hj
  exact World.news_of_block (w := w.alloc (.cells #[x, y, z] t)) (heap_alloc_new w _) j u (by simpa using hj)
theorem append_seen {w : World} {base : Nat} {v : Value} {l : List Sn} {p : Sn} (hown : OwnN w base v l) (a : Addr) (hc : ∀ j u, [Value.int .i64 (p.1 : Int), .int .i64 p.2.1, .int .i64 p.2.2][j]? = some u → w.cell? (a.add j) = some u) (hl : l.length ≤ 1000000) (hbase : base ≤ w.heap.size) (ty : TypeId) :
    ∃ v' w', (Builtin.append_ #[80, 80] ty #[v, .slice (some a) 1 1]).run Try.prog w = .ok v' w' ∧ OwnN w' base v' (l ++ [p]) ∧ w.grownBy w' v.ownBlock ∧ (v'.ownBlock = v.ownBlock ∨ v'.ownBlock = some w.heap.size) := by
  obtain ⟨i0, hi0, hz0, hz1, hz2⟩ := info_parts seenInfo
  obtain ⟨v', w', hr, h2, h3, _, h5⟩ := run_append_own_at (P := Try.prog) w base 80 ty 79 i0 _ 3 24 Try.underlying80 hi0 hz0 hz1 hz2 rfl (by decide) v l.length (CsN l) hown a 1 1 [Value.int .i64 (p.1 : Int), .int .i64 p.2.1, .int .i64 p.2.2]
    (by rfl) hc (by simp [Value.oneCell']) (by unfold maxLen; omega) (by omega) hbase
  refine ⟨v', w', hr, ?_, h3, h5⟩
  unfold OwnN
  rw [List.length_append, CsN_append]
  exact h2
/-- Is it known that one comes to place S0? -/
def KnB (kb : Bool) (l : List Sn) (S0 : Nat) : Prop := kb = true ↔ ∃ q ∈ l, q.1 = S0
theorem balloc {a b : World} {o : Obj} (h : Below a.heap.size a b) : Below a.heap.size a (b.alloc o) := h.alloc h.size _

set_option maxHeartbeats 40000000 in
set_option maxRecDepth 100000 in
theorem right_row (fs : List Fun) (globs : Int) (f : Fun) (w : World) (va : Value) (b off c : Nat) (hcaps : ¬ f.caps < 0) (hl : 0 < f.code.length) (hlc : f.code.length ≤ c) (hcm : c ≤ maxLen) (hc : InsC w b off f.code) (hf : RdF w va fs) (hn : f.code.length ≤ 100000) :
    Calls Try.prog 21 #[.agg #[.int .i64 f.caps, .slice (some ⟨b, off, none⟩) f.code.length c], va, .int .i64 globs] w (RiPost fs globs f w) := by
  unfold maxLen at hcm
  have hd : decide (f.caps < 0) = false := by simpa using hcaps
  have hd2 : ((f.code.length : Int) == 0) = false := by rw [beq_eq_false_iff_ne]; omega
  have HC := Lib.hid hc
  have HF := Lib.hid hf
  have hb0 : Below (w.heap.size + 1) (w.alloc (.cells #[.int .i64 f.caps, .slice (some ⟨b, off, none⟩) f.code.length c] 57)) ((w.alloc (.cells #[.int .i64 f.caps, .slice (some ⟨b, off, none⟩) f.code.length c] 57)).alloc (.cells #[.int .i64 0, .int .i64 1, .int .i64 0] 79)) := (Below.refl _ _).alloc (by simp) _
  have HB0 := Lib.hid hb0
  have HO0 := Lib.hid (show OwnN ((w.alloc (.cells #[.int .i64 f.caps, .slice (some ⟨b, off, none⟩) f.code.length c] 57)).alloc (.cells #[.int .i64 0, .int .i64 1, .int .i64 0] 79)) (w.heap.size + 1) (.slice (some ⟨(w.alloc (.cells #[.int .i64 f.caps, .slice (some ⟨b, off, none⟩) f.code.length c] 57)).heap.size, 0, none⟩) 1 1) [(0, 1, 0)] from ownN_lit _ _ (0, 1, 0) (by simp))
  have HW0 := Lib.hid (work_start (fs := fs) (globs := globs) (f := f) hl)
  clear hc hf hb0
  go_enter Try.func21, Try.ntmps21
  go_wp2_with fail
  go_loopw [7, 8] (fun L K wr => ∃ (k : Nat) (l : List Sn), k ≤ l.length ∧ K = .int .i64 k ∧ OwnN wr (w.heap.size + 1) L l ∧ Hid (Work fs globs f l k) ∧ Hid (Below (w.heap.size + 1) (w.alloc (.cells #[.int .i64 f.caps, .slice (some ⟨b, off, none⟩) f.code.length c] 57)) wr)) (fun _ K _ => f.code.length - (intOf K).toNat)
  case atStart => exact ⟨0, [(0, 1, 0)], by simp, rfl, by simpa using HO0.out, HW0, HB0⟩
  case round =>
    obtain ⟨k, l, hk, rfl, hown, HW, HB⟩ := hrel
    have hz := HB.out.size
    by_cases hlt : k < l.length
    · obtain ⟨g, cc, rfl, hlc2, hcm2, hg1, hg2⟩ := hown.form (by omega)
      unfold maxLen at hcm2
      have hlx : l[k]? = some l[k] := List.getElem?_eq_getElem hlt
      obtain ⟨p0, p1, p2⟩ := hown.cells k _ hlx
      have hpl := HW.out.lt l[k] (List.getElem_mem hlt)
      have hpb := HW.out.bd l[k] (List.getElem_mem hlt)
      have HM := Lib.hid (List.getElem_mem hlt)
      generalize l[k] = p at *
      obtain ⟨P, d, t⟩ := p
      simp only at p0 p1 p2 hpl hpb
      have hx : f.code[P]? = some f.code[P] := List.getElem?_eq_getElem hpl
      have hbw0 : Below w.heap.size w wr := (((Below.refl _ w).alloc (Nat.le_refl _) _)).trans (HB.out.mono (by omega))
      obtain ⟨x0, x1, x2, x3⟩ := (HC.out.below hbw0 (Nat.le_refl _)) P _ hx
      generalize f.code[P] = x at *
      obtain ⟨op, n, a, s⟩ := x
      simp only at x0 x1 x2 x3
      have hbx := World.block_lt_of_cell? wr _ x0
      simp only at hbx
      have hbox : wr.heap[w.heap.size]? = some (.cells #[.int .i64 f.caps, .slice (some ⟨b, off, none⟩) f.code.length c] 57 (0, 0)) := (HB.out.block _ (by omega)).trans (heap_alloc_new w _)
      have b0 : wr.cell? ⟨w.heap.size, 0, none⟩ = some (.int .i64 f.caps) := cellk hbox rfl
      have b1 : wr.cell? ⟨w.heap.size, 1, none⟩ = some (.slice (some ⟨b, off, none⟩) f.code.length c) := cellk hbox rfl
      have hzz : w.heap.size < wr.heap.size := lt_of_block hbox
      have hb2 : Below wr.heap.size wr ((wr.alloc (.cells #[.int .i64 (P : Int), .int .i64 d, .int .i64 t] 79)).alloc (.cells #[.int .u8 (op : Int), .int .i64 n, .int .i64 a, .string s] 58)) := ((Below.refl _ _).alloc (Nat.le_refl _) _).alloc (by simp) _
      have hB2 := hbw0.trans (hb2.mono (by omega))
      have hfi := fine_any fs f.caps globs d t (P : Int) op n a s _ va (some ⟨b, off, none⟩) f.code.length c (by omega) (by omega) (HF.out.below hB2 (Nat.le_refl _))
      unfold AlPost at hfi
      have hlI : (P : Int) < (f.code.length : Int) := by omega
      have hkI : (k : Int) < (l.length : Int) := by omega
      have HX := Lib.hid hx
      have HLX := Lib.hid hlx
      have HOWN := Lib.hid hown
      rcases hal : alw fs f.caps globs ⟨op, n, a, s⟩ d t with _ | _
      · have HO := Lib.hid (val_false (fs := fs) (globs := globs) (f := f) (.inr (HW.out.bad HM.out HX.out hal)))
        rw [hal] at hfi
        have HFI := Lib.hid hfi
        have HB2 := Lib.hid hB2
        clear hfi hal hB2 hb2 hx hlx hown hbw0 hbox
        go_wp2_with fail
        refine HFI.out.mono ?_
        rintro e w2 ⟨rfl, hb3⟩
        have HB3 := Lib.hid (HB2.out.trans (hb3.mono HB2.out.size))
        clear hb3
        go_wp2_with fail
        go_ret
        exact riPost HO.out HB3.out
      · rw [hal] at hfi
        have HFI := Lib.hid hfi
        have HB2 := Lib.hid hB2
        have HAL := Lib.hid hal
        clear hfi hal hB2 hx hlx hown hbw0 hbox hb2
        go_wp2_with fail
        refine HFI.out.mono ?_
        rintro e w3 ⟨rfl, hb3⟩
        obtain ⟨k1, k2⟩ := box2 hb3
        have l1 := lt_of_block k1
        have l2 := lt_of_block k2
        have q0 : w3.cell? ⟨wr.heap.size, 0, none⟩ = some (.int .i64 (P : Int)) := cellk k1 rfl
        have q1 : w3.cell? ⟨wr.heap.size, 1, none⟩ = some (.int .i64 d) := cellk k1 rfl
        have q2 : w3.cell? ⟨wr.heap.size, 2, none⟩ = some (.int .i64 t) := cellk k1 rfl
        have r0 : w3.cell? ⟨wr.heap.size + 1, 0, none⟩ = some (.int .u8 (op : Int)) := cellk k2 rfl
        have r1 : w3.cell? ⟨wr.heap.size + 1, 1, none⟩ = some (.int .i64 n) := cellk k2 rfl
        have r2 : w3.cell? ⟨wr.heap.size + 1, 2, none⟩ = some (.int .i64 a) := cellk k2 rfl
        have r3 : w3.cell? ⟨wr.heap.size + 1, 3, none⟩ = some (.string s) := cellk k2 rfl
        have HBX := Lib.hid (show Below wr.heap.size wr w3 from (((Below.refl _ _).alloc (Nat.le_refl _) _).alloc (by simp) _).trans (hb3.mono (by simp; omega)))
        have HK1 := Lib.hid k1
        have HK2 := Lib.hid k2
        clear hb3 k1 k2 x0 x1 x2 x3 b0 b1 p0 p1 p2
        obtain ⟨hT0, hT1, hL0, hL1, h18⟩ := alw_tk HAL.out (show d ≤ 1000000 by omega) (by omega)
        have htk := (alw_tk_eq HAL.out (show d ≤ 1000000 by omega) (by omega)).1
        have hrl : 0 ≤ rlv ⟨op, n, a, s⟩ ∧ rlv ⟨op, n, a, s⟩ ≤ 1 := by unfold rlv; split <;> simp
        rw [← htk] at hT0 hT1
        generalize hTE : rtk ⟨op, n, a, s⟩ = T at *
        generalize hLE : rlv ⟨op, n, a, s⟩ = R at *
        have HTE := Lib.hid hTE
        have HLE := Lib.hid hLE
        have HTT := Lib.hid htk
        have H18 := Lib.hid h18
        clear hTE hLE htk h18 hL0 hL1
        obtain ⟨hR0, hR1⟩ := hrl
        have kc : ∀ w', Below w3.heap.size w3 w' → w'.cell? ⟨wr.heap.size, 0, none⟩ = some (.int .i64 (P : Int)) ∧ w'.cell? ⟨wr.heap.size, 1, none⟩ = some (.int .i64 d) ∧ w'.cell? ⟨wr.heap.size, 2, none⟩ = some (.int .i64 t) ∧ w'.cell? ⟨wr.heap.size + 1, 0, none⟩ = some (.int .u8 (op : Int)) ∧ w'.cell? ⟨wr.heap.size + 1, 1, none⟩ = some (.int .i64 n) ∧ w'.cell? ⟨wr.heap.size + 1, 2, none⟩ = some (.int .i64 a) ∧ w'.cell? ⟨wr.heap.size + 1, 3, none⟩ = some (.string s) := fun w' hb => ⟨(hb.cell l1).trans q0, (hb.cell l1).trans q1, (hb.cell l1).trans q2, (hb.cell l2).trans r0, (hb.cell l2).trans r1, (hb.cell l2).trans r2, (hb.cell l2).trans r3⟩
        have HKC := Lib.hid kc
        have HTK := Lib.hid (fun (W : World) (hB : Below w3.heap.size w3 W) => (takes op n a s W).mono (R' := fun e w' => e = .returned (.int .i64 T) ∧ Below W.heap.size W w' ∧ Below w3.heap.size w3 w' ∧ w'.cell? ⟨wr.heap.size, 0, none⟩ = some (.int .i64 (P : Int)) ∧ w'.cell? ⟨wr.heap.size, 1, none⟩ = some (.int .i64 d) ∧ w'.cell? ⟨wr.heap.size, 2, none⟩ = some (.int .i64 t) ∧ w'.cell? ⟨wr.heap.size + 1, 0, none⟩ = some (.int .u8 (op : Int)) ∧ w'.cell? ⟨wr.heap.size + 1, 1, none⟩ = some (.int .i64 n) ∧ w'.cell? ⟨wr.heap.size + 1, 2, none⟩ = some (.int .i64 a) ∧ w'.cell? ⟨wr.heap.size + 1, 3, none⟩ = some (.string s)) (fun e w' ⟨h1, h2⟩ => by
          have hb := hB.trans (h2.mono hB.size)
          exact ⟨by rw [h1, HTE.out], h2, hb, HKC.out w' hb⟩))
        have HLV := Lib.hid (fun (W : World) (hB : Below w3.heap.size w3 W) => (leaves op n a s W).mono (R' := fun e w' => e = .returned (.int .i64 R) ∧ Below W.heap.size W w' ∧ Below w3.heap.size w3 w' ∧ w'.cell? ⟨wr.heap.size, 0, none⟩ = some (.int .i64 (P : Int)) ∧ w'.cell? ⟨wr.heap.size, 1, none⟩ = some (.int .i64 d) ∧ w'.cell? ⟨wr.heap.size, 2, none⟩ = some (.int .i64 t) ∧ w'.cell? ⟨wr.heap.size + 1, 0, none⟩ = some (.int .u8 (op : Int)) ∧ w'.cell? ⟨wr.heap.size + 1, 1, none⟩ = some (.int .i64 n) ∧ w'.cell? ⟨wr.heap.size + 1, 2, none⟩ = some (.int .i64 a) ∧ w'.cell? ⟨wr.heap.size + 1, 3, none⟩ = some (.string s)) (fun e w' ⟨h1, h2⟩ => by
          have hb := hB.trans (h2.mono hB.size)
          exact ⟨by rw [h1, HLE.out], h2, hb, HKC.out w' hb⟩))
        clear kc
        go_upto_region 11 with (fail)
        go_cut [11] (fun s11 wx => ∃ gn, s11 = .pointer (some ⟨gn, 0, none⟩) ∧ Hid (wx.heap[gn]? = some (.cells #[.int .i64 ((P : Int) + 1), .int .i64 (d - T + R), .int .i64 t] 79 (0, 0)) ∧ Below w3.heap.size w3 wx ∧ w3.heap.size ≤ gn))
        case first =>
          have e1 : IntKind.i64.wrap ((P : Int) + 1) = (P : Int) + 1 := IntWalk.i64_in _ (by omega)
          have e2 : IntKind.i64.wrap (d - T) = d - T := IntWalk.i64_in _ (by omega)
          have e3 : IntKind.i64.wrap (d - T + R) = d - T + R := IntWalk.i64_in _ (by omega)
          have me1 : wr.heap.size ≠ w3.heap.size := by omega
          have me2 : w3.heap.size ≠ wr.heap.size := by omega
          have me3 : wr.heap.size + 1 ≠ w3.heap.size := by omega
          have me4 : w3.heap.size ≠ wr.heap.size + 1 := by omega
          have B0 : Below w3.heap.size w3 w3.drew := (Below.refl _ _).drew
          go_region_held3 (fun w' => w'.cell? ⟨wr.heap.size, 0, none⟩ = some (.int .i64 (P : Int)) ∧ w'.cell? ⟨wr.heap.size, 1, none⟩ = some (.int .i64 d) ∧ w'.cell? ⟨wr.heap.size, 2, none⟩ = some (.int .i64 t) ∧ w'.cell? ⟨wr.heap.size + 1, 0, none⟩ = some (.int .u8 (op : Int)) ∧ w'.cell? ⟨wr.heap.size + 1, 1, none⟩ = some (.int .i64 n) ∧ w'.cell? ⟨wr.heap.size + 1, 2, none⟩ = some (.int .i64 a) ∧ w'.cell? ⟨wr.heap.size + 1, 3, none⟩ = some (.string s)) (go_keep)
            (first
              | (go_at_call 38; refine (HTK.out _ (by first | assumption | exact balloc (by assumption))).mono ?_; rintro e w' ⟨rfl, hr4, hb4, u0, u1, u2, u3, u4, u5, u6⟩; (try (have hn4 : Hid (w'.heap[w3.heap.size]? = some (.cells #[.int .i64 0, .int .i64 0, .int .i64 0] 79 (0, 0))) := by first | exact alloc_kept hr4 | exact alloc_kept' hr4)); have hs4 := hb4.size; have ne1 : wr.heap.size ≠ w'.heap.size := (by omega); have ne2 : w'.heap.size ≠ wr.heap.size := (by omega); have ne3 : wr.heap.size + 1 ≠ w'.heap.size := (by omega); have ne4 : w'.heap.size ≠ wr.heap.size + 1 := (by omega))
              | (go_at_call 39; refine (HLV.out _ (by first | assumption | exact balloc (by assumption))).mono ?_; rintro e w' ⟨rfl, hr5, hb5, v0, v1, v2, v3, v4, v5, v6⟩; (first | (have hn := Lib.hid (alloc_kept hr5); have z0 := cellk (i := 0) hn.out rfl; have z1 := cellk (i := 1) hn.out rfl; have z2 := cellk (i := 2) hn.out rfl; have y0 := free_of hn.out 0; have y1 := free_of hn.out 1; have y2 := free_of hn.out 2; have y3 := lt_of_block hn.out) | (have hn := Lib.hid ((hr5.block _ (lt_of_block hn4.out)).trans hn4.out); have z0 := cellk (i := 0) hn.out rfl; have z1 := cellk (i := 1) hn.out rfl; have z2 := cellk (i := 2) hn.out rfl; have y0 := free_of hn.out 0; have y1 := free_of hn.out 1; have y2 := free_of hn.out 2; have y3 := lt_of_block hn.out) | skip)))
          all_goals (go_wp2_with fail; go_meet; first
            | exact ⟨_, rfl, heap_alloc_new _ _, balloc hb5, hb5.size⟩
            | exact ⟨_, rfl, set_three hn.out, ((hb5.setCell hs4 _).setCell hs4 _).setCell hs4 _, hs4⟩
            | exact ⟨_, rfl, set_three hn.out, ((hb5.setCell (Nat.le_refl _) _).setCell (Nat.le_refl _) _).setCell (Nat.le_refl _) _, Nat.le_refl _⟩)
        case rest =>
          obtain ⟨gn, rfl, HCUT⟩ := hcut
          obtain ⟨hn0, hbx, hgn⟩ := HCUT.out
          obtain ⟨q0, q1, q2, r0, r1, r2, r3⟩ := HKC.out _ hbx
          have n0 : wc.cell? ⟨gn, 0, none⟩ = some (.int .i64 ((P : Int) + 1)) := cellk hn0 rfl
          have n1 : wc.cell? ⟨gn, 1, none⟩ = some (.int .i64 (d - T + R)) := cellk hn0 rfl
          have n2 : wc.cell? ⟨gn, 2, none⟩ = some (.int .i64 t) := cellk hn0 rfl
          have y0 := free_of hn0 0
          have y1 := free_of hn0 1
          have y2 := free_of hn0 2
          have y3 := lt_of_block hn0
          have hsx := hbx.size
          have hBX := HBX.out.trans (hbx.mono HBX.out.size)
          have hboxc : wc.heap[w.heap.size]? = some (.cells #[.int .i64 f.caps, .slice (some ⟨b, off, none⟩) f.code.length c] 57 (0, 0)) := (hBX.block _ hzz).trans ((HB.out.block _ (by omega)).trans (heap_alloc_new w _))
          have bc1 : wc.cell? ⟨w.heap.size, 1, none⟩ = some (.slice (some ⟨b, off, none⟩) f.code.length c) := cellk hboxc rfl
          have bc2 := lt_of_block hboxc
          have HBXX := Lib.hid hBX
          have K9 := Lib.hid ((hbx.block _ l1).trans HK1.out)
          have K10 := Lib.hid ((hbx.block _ l2).trans HK2.out)
          have KG := Lib.hid hn0
          have KB := Lib.hid hboxc
          have z9 : wr.heap.size < wc.heap.size := by omega
          have z10 : wr.heap.size + 1 < wc.heap.size := by omega
          have hgne0 : gn ≠ w.heap.size := by omega
          have hgne1 : w.heap.size ≠ gn := by omega
          have hgne2 : wr.heap.size ≠ gn := by omega
          have hgne3 : wr.heap.size + 1 ≠ gn := by omega
          have hgne4 : gn ≠ wr.heap.size := by omega
          have hgne5 : gn ≠ wr.heap.size + 1 := by omega
          clear HTK HLV HKC hbx hBX HCUT hn0 hboxc
          have hz' : w.heap.size + 1 ≤ wr.heap.size := by simpa using hz
          by_cases e8 : op = 8 ∨ op = 26
          · rcases e8 with e | e
            · as_aux_lemma =>
              have a8 : ((op : Int) == 8) = true := by rw [beq_iff_eq]; omega
              have b8 : ((op : Int) != 8) = false := by rw [bne_eq_false_iff_eq]; omega
              have a12 : ((op : Int) == 12) = false := by rw [beq_eq_false_iff_ne]; omega
              have b12 : ((op : Int) != 12) = true := by rw [bne_iff_ne]; omega
              have a13 : ((op : Int) == 13) = false := by rw [beq_eq_false_iff_ne]; omega
              have b13 : ((op : Int) != 13) = true := by rw [bne_iff_ne]; omega
              have a24 : ((op : Int) == 24) = false := by rw [beq_eq_false_iff_ne]; omega
              have b24 : ((op : Int) != 24) = true := by rw [bne_iff_ne]; omega
              have a25 : ((op : Int) == 25) = false := by rw [beq_eq_false_iff_ne]; omega
              have b25 : ((op : Int) != 25) = true := by rw [bne_iff_ne]; omega
              have a26 : ((op : Int) == 26) = false := by rw [beq_eq_false_iff_ne]; omega
              have b26 : ((op : Int) != 26) = true := by rw [bne_iff_ne]; omega
              have HNX : Hid (Nexts fs globs f (P, d, t) ⟨op, n, a, s⟩ []) := nexts_none HX.out HAL.out (.inl e)
              have HWS := Lib.hid (HNX.out.step HW.out HLX.out (by simp))
              have HOWX := Lib.hid (HOWN.out.below HBXX.out (Nat.le_refl _))
              have HBW := Lib.hid (HB.out.trans (HBXX.out.mono hz'))
              have hkn := HWS.out.len
              go_wp2_with fail
              go_loop [7, 14] (fun L J => L = .slice (some ⟨g, 0, none⟩) l.length cc ∧ J = .int .i64 0) (fun _ _ => 0)
              case atStart => exact ⟨rfl, rfl⟩
              case round =>
                obtain ⟨rfl, rfl⟩ := hrel
                go_wp2_with fail
                exact ⟨⟨k + 1, l, by omega, by go_num, HOWX.out, HWS, HBW⟩, by simp [intOf]; omega⟩
            · as_aux_lemma =>
              have a8 : ((op : Int) == 8) = false := by rw [beq_eq_false_iff_ne]; omega
              have b8 : ((op : Int) != 8) = true := by rw [bne_iff_ne]; omega
              have a12 : ((op : Int) == 12) = false := by rw [beq_eq_false_iff_ne]; omega
              have b12 : ((op : Int) != 12) = true := by rw [bne_iff_ne]; omega
              have a13 : ((op : Int) == 13) = false := by rw [beq_eq_false_iff_ne]; omega
              have b13 : ((op : Int) != 13) = true := by rw [bne_iff_ne]; omega
              have a24 : ((op : Int) == 24) = false := by rw [beq_eq_false_iff_ne]; omega
              have b24 : ((op : Int) != 24) = true := by rw [bne_iff_ne]; omega
              have a25 : ((op : Int) == 25) = false := by rw [beq_eq_false_iff_ne]; omega
              have b25 : ((op : Int) != 25) = true := by rw [bne_iff_ne]; omega
              have a26 : ((op : Int) == 26) = true := by rw [beq_iff_eq]; omega
              have b26 : ((op : Int) != 26) = false := by rw [bne_eq_false_iff_eq]; omega
              have HNX : Hid (Nexts fs globs f (P, d, t) ⟨op, n, a, s⟩ []) := nexts_none HX.out HAL.out (.inr e)
              have HWS := Lib.hid (HNX.out.step HW.out HLX.out (by simp))
              have HOWX := Lib.hid (HOWN.out.below HBXX.out (Nat.le_refl _))
              have HBW := Lib.hid (HB.out.trans (HBXX.out.mono hz'))
              have hkn := HWS.out.len
              go_wp2_with fail
              go_loop [7, 14] (fun L J => L = .slice (some ⟨g, 0, none⟩) l.length cc ∧ J = .int .i64 0) (fun _ _ => 0)
              case atStart => exact ⟨rfl, rfl⟩
              case round =>
                obtain ⟨rfl, rfl⟩ := hrel
                go_wp2_with fail
                exact ⟨⟨k + 1, l, by omega, by go_num, HOWX.out, HWS, HBW⟩, by simp [intOf]; omega⟩
          by_cases e12 : op = 12
          · as_aux_lemma =>
            have a8 : ((op : Int) == 8) = false := by rw [beq_eq_false_iff_ne]; omega
            have b8 : ((op : Int) != 8) = true := by rw [bne_iff_ne]; omega
            have a12 : ((op : Int) == 12) = true := by rw [beq_iff_eq]; omega
            have b12 : ((op : Int) != 12) = false := by rw [bne_eq_false_iff_eq]; omega
            have a13 : ((op : Int) == 13) = false := by rw [beq_eq_false_iff_ne]; omega
            have b13 : ((op : Int) != 13) = true := by rw [bne_iff_ne]; omega
            have a24 : ((op : Int) == 24) = false := by rw [beq_eq_false_iff_ne]; omega
            have b24 : ((op : Int) != 24) = true := by rw [bne_iff_ne]; omega
            have a25 : ((op : Int) == 25) = false := by rw [beq_eq_false_iff_ne]; omega
            have b25 : ((op : Int) != 25) = true := by rw [bne_iff_ne]; omega
            have a26 : ((op : Int) == 26) = false := by rw [beq_eq_false_iff_ne]; omega
            have b26 : ((op : Int) != 26) = true := by rw [bne_iff_ne]; omega
            have HBF := Lib.hid (show Below w.heap.size w wc from ((((Below.refl _ w).alloc (Nat.le_refl _) _)).trans (HB.out.mono (by omega))).trans (HBXX.out.mono (by omega)))
            by_cases hbad : n ≤ (P : Int) ∨ (f.code.length : Int) ≤ n
            · have HO := Lib.hid (val_false (fs := fs) (globs := globs) (f := f) (.inr (HW.out.jump HM.out HX.out (sn := (n, d - T + R, t)) (by have := succ_12 (P := P) (d := d) (t := t) (x := ⟨op, n, a, s⟩) (by rw [HTE.out]; exact HTT.out) e12; rw [HTE.out, HLE.out] at this; rw [this]; simp) hbad)))
              by_cases hb1 : n ≤ (P : Int)
              · have hbd : decide (n ≤ (P : Int)) = true := by simpa using hb1
                skip
                go_wp2_with fail
                go_ret
                exact riPost HO.out HBF.out
              · have hbd : decide (n ≤ (P : Int)) = false := by simp; omega
                have hbd2 : decide ((f.code.length : Int) ≤ n) = true := by simp; omega
                skip
                go_wp2_with fail
                go_ret
                exact riPost HO.out HBF.out
            have hbd : decide (n ≤ (P : Int)) = false := by simp; omega
            have hbd2 : decide ((f.code.length : Int) ≤ n) = false := by simp; omega
            obtain ⟨NJ, hNJ⟩ := Int.eq_ofNat_of_zero_le (show 0 ≤ n by omega)
            have HNX : Hid (Nexts fs globs f (P, d, t) ⟨op, n, a, s⟩ (([] : List Sn) ++ [((NJ : Nat), d - T + R, t)])) := nexts_one (m := n) HX.out HAL.out (by have := succ_12 (P := P) (d := d) (t := t) (x := ⟨op, n, a, s⟩) (by rw [HTE.out]; exact HTT.out) e12; rwa [HTE.out, HLE.out] at this) (by omega) (by omega)
            have hbA2 : Below wr.heap.size wr ((wc.alloc (.cells #[.int .i64 n, .int .i64 (d - T + R), .int .i64 t] 79)).alloc (.cells #[.int .i64 n, .int .i64 (d - T + R), .int .i64 t] 79)) := balloc (balloc HBXX.out)
            have hnews : ∀ j u, [Value.int .i64 (NJ : Int), .int .i64 (d - T + R), .int .i64 t][j]? = some u → ((wc.alloc (.cells #[.int .i64 n, .int .i64 (d - T + R), .int .i64 t] 79)).alloc (.cells #[.int .i64 n, .int .i64 (d - T + R), .int .i64 t] 79)).cell? ((⟨(wc.alloc (.cells #[.int .i64 n, .int .i64 (d - T + R), .int .i64 t] 79)).heap.size, 0, none⟩ : Addr).add j) = some u := by rw [hNJ]; exact cells_three_new _ _ _ _ _
            obtain ⟨v5, w5, hrun5, hown5, hg5, hat5⟩ := append_seen (w := ((wc.alloc (.cells #[.int .i64 n, .int .i64 (d - T + R), .int .i64 t] 79)).alloc (.cells #[.int .i64 n, .int .i64 (d - T + R), .int .i64 t] 79))) (base := wc.heap.size) (v := (.slice none 0 0)) (l := ([] : List Sn)) (p := ((NJ : Nat), d - T + R, t)) (World.ownsRow_nil _ _ _ _) ⟨(wc.alloc (.cells #[.int .i64 n, .int .i64 (d - T + R), .int .i64 t] 79)).heap.size, 0, none⟩ hnews (by simp) (by simp; omega) 80
            have hbB5 : Below wr.heap.size wr w5 := hbA2.grown hg5 hbA2.size (fun k hk => by simp [Value.ownBlock] at hk)
            have hs5 : wc.heap.size < w5.heap.size := by have := hg5.size; simp at this; omega
            rw [show ((wc.alloc (.cells #[.int .i64 n, .int .i64 (d - T + R), .int .i64 t] 79)).heap.size) = wc.heap.size + 1 by simp] at hrun5
            obtain ⟨g3, c3, rfl, hlc5, hcm5, hb35, hb36⟩ := hown5.form (by simp)
            have hg3g : g ≠ g3 := by omega
            have HNG : Hid (∀ h, (Value.slice (some ⟨g, 0, none⟩) l.length cc).ownBlock = some h → h ≠ g3) := by intro h hh; simp [Value.ownBlock] at hh; omega
            have HTC := Lib.hid hown5.cells
            have HOW4 := Lib.hid (HOWN.out.below hbB5 (Nat.le_refl _))
            have HB4 := Lib.hid (HB.out.trans (hbB5.mono hz'))
            have HTL : List.length (([] : List Sn) ++ [((NJ : Nat), d - T + R, t)]) ≤ 2 := by simp
            have hrun6 : (Builtin.append_ #[80, 80] 80 #[(.slice none 0 0), .slice (some ⟨wc.heap.size + 1, 0, none⟩) 1 1]).run Try.prog ((wc.alloc (.cells #[.int .i64 n, .int .i64 (d - T + R), .int .i64 t] 79)).alloc (.cells #[.int .i64 n, .int .i64 (d - T + R), .int .i64 t] 79)) = .ok (.slice (some ⟨g3, 0, none⟩) (List.length (([] : List Sn) ++ [((NJ : Nat), d - T + R, t)])) c3) w5 := hrun5
            have HR5 := Lib.hid hrun6
            have hlc6 : List.length (([] : List Sn) ++ [((NJ : Nat), d - T + R, t)]) ≤ c3 := hlc5
            unfold maxLen at hcm5
            generalize (([] : List Sn) ++ [((NJ : Nat), d - T + R, t)]) = TT at HTC HTL HNX HR5 hlc6
            have HNJ := Lib.hid hNJ
            clear hrun5 hrun6 hown5 hg5 hat5 hbA2 hbB5 hlc5 hnews hNJ
            go_wp2_with (at_builtin; refine wpList_append_known rfl (.tmp 136) (.tmp 138) 80 80 (by rfl) _ _ _ (by rfl) (by rfl) HR5.out ?_)
            go_wp2_with fail
            go_loopw [7, 14] (fun L J wj => ∃ (j : Nat) (l' : List Sn), j ≤ TT.length ∧ J = .int .i64 j ∧ OwnN wj (w.heap.size + 1) L l' ∧ Hid (∀ h, L.ownBlock = some h → h ≠ g3) ∧ Hid (CellsN wj g3 TT) ∧ Hid (Work fs globs f l' k) ∧ Hid (l'[k]? = some (P, d, t)) ∧ Hid (∀ s ∈ TT.take j, s ∈ l') ∧ Hid (Below (w.heap.size + 1) (w.alloc (.cells #[.int .i64 f.caps, .slice (some ⟨b, off, none⟩) f.code.length c] 57)) wj)) (fun _ J _ => TT.length - (intOf J).toNat)
            case atStart => exact ⟨0, l, by omega, rfl, HOW4.out, HNG, HTC, HW, HLX, by simp [Hid], HB4⟩
            case round =>
              obtain ⟨j, l', hj, rfl, hown', HNG', HTC', HW', HLX', HIN, HB'⟩ := hrel
              generalize wr = wj at *
              have hzz' := HB'.out.size
              have hszj : w.heap.size + 1 ≤ wj.heap.size := by simpa using hzz'
              have hkl : k < l'.length := (List.getElem?_eq_some_iff.1 HLX'.out).1
              have hll := HW'.out.len
              have hboxj : wj.heap[w.heap.size]? = some (.cells #[.int .i64 f.caps, .slice (some ⟨b, off, none⟩) f.code.length c] 57 (0, 0)) := (HB'.out.block _ (by omega)).trans (heap_alloc_new w _)
              have bj : wj.cell? ⟨w.heap.size, 1, none⟩ = some (.slice (some ⟨b, off, none⟩) f.code.length c) := cellk hboxj rfl
              have hbj := lt_of_block hboxj
              obtain ⟨g', cc', rfl, hlc', hcm', hg1', hg3'⟩ := hown'.form (by omega)
              unfold maxLen at hcm'
              have hgne : g' ≠ g3 := HNG'.out g' rfl
              by_cases hjl : j < TT.length
              · have hT : TT[j]? = some (TT[j]'hjl) := List.getElem?_eq_getElem _
                obtain ⟨t0, t1, t2⟩ := HTC'.out j _ hT
                have HTM := Lib.hid (List.mem_of_getElem? hT)
                have HTT' := Lib.hid (List.take_succ_eq_append_getElem (l := TT) (i := j) hjl)
                generalize TT[j]'hjl = sn at *
                obtain ⟨S0, sd, st⟩ := sn
                simp only at t0 t1 t2
                have hgt := World.block_lt_of_cell? wj _ t0
                simp only at hgt
                have hpm := List.mem_of_getElem? HLX'.out
                have HPM := Lib.hid hpm
                have hjI : (j : Int) < (TT.length : Int) := by omega
                clear hpm hT
                by_cases hfar : f.code.length ≤ S0
                · have HO := Lib.hid (val_false (fs := fs) (globs := globs) (f := f) (.inr (HNX.out.far HW'.out HPM.out HTM.out hfar)))
                  have hfd : decide (f.code.length ≤ S0) = true := by simpa using hfar
                  have hfi : decide ((f.code.length : Int) ≤ (S0 : Int)) = true := by simp; omega
                  have HBB := Lib.hid (fun z => below_drewN ((((Below.refl _ w).alloc (Nat.le_refl _) _)).trans (HB'.out.mono (by omega))) z)
                  clear hown' hboxj
                  go_wp2_with fail
                  go_quiet (fail)
                  go_wp2_with fail
                  go_ret
                  exact riPost HO.out (HBB.out _)
                · have hfd : decide (f.code.length ≤ S0) = false := by simpa using hfar
                  have hfi : decide ((f.code.length : Int) ≤ (S0 : Int)) = false := by simp; omega
                  have HOJ := Lib.hid hown'
                  clear hown' hboxj
                  go_wp2_with fail
                  go_quiet (fail)
                  go_wp2_with fail
                  go_loopw [15, 16] (fun K N wn => ∃ (m : Nat) (kb : Bool) (nn : Nat), m ≤ l'.length ∧ N = .int .i64 m ∧ K = .bool kb ∧ wn = wj.drewN nn ∧ KnB kb (l'.take m) S0 ∧ Hid (∀ q ∈ l'.take m, q.1 = S0 → q = (S0, sd, st))) (fun _ N _ => l'.length - (intOf N).toNat)
                  case atStart => exact ⟨0, false, _, by omega, rfl, rfl, rfl, by simp [KnB], by simp [Hid]⟩
                  case round =>
                    obtain ⟨m, kb, nn, hm, rfl, rfl, rfl, HKB, HALL⟩ := hrel
                    by_cases hml : m < l'.length
                    · have hq : l'[m]? = some l'[m] := List.getElem?_eq_getElem hml
                      obtain ⟨v0, v1, v2⟩ := HOJ.out.cells m _ hq
                      have HQT := Lib.hid (List.take_succ_eq_append_getElem hml)
                      have HQM := Lib.hid (List.getElem_mem hml)
                      have hmI : (m : Int) < (l'.length : Int) := by omega
                      generalize l'[m] = q at *
                      obtain ⟨Q, qd, qt⟩ := q
                      simp only at v0 v1 v2
                      clear hq
                      by_cases e0 : Q = S0
                      · subst e0
                        have e0b : ((Q : Int) == (Q : Int)) = true := by simp
                        by_cases e1 : (qd = sd ∧ qt = st)
                        · obtain ⟨rfl, rfl⟩ := e1
                          have HKB2 : KnB true (l'.take (m + 1)) Q := by
                            unfold KnB
                            refine ⟨fun _ => ⟨(Q, qd, qt), by rw [HQT.out]; simp, rfl⟩, fun _ => rfl⟩
                          have HALL2 : Hid (∀ q ∈ l'.take (m + 1), q.1 = Q → q = (Q, qd, qt)) := by
                            intro q hq h1
                            rw [HQT.out, List.mem_append, List.mem_singleton] at hq
                            rcases hq with hq | hq
                            · exact HALL.out q hq h1
                            · exact hq
                          go_wp2_with fail
                          go_quiet (fail)
                          go_wp2_with fail
                          go_quiet (fail)
                          go_wp2_with fail
                          go_roundw
                          case rel => exact ⟨m + 1, true, _, by omega, by go_num, rfl, rfl, HKB2, HALL2⟩
                          case measure => simp [intOf]; omega
                        · have HO := Lib.hid (val_false (fs := fs) (globs := globs) (f := f) (.inr (HNX.out.clash HW'.out HPM.out HTM.out HQM.out rfl (by
                            intro h
                            injection h with _ h
                            injection h with h1 h2
                            exact e1 ⟨h1, h2⟩))))
                          have HBB := Lib.hid (fun z => below_drewN ((((Below.refl _ w).alloc (Nat.le_refl _) _)).trans (HB'.out.mono (by omega))) z)
                          by_cases e2 : qd = sd
                          · subst e2
                            have e3 : ¬ qt = st := fun h => e1 ⟨rfl, h⟩
                            clear e1
                            go_wp2_with fail
                            go_quiet (fail)
                            go_wp2_with fail
                            go_quiet (fail)
                            go_wp2_with fail
                            go_ret
                            exact riPost HO.out (below_drewN (below_drewN (HBB.out nn) _) _)
                          · clear e1
                            go_wp2_with fail
                            go_quiet (fail)
                            go_wp2_with fail
                            go_quiet (fail)
                            go_wp2_with fail
                            go_ret
                            exact riPost HO.out (below_drewN (below_drewN (HBB.out nn) _) _)
                      · have e0b : ((Q : Int) == (S0 : Int)) = false := by rw [beq_eq_false_iff_ne]; omega
                        have e0c : (Q == S0) = false := by rw [beq_eq_false_iff_ne]; exact e0
                        have HKB2 : KnB kb (l'.take (m + 1)) S0 := by
                          unfold KnB
                          refine ⟨fun h => ?_, fun ⟨q, hq, h1⟩ => ?_⟩
                          · obtain ⟨q, hq, h1⟩ := (show _ ↔ _ from HKB).1 h
                            exact ⟨q, by rw [HQT.out]; exact List.mem_append_left _ hq, h1⟩
                          · rw [HQT.out, List.mem_append, List.mem_singleton] at hq
                            rcases hq with hq | rfl
                            · exact (show _ ↔ _ from HKB).2 ⟨q, hq, h1⟩
                            · exact absurd h1 e0
                        have HALL2 : Hid (∀ q ∈ l'.take (m + 1), q.1 = S0 → q = (S0, sd, st)) := by
                          intro q hq h1
                          rw [HQT.out, List.mem_append, List.mem_singleton] at hq
                          rcases hq with hq | rfl
                          · exact HALL.out q hq h1
                          · exact absurd h1 e0
                        go_wp2_with fail
                        go_quiet (fail)
                        go_wp2_with fail
                        exact ⟨⟨m + 1, kb, _, by omega, by go_num, rfl, rfl, HKB2, HALL2⟩, by simp [intOf]; omega⟩
                    · obtain rfl : m = l'.length := by omega
                      have hkb : kb = true ↔ ∃ q ∈ l'.take l'.length, q.1 = S0 := HKB
                      have hall := HALL.out
                      rw [List.take_of_length_le (Nat.le_refl _)] at hkb hall
                      cases kb
                      · have hno : ∀ q ∈ l', q.1 ≠ S0 := fun q hq h => by have := hkb.2 ⟨q, hq, h⟩; cases this
                        have HWA := Lib.hid (HNX.out.add HW'.out HPM.out HTM.out (by simpa using hfar) hno (by omega) hn)
                        have HLA : Hid ((l' ++ [(S0, sd, st)])[k]? = some (P, d, t)) := by
                          show _ = _
                          rw [List.getElem?_append_left hkl]; exact HLX'.out
                        have HINA : Hid (∀ s ∈ TT.take (j + 1), s ∈ l' ++ [(S0, sd, st)]) := by
                          intro s hs
                          rw [HTT'.out, List.mem_append, List.mem_singleton] at hs
                          rcases hs with hs | rfl
                          · exact List.mem_append_left _ (HIN.out s hs)
                          · simp
                        have hdn : Below wj.heap.size wj ((wj.drewN nn).alloc (.cells #[.int .i64 (S0 : Int), .int .i64 sd, .int .i64 st] 79)) := balloc (below_drewN (Below.refl _ _) nn)
                        obtain ⟨v5, w5, hrun, hown5, hg5, hat5⟩ := append_seen (w := (wj.drewN nn).alloc (.cells #[.int .i64 (S0 : Int), .int .i64 sd, .int .i64 st] 79)) (base := w.heap.size + 1) (v := .slice (some ⟨g', 0, none⟩) l'.length cc') (l := l') (p := (S0, sd, st)) (HOJ.out.below hdn (Nat.le_refl _)) ⟨(wj.drewN nn).heap.size, 0, none⟩ (cells_three_new _ _ _ _ _) (by omega) (by simp; omega) 80
                        have hB5 : Below (w.heap.size + 1) (w.alloc (.cells #[.int .i64 f.caps, .slice (some ⟨b, off, none⟩) f.code.length c] 57)) w5 := (HB'.out.trans (hdn.mono hszj)).grown hg5 (by simp; omega) (fun k hk => by simp [Value.ownBlock] at hk; omega)
                        have HTC5 : Hid (CellsN w5 g3 TT) := by
                          intro i tt htt
                          obtain ⟨a0, a1, a2⟩ := HTC'.out i tt htt
                          have hlt2 := World.block_lt_of_cell? wj _ a0
                          have hk2 : w5.heap[g3]? = wj.heap[g3]? := (hg5.block g3 (by simp; omega) (by simp [Value.ownBlock]; exact fun h => hgne h.symm)).trans (hdn.block g3 hlt2)
                          exact ⟨(World.cell?_of_block hk2).trans a0, (World.cell?_of_block hk2).trans a1, (World.cell?_of_block hk2).trans a2⟩
                        have HNG5 : Hid (∀ h, v5.ownBlock = some h → h ≠ g3) := by
                          intro h hh
                          rcases hat5 with e | e
                          · rw [e] at hh
                            exact HNG'.out h hh
                          · rw [e] at hh
                            injection hh with hh
                            simp at hh
                            omega
                        have HR5 := Lib.hid hrun
                        have HB5 := Lib.hid hB5
                        have HG5 := Lib.hid hown5
                        clear hrun hown5 hg5 hat5 hB5 hdn hkb hall hno HKB HALL
                        go_wp2_with (at_builtin; refine wpList_append_known rfl (.tmp 183) (.tmp 188) 80 80 (by rfl) _ _ _ (by rfl) (by rfl) HR5.out ?_)
                        exact ⟨⟨j + 1, _, by omega, by go_num, HG5.out, HNG5, HTC5, HWA, HLA, HINA, HB5⟩, by simp [intOf]; omega⟩
                      · obtain ⟨q, hq, hq1⟩ := hkb.1 rfl
                        have hmem : (S0, sd, st) ∈ l' := by rw [← hall q hq hq1]; exact hq
                        have HINA : Hid (∀ s ∈ TT.take (j + 1), s ∈ l') := by
                          intro s hs
                          rw [HTT'.out, List.mem_append, List.mem_singleton] at hs
                          rcases hs with hs | rfl
                          · exact HIN.out s hs
                          · exact hmem
                        have hdn : Below wj.heap.size wj (wj.drewN nn) := below_drewN (Below.refl _ _) nn
                        have HG5 := Lib.hid (HOJ.out.below hdn (Nat.le_refl _))
                        have HTC5 : Hid (CellsN (wj.drewN nn) g3 TT) := by
                          intro i tt htt
                          obtain ⟨a0, a1, a2⟩ := HTC'.out i tt htt
                          have hlt2 := World.block_lt_of_cell? wj _ a0
                          have hk2 := hdn.block g3 hlt2
                          exact ⟨(World.cell?_of_block hk2).trans a0, (World.cell?_of_block hk2).trans a1, (World.cell?_of_block hk2).trans a2⟩
                        have HB5 := Lib.hid (HB'.out.trans (hdn.mono hszj))
                        clear hq hq1 hmem hdn hkb hall HKB HALL
                        go_wp2_with fail
                        exact ⟨⟨j + 1, _, by omega, by go_num, HG5.out, HNG', HTC5, HW', HLX', HINA, HB5⟩, by simp [intOf]; omega⟩
              · obtain rfl : j = TT.length := by omega
                have HWS := Lib.hid (HNX.out.step HW'.out HLX'.out (by have := HIN.out; rwa [List.take_of_length_le (Nat.le_refl _)] at this))
                have HOJ := Lib.hid hown'
                clear hown' hboxj
                go_wp2_with fail
                exact ⟨⟨k + 1, l', by omega, by go_num, HOJ.out, HWS, HB'⟩, by simp [intOf]; omega⟩
          by_cases e13 : op = 13
          · as_aux_lemma =>
            have a8 : ((op : Int) == 8) = false := by rw [beq_eq_false_iff_ne]; omega
            have b8 : ((op : Int) != 8) = true := by rw [bne_iff_ne]; omega
            have a12 : ((op : Int) == 12) = false := by rw [beq_eq_false_iff_ne]; omega
            have b12 : ((op : Int) != 12) = true := by rw [bne_iff_ne]; omega
            have a13 : ((op : Int) == 13) = true := by rw [beq_iff_eq]; omega
            have b13 : ((op : Int) != 13) = false := by rw [bne_eq_false_iff_eq]; omega
            have a24 : ((op : Int) == 24) = false := by rw [beq_eq_false_iff_ne]; omega
            have b24 : ((op : Int) != 24) = true := by rw [bne_iff_ne]; omega
            have a25 : ((op : Int) == 25) = false := by rw [beq_eq_false_iff_ne]; omega
            have b25 : ((op : Int) != 25) = true := by rw [bne_iff_ne]; omega
            have a26 : ((op : Int) == 26) = false := by rw [beq_eq_false_iff_ne]; omega
            have b26 : ((op : Int) != 26) = true := by rw [bne_iff_ne]; omega
            have hbA : Below wr.heap.size wr (wc.alloc (.cells #[.int .i64 ((P : Int) + 1), .int .i64 (d - T + R), .int .i64 (t)] 79)) := balloc HBXX.out
            obtain ⟨v4, w4, hrun, hown4, hg4, -⟩ := append_seen (w := (wc.alloc (.cells #[.int .i64 ((P : Int) + 1), .int .i64 (d - T + R), .int .i64 (t)] 79))) (base := wc.heap.size) (v := .slice none 0 0) (l := []) (p := (P + 1, d - T + R, t)) (World.ownsRow_nil _ _ _ _) ⟨wc.heap.size, 0, none⟩ (cells_three_new _ _ _ _ _) (by simp) (by simp) 80
            have hbB : Below wr.heap.size wr w4 := hbA.grown hg4 hbA.size (fun k hk => by simp [Value.ownBlock] at hk)
            have hs4 : wc.heap.size < w4.heap.size := by have := hg4.size; simp at this; omega
            rw [show (wc.heap.size) = wc.heap.size from rfl] at hrun
            obtain ⟨g2, c2, rfl, hlc4, hcm4, hb24, hb25⟩ := hown4.form (by simp)
            have hkk : ∀ j, j < wc.heap.size → j ≠ gn → w4.heap[j]? = wc.heap[j]? := fun j hj hg => (hg4.block j (by simp; omega) (by simp [Value.ownBlock])).trans ((Below.heap_alloc _ _ _ (by simpa using hj)).trans rfl)
            have mg : w4.heap[gn]? = some (.cells #[.int .i64 ((P : Int) + 1), .int .i64 (d - T + R), .int .i64 (t)] 79 (0, 0)) := (hg4.block gn (by simp; omega) (by simp [Value.ownBlock])).trans ((Below.heap_alloc _ _ _ (by simpa using y3)).trans KG.out)
            have m9 := (hkk _ z9 hgne2).trans K9.out
            have m10 := (hkk _ z10 hgne3).trans K10.out
            have mb := (hkk _ bc2 hgne1).trans KB.out
            have r0' : w4.cell? ⟨wr.heap.size + 1, 0, none⟩ = some (.int .u8 (op : Int)) := cellk m10 rfl
            have r1' : w4.cell? ⟨wr.heap.size + 1, 1, none⟩ = some (.int .i64 (n)) := cellk m10 rfl
            have q0' : w4.cell? ⟨wr.heap.size, 0, none⟩ = some (.int .i64 (P : Int)) := cellk m9 rfl
            have q1' : w4.cell? ⟨wr.heap.size, 1, none⟩ = some (.int .i64 d) := cellk m9 rfl
            have q2' : w4.cell? ⟨wr.heap.size, 2, none⟩ = some (.int .i64 t) := cellk m9 rfl
            have bb' : w4.cell? ⟨w.heap.size, 1, none⟩ = some (.slice (some ⟨b, off, none⟩) f.code.length c) := cellk mb rfl
            have s9 := lt_of_block m9
            have s10 := lt_of_block m10
            have sb := lt_of_block mb
            have g1' : w4.cell? ⟨gn, 1, none⟩ = some (.int .i64 (d - T + R)) := cellk mg rfl
            have sg := lt_of_block mg
            have hrun' : (Builtin.append_ #[80, 80] 80 #[.slice none 0 0, .slice (some ⟨wc.heap.size, 0, none⟩) 1 1]).run Try.prog (wc.alloc (.cells #[.int .i64 ((P : Int) + 1), .int .i64 (d - T + R), .int .i64 (t)] 79)) = .ok (.slice (some ⟨g2, 0, none⟩) 1 c2) w4 := hrun
            have HR4 := Lib.hid hrun'
            have HO4 := Lib.hid hown4
            have HBB4 := Lib.hid hbB
            unfold maxLen at hcm4
            clear hrun hrun' hown4 hg4 hbA hbB hkk mg m9 m10 mb
            have HBF := Lib.hid (show Below w.heap.size w w4 from ((((Below.refl _ w).alloc (Nat.le_refl _) _)).trans (HB.out.mono (by omega))).trans (HBB4.out.mono (by omega)))
            by_cases hbad : n ≤ (P : Int) ∨ (f.code.length : Int) ≤ n
            · have HO := Lib.hid (val_false (fs := fs) (globs := globs) (f := f) (.inr (HW.out.jump HM.out HX.out (sn := (n, d - T + R, t)) (by have := succ_13 (P := P) (d := d) (t := t) (x := ⟨op, n, a, s⟩) (by rw [HTE.out]; exact HTT.out) e13; rw [HTE.out, HLE.out] at this; rw [this]; simp) hbad)))
              by_cases hb1 : n ≤ (P : Int)
              · have hbd : decide (n ≤ (P : Int)) = true := by simpa using hb1
                go_wp2_with (at_builtin; refine wpList_append_known rfl (.tmp 92) (.tmp 94) 80 80 (by rfl) _ _ _ (by rfl) (by rfl) HR4.out ?_)
                go_wp2_with fail
                go_ret
                exact riPost HO.out HBF.out
              · have hbd : decide (n ≤ (P : Int)) = false := by simp; omega
                have hbd2 : decide ((f.code.length : Int) ≤ n) = true := by simp; omega
                go_wp2_with (at_builtin; refine wpList_append_known rfl (.tmp 92) (.tmp 94) 80 80 (by rfl) _ _ _ (by rfl) (by rfl) HR4.out ?_)
                go_wp2_with fail
                go_ret
                exact riPost HO.out HBF.out
            have hbd : decide (n ≤ (P : Int)) = false := by simp; omega
            have hbd2 : decide ((f.code.length : Int) ≤ n) = false := by simp; omega
            obtain ⟨NJ, hNJ⟩ := Int.eq_ofNat_of_zero_le (show 0 ≤ n by omega)
            have HNX : Hid (Nexts fs globs f (P, d, t) ⟨op, n, a, s⟩ ([((P + 1 : Nat), d - T + R, t)] ++ [((NJ : Nat), d - T + R, t)])) := nexts_two (m := n) (m2 := (P : Int) + 1) HX.out HAL.out (by have := succ_13 (P := P) (d := d) (t := t) (x := ⟨op, n, a, s⟩) (by rw [HTE.out]; exact HTT.out) e13; rw [HTE.out, HLE.out] at this; exact this) (by omega) (by omega) (by omega) (by omega)
            have hbA2 : Below wr.heap.size wr ((w4.alloc (.cells #[.int .i64 n, .int .i64 (d - T + R), .int .i64 t] 79)).alloc (.cells #[.int .i64 n, .int .i64 (d - T + R), .int .i64 t] 79)) := balloc (balloc HBB4.out)
            have hnews : ∀ j u, [Value.int .i64 (NJ : Int), .int .i64 (d - T + R), .int .i64 t][j]? = some u → ((w4.alloc (.cells #[.int .i64 n, .int .i64 (d - T + R), .int .i64 t] 79)).alloc (.cells #[.int .i64 n, .int .i64 (d - T + R), .int .i64 t] 79)).cell? ((⟨(w4.alloc (.cells #[.int .i64 n, .int .i64 (d - T + R), .int .i64 t] 79)).heap.size, 0, none⟩ : Addr).add j) = some u := by rw [hNJ]; exact cells_three_new _ _ _ _ _
            obtain ⟨v5, w5, hrun5, hown5, hg5, hat5⟩ := append_seen (w := ((w4.alloc (.cells #[.int .i64 n, .int .i64 (d - T + R), .int .i64 t] 79)).alloc (.cells #[.int .i64 n, .int .i64 (d - T + R), .int .i64 t] 79))) (base := wc.heap.size) (v := (.slice (some ⟨g2, 0, none⟩) 1 c2)) (l := [((P + 1 : Nat), d - T + R, t)]) (p := ((NJ : Nat), d - T + R, t)) (World.ownsRow.alloc (World.ownsRow.alloc HO4.out _) _) ⟨(w4.alloc (.cells #[.int .i64 n, .int .i64 (d - T + R), .int .i64 t] 79)).heap.size, 0, none⟩ hnews (by simp) (by simp; omega) 80
            have hbB5 : Below wr.heap.size wr w5 := hbA2.grown hg5 hbA2.size (fun k hk => by simp [Value.ownBlock] at hk; omega)
            have hs5 : w4.heap.size < w5.heap.size := by have := hg5.size; simp at this; omega
            rw [show ((w4.alloc (.cells #[.int .i64 n, .int .i64 (d - T + R), .int .i64 t] 79)).heap.size) = w4.heap.size + 1 by simp] at hrun5
            obtain ⟨g3, c3, rfl, hlc5, hcm5, hb35, hb36⟩ := hown5.form (by simp)
            have hg3g : g ≠ g3 := by omega
            have HNG : Hid (∀ h, (Value.slice (some ⟨g, 0, none⟩) l.length cc).ownBlock = some h → h ≠ g3) := by intro h hh; simp [Value.ownBlock] at hh; omega
            have HTC := Lib.hid hown5.cells
            have HOW4 := Lib.hid (HOWN.out.below hbB5 (Nat.le_refl _))
            have HB4 := Lib.hid (HB.out.trans (hbB5.mono hz'))
            have HTL : List.length ([((P + 1 : Nat), d - T + R, t)] ++ [((NJ : Nat), d - T + R, t)]) ≤ 2 := by simp
            have hrun6 : (Builtin.append_ #[80, 80] 80 #[(.slice (some ⟨g2, 0, none⟩) 1 c2), .slice (some ⟨w4.heap.size + 1, 0, none⟩) 1 1]).run Try.prog ((w4.alloc (.cells #[.int .i64 n, .int .i64 (d - T + R), .int .i64 t] 79)).alloc (.cells #[.int .i64 n, .int .i64 (d - T + R), .int .i64 t] 79)) = .ok (.slice (some ⟨g3, 0, none⟩) (List.length ([((P + 1 : Nat), d - T + R, t)] ++ [((NJ : Nat), d - T + R, t)])) c3) w5 := hrun5
            have HR5 := Lib.hid hrun6
            have hlc6 : List.length ([((P + 1 : Nat), d - T + R, t)] ++ [((NJ : Nat), d - T + R, t)]) ≤ c3 := hlc5
            unfold maxLen at hcm5
            generalize ([((P + 1 : Nat), d - T + R, t)] ++ [((NJ : Nat), d - T + R, t)]) = TT at HTC HTL HNX HR5 hlc6
            have HNJ := Lib.hid hNJ
            clear hrun5 hrun6 hown5 hg5 hat5 hbA2 hbB5 hlc5 hnews hNJ
            go_wp2_with (first | (at_builtin; refine wpList_append_known rfl (.tmp 92) (.tmp 94) 80 80 (by rfl) _ _ _ (by rfl) (by rfl) HR4.out ?_) | (at_builtin; refine wpList_append_known rfl (.tmp 136) (.tmp 138) 80 80 (by rfl) _ _ _ (by rfl) (by rfl) HR5.out ?_))
            go_wp2_with fail
            go_loopw [7, 14] (fun L J wj => ∃ (j : Nat) (l' : List Sn), j ≤ TT.length ∧ J = .int .i64 j ∧ OwnN wj (w.heap.size + 1) L l' ∧ Hid (∀ h, L.ownBlock = some h → h ≠ g3) ∧ Hid (CellsN wj g3 TT) ∧ Hid (Work fs globs f l' k) ∧ Hid (l'[k]? = some (P, d, t)) ∧ Hid (∀ s ∈ TT.take j, s ∈ l') ∧ Hid (Below (w.heap.size + 1) (w.alloc (.cells #[.int .i64 f.caps, .slice (some ⟨b, off, none⟩) f.code.length c] 57)) wj)) (fun _ J _ => TT.length - (intOf J).toNat)
            case atStart => exact ⟨0, l, by omega, rfl, HOW4.out, HNG, HTC, HW, HLX, by simp [Hid], HB4⟩
            case round =>
              obtain ⟨j, l', hj, rfl, hown', HNG', HTC', HW', HLX', HIN, HB'⟩ := hrel
              generalize wr = wj at *
              have hzz' := HB'.out.size
              have hszj : w.heap.size + 1 ≤ wj.heap.size := by simpa using hzz'
              have hkl : k < l'.length := (List.getElem?_eq_some_iff.1 HLX'.out).1
              have hll := HW'.out.len
              have hboxj : wj.heap[w.heap.size]? = some (.cells #[.int .i64 f.caps, .slice (some ⟨b, off, none⟩) f.code.length c] 57 (0, 0)) := (HB'.out.block _ (by omega)).trans (heap_alloc_new w _)
              have bj : wj.cell? ⟨w.heap.size, 1, none⟩ = some (.slice (some ⟨b, off, none⟩) f.code.length c) := cellk hboxj rfl
              have hbj := lt_of_block hboxj
              obtain ⟨g', cc', rfl, hlc', hcm', hg1', hg3'⟩ := hown'.form (by omega)
              unfold maxLen at hcm'
              have hgne : g' ≠ g3 := HNG'.out g' rfl
              by_cases hjl : j < TT.length
              · have hT : TT[j]? = some (TT[j]'hjl) := List.getElem?_eq_getElem _
                obtain ⟨t0, t1, t2⟩ := HTC'.out j _ hT
                have HTM := Lib.hid (List.mem_of_getElem? hT)
                have HTT' := Lib.hid (List.take_succ_eq_append_getElem (l := TT) (i := j) hjl)
                generalize TT[j]'hjl = sn at *
                obtain ⟨S0, sd, st⟩ := sn
                simp only at t0 t1 t2
                have hgt := World.block_lt_of_cell? wj _ t0
                simp only at hgt
                have hpm := List.mem_of_getElem? HLX'.out
                have HPM := Lib.hid hpm
                have hjI : (j : Int) < (TT.length : Int) := by omega
                clear hpm hT
                by_cases hfar : f.code.length ≤ S0
                · have HO := Lib.hid (val_false (fs := fs) (globs := globs) (f := f) (.inr (HNX.out.far HW'.out HPM.out HTM.out hfar)))
                  have hfd : decide (f.code.length ≤ S0) = true := by simpa using hfar
                  have hfi : decide ((f.code.length : Int) ≤ (S0 : Int)) = true := by simp; omega
                  have HBB := Lib.hid (fun z => below_drewN ((((Below.refl _ w).alloc (Nat.le_refl _) _)).trans (HB'.out.mono (by omega))) z)
                  clear hown' hboxj
                  go_wp2_with fail
                  go_quiet (fail)
                  go_wp2_with fail
                  go_ret
                  exact riPost HO.out (HBB.out _)
                · have hfd : decide (f.code.length ≤ S0) = false := by simpa using hfar
                  have hfi : decide ((f.code.length : Int) ≤ (S0 : Int)) = false := by simp; omega
                  have HOJ := Lib.hid hown'
                  clear hown' hboxj
                  go_wp2_with fail
                  go_quiet (fail)
                  go_wp2_with fail
                  go_loopw [15, 16] (fun K N wn => ∃ (m : Nat) (kb : Bool) (nn : Nat), m ≤ l'.length ∧ N = .int .i64 m ∧ K = .bool kb ∧ wn = wj.drewN nn ∧ KnB kb (l'.take m) S0 ∧ Hid (∀ q ∈ l'.take m, q.1 = S0 → q = (S0, sd, st))) (fun _ N _ => l'.length - (intOf N).toNat)
                  case atStart => exact ⟨0, false, _, by omega, rfl, rfl, rfl, by simp [KnB], by simp [Hid]⟩
                  case round =>
                    obtain ⟨m, kb, nn, hm, rfl, rfl, rfl, HKB, HALL⟩ := hrel
                    by_cases hml : m < l'.length
                    · have hq : l'[m]? = some l'[m] := List.getElem?_eq_getElem hml
                      obtain ⟨v0, v1, v2⟩ := HOJ.out.cells m _ hq
                      have HQT := Lib.hid (List.take_succ_eq_append_getElem hml)
                      have HQM := Lib.hid (List.getElem_mem hml)
                      have hmI : (m : Int) < (l'.length : Int) := by omega
                      generalize l'[m] = q at *
                      obtain ⟨Q, qd, qt⟩ := q
                      simp only at v0 v1 v2
                      clear hq
                      by_cases e0 : Q = S0
                      · subst e0
                        have e0b : ((Q : Int) == (Q : Int)) = true := by simp
                        by_cases e1 : (qd = sd ∧ qt = st)
                        · obtain ⟨rfl, rfl⟩ := e1
                          have HKB2 : KnB true (l'.take (m + 1)) Q := by
                            unfold KnB
                            refine ⟨fun _ => ⟨(Q, qd, qt), by rw [HQT.out]; simp, rfl⟩, fun _ => rfl⟩
                          have HALL2 : Hid (∀ q ∈ l'.take (m + 1), q.1 = Q → q = (Q, qd, qt)) := by
                            intro q hq h1
                            rw [HQT.out, List.mem_append, List.mem_singleton] at hq
                            rcases hq with hq | hq
                            · exact HALL.out q hq h1
                            · exact hq
                          go_wp2_with fail
                          go_quiet (fail)
                          go_wp2_with fail
                          go_quiet (fail)
                          go_wp2_with fail
                          go_roundw
                          case rel => exact ⟨m + 1, true, _, by omega, by go_num, rfl, rfl, HKB2, HALL2⟩
                          case measure => simp [intOf]; omega
                        · have HO := Lib.hid (val_false (fs := fs) (globs := globs) (f := f) (.inr (HNX.out.clash HW'.out HPM.out HTM.out HQM.out rfl (by
                            intro h
                            injection h with _ h
                            injection h with h1 h2
                            exact e1 ⟨h1, h2⟩))))
                          have HBB := Lib.hid (fun z => below_drewN ((((Below.refl _ w).alloc (Nat.le_refl _) _)).trans (HB'.out.mono (by omega))) z)
                          by_cases e2 : qd = sd
                          · subst e2
                            have e3 : ¬ qt = st := fun h => e1 ⟨rfl, h⟩
                            clear e1
                            go_wp2_with fail
                            go_quiet (fail)
                            go_wp2_with fail
                            go_quiet (fail)
                            go_wp2_with fail
                            go_ret
                            exact riPost HO.out (below_drewN (below_drewN (HBB.out nn) _) _)
                          · clear e1
                            go_wp2_with fail
                            go_quiet (fail)
                            go_wp2_with fail
                            go_quiet (fail)
                            go_wp2_with fail
                            go_ret
                            exact riPost HO.out (below_drewN (below_drewN (HBB.out nn) _) _)
                      · have e0b : ((Q : Int) == (S0 : Int)) = false := by rw [beq_eq_false_iff_ne]; omega
                        have e0c : (Q == S0) = false := by rw [beq_eq_false_iff_ne]; exact e0
                        have HKB2 : KnB kb (l'.take (m + 1)) S0 := by
                          unfold KnB
                          refine ⟨fun h => ?_, fun ⟨q, hq, h1⟩ => ?_⟩
                          · obtain ⟨q, hq, h1⟩ := (show _ ↔ _ from HKB).1 h
                            exact ⟨q, by rw [HQT.out]; exact List.mem_append_left _ hq, h1⟩
                          · rw [HQT.out, List.mem_append, List.mem_singleton] at hq
                            rcases hq with hq | rfl
                            · exact (show _ ↔ _ from HKB).2 ⟨q, hq, h1⟩
                            · exact absurd h1 e0
                        have HALL2 : Hid (∀ q ∈ l'.take (m + 1), q.1 = S0 → q = (S0, sd, st)) := by
                          intro q hq h1
                          rw [HQT.out, List.mem_append, List.mem_singleton] at hq
                          rcases hq with hq | rfl
                          · exact HALL.out q hq h1
                          · exact absurd h1 e0
                        go_wp2_with fail
                        go_quiet (fail)
                        go_wp2_with fail
                        exact ⟨⟨m + 1, kb, _, by omega, by go_num, rfl, rfl, HKB2, HALL2⟩, by simp [intOf]; omega⟩
                    · obtain rfl : m = l'.length := by omega
                      have hkb : kb = true ↔ ∃ q ∈ l'.take l'.length, q.1 = S0 := HKB
                      have hall := HALL.out
                      rw [List.take_of_length_le (Nat.le_refl _)] at hkb hall
                      cases kb
                      · have hno : ∀ q ∈ l', q.1 ≠ S0 := fun q hq h => by have := hkb.2 ⟨q, hq, h⟩; cases this
                        have HWA := Lib.hid (HNX.out.add HW'.out HPM.out HTM.out (by simpa using hfar) hno (by omega) hn)
                        have HLA : Hid ((l' ++ [(S0, sd, st)])[k]? = some (P, d, t)) := by
                          show _ = _
                          rw [List.getElem?_append_left hkl]; exact HLX'.out
                        have HINA : Hid (∀ s ∈ TT.take (j + 1), s ∈ l' ++ [(S0, sd, st)]) := by
                          intro s hs
                          rw [HTT'.out, List.mem_append, List.mem_singleton] at hs
                          rcases hs with hs | rfl
                          · exact List.mem_append_left _ (HIN.out s hs)
                          · simp
                        have hdn : Below wj.heap.size wj ((wj.drewN nn).alloc (.cells #[.int .i64 (S0 : Int), .int .i64 sd, .int .i64 st] 79)) := balloc (below_drewN (Below.refl _ _) nn)
                        obtain ⟨v5, w5, hrun, hown5, hg5, hat5⟩ := append_seen (w := (wj.drewN nn).alloc (.cells #[.int .i64 (S0 : Int), .int .i64 sd, .int .i64 st] 79)) (base := w.heap.size + 1) (v := .slice (some ⟨g', 0, none⟩) l'.length cc') (l := l') (p := (S0, sd, st)) (HOJ.out.below hdn (Nat.le_refl _)) ⟨(wj.drewN nn).heap.size, 0, none⟩ (cells_three_new _ _ _ _ _) (by omega) (by simp; omega) 80
                        have hB5 : Below (w.heap.size + 1) (w.alloc (.cells #[.int .i64 f.caps, .slice (some ⟨b, off, none⟩) f.code.length c] 57)) w5 := (HB'.out.trans (hdn.mono hszj)).grown hg5 (by simp; omega) (fun k hk => by simp [Value.ownBlock] at hk; omega)
                        have HTC5 : Hid (CellsN w5 g3 TT) := by
                          intro i tt htt
                          obtain ⟨a0, a1, a2⟩ := HTC'.out i tt htt
                          have hlt2 := World.block_lt_of_cell? wj _ a0
                          have hk2 : w5.heap[g3]? = wj.heap[g3]? := (hg5.block g3 (by simp; omega) (by simp [Value.ownBlock]; exact fun h => hgne h.symm)).trans (hdn.block g3 hlt2)
                          exact ⟨(World.cell?_of_block hk2).trans a0, (World.cell?_of_block hk2).trans a1, (World.cell?_of_block hk2).trans a2⟩
                        have HNG5 : Hid (∀ h, v5.ownBlock = some h → h ≠ g3) := by
                          intro h hh
                          rcases hat5 with e | e
                          · rw [e] at hh
                            exact HNG'.out h hh
                          · rw [e] at hh
                            injection hh with hh
                            simp at hh
                            omega
                        have HR5 := Lib.hid hrun
                        have HB5 := Lib.hid hB5
                        have HG5 := Lib.hid hown5
                        clear hrun hown5 hg5 hat5 hB5 hdn hkb hall hno HKB HALL
                        go_wp2_with (at_builtin; refine wpList_append_known rfl (.tmp 183) (.tmp 188) 80 80 (by rfl) _ _ _ (by rfl) (by rfl) HR5.out ?_)
                        exact ⟨⟨j + 1, _, by omega, by go_num, HG5.out, HNG5, HTC5, HWA, HLA, HINA, HB5⟩, by simp [intOf]; omega⟩
                      · obtain ⟨q, hq, hq1⟩ := hkb.1 rfl
                        have hmem : (S0, sd, st) ∈ l' := by rw [← hall q hq hq1]; exact hq
                        have HINA : Hid (∀ s ∈ TT.take (j + 1), s ∈ l') := by
                          intro s hs
                          rw [HTT'.out, List.mem_append, List.mem_singleton] at hs
                          rcases hs with hs | rfl
                          · exact HIN.out s hs
                          · exact hmem
                        have hdn : Below wj.heap.size wj (wj.drewN nn) := below_drewN (Below.refl _ _) nn
                        have HG5 := Lib.hid (HOJ.out.below hdn (Nat.le_refl _))
                        have HTC5 : Hid (CellsN (wj.drewN nn) g3 TT) := by
                          intro i tt htt
                          obtain ⟨a0, a1, a2⟩ := HTC'.out i tt htt
                          have hlt2 := World.block_lt_of_cell? wj _ a0
                          have hk2 := hdn.block g3 hlt2
                          exact ⟨(World.cell?_of_block hk2).trans a0, (World.cell?_of_block hk2).trans a1, (World.cell?_of_block hk2).trans a2⟩
                        have HB5 := Lib.hid (HB'.out.trans (hdn.mono hszj))
                        clear hq hq1 hmem hdn hkb hall HKB HALL
                        go_wp2_with fail
                        exact ⟨⟨j + 1, _, by omega, by go_num, HG5.out, HNG', HTC5, HW', HLX', HINA, HB5⟩, by simp [intOf]; omega⟩
              · obtain rfl : j = TT.length := by omega
                have HWS := Lib.hid (HNX.out.step HW'.out HLX'.out (by have := HIN.out; rwa [List.take_of_length_le (Nat.le_refl _)] at this))
                have HOJ := Lib.hid hown'
                clear hown' hboxj
                go_wp2_with fail
                exact ⟨⟨k + 1, l', by omega, by go_num, HOJ.out, HWS, HB'⟩, by simp [intOf]; omega⟩
          by_cases e24 : op = 24
          · as_aux_lemma =>
            have a8 : ((op : Int) == 8) = false := by rw [beq_eq_false_iff_ne]; omega
            have b8 : ((op : Int) != 8) = true := by rw [bne_iff_ne]; omega
            have a12 : ((op : Int) == 12) = false := by rw [beq_eq_false_iff_ne]; omega
            have b12 : ((op : Int) != 12) = true := by rw [bne_iff_ne]; omega
            have a13 : ((op : Int) == 13) = false := by rw [beq_eq_false_iff_ne]; omega
            have b13 : ((op : Int) != 13) = true := by rw [bne_iff_ne]; omega
            have a24 : ((op : Int) == 24) = true := by rw [beq_iff_eq]; omega
            have b24 : ((op : Int) != 24) = false := by rw [bne_eq_false_iff_eq]; omega
            have a25 : ((op : Int) == 25) = false := by rw [beq_eq_false_iff_ne]; omega
            have b25 : ((op : Int) != 25) = true := by rw [bne_iff_ne]; omega
            have a26 : ((op : Int) == 26) = false := by rw [beq_eq_false_iff_ne]; omega
            have b26 : ((op : Int) != 26) = true := by rw [bne_iff_ne]; omega
            have hbA : Below wr.heap.size wr ((wc.setCell ⟨gn, 2, none⟩ (.int .i64 (t + 1))).alloc (.cells #[.int .i64 ((P : Int) + 1), .int .i64 (d - T + R), .int .i64 (t + 1)] 79)) := balloc (HBXX.out.setCell (p := ⟨gn, 2, none⟩) (by simp only; omega) _)
            obtain ⟨v4, w4, hrun, hown4, hg4, -⟩ := append_seen (w := ((wc.setCell ⟨gn, 2, none⟩ (.int .i64 (t + 1))).alloc (.cells #[.int .i64 ((P : Int) + 1), .int .i64 (d - T + R), .int .i64 (t + 1)] 79))) (base := wc.heap.size) (v := .slice none 0 0) (l := []) (p := (P + 1, d - T + R, t + 1)) (World.ownsRow_nil _ _ _ _) ⟨(wc.setCell ⟨gn, 2, none⟩ (.int .i64 (t + 1))).heap.size, 0, none⟩ (cells_three_new _ _ _ _ _) (by simp) (by simp [World.setCell]) 80
            have hbB : Below wr.heap.size wr w4 := hbA.grown hg4 hbA.size (fun k hk => by simp [Value.ownBlock] at hk)
            have hs4 : wc.heap.size < w4.heap.size := by have := hg4.size; simp [World.setCell] at this; omega
            rw [show ((wc.setCell ⟨gn, 2, none⟩ (.int .i64 (t + 1))).heap.size) = wc.heap.size from set_size] at hrun
            obtain ⟨g2, c2, rfl, hlc4, hcm4, hb24, hb25⟩ := hown4.form (by simp)
            have hkk : ∀ j, j < wc.heap.size → j ≠ gn → w4.heap[j]? = wc.heap[j]? := fun j hj hg => (hg4.block j (by simp [World.setCell]; omega) (by simp [Value.ownBlock])).trans ((Below.heap_alloc _ _ _ (by simpa [World.setCell] using hj)).trans (set_other (Ne.symm hg)))
            have mg : w4.heap[gn]? = some (.cells #[.int .i64 ((P : Int) + 1), .int .i64 (d - T + R), .int .i64 (t + 1)] 79 (0, 0)) := (hg4.block gn (by simp [World.setCell]; omega) (by simp [Value.ownBlock])).trans ((Below.heap_alloc _ _ _ (by simpa [World.setCell] using y3)).trans (set_three2 KG.out))
            have m9 := (hkk _ z9 hgne2).trans K9.out
            have m10 := (hkk _ z10 hgne3).trans K10.out
            have mb := (hkk _ bc2 hgne1).trans KB.out
            have r0' : w4.cell? ⟨wr.heap.size + 1, 0, none⟩ = some (.int .u8 (op : Int)) := cellk m10 rfl
            have r1' : w4.cell? ⟨wr.heap.size + 1, 1, none⟩ = some (.int .i64 (n)) := cellk m10 rfl
            have q0' : w4.cell? ⟨wr.heap.size, 0, none⟩ = some (.int .i64 (P : Int)) := cellk m9 rfl
            have q1' : w4.cell? ⟨wr.heap.size, 1, none⟩ = some (.int .i64 d) := cellk m9 rfl
            have q2' : w4.cell? ⟨wr.heap.size, 2, none⟩ = some (.int .i64 t) := cellk m9 rfl
            have bb' : w4.cell? ⟨w.heap.size, 1, none⟩ = some (.slice (some ⟨b, off, none⟩) f.code.length c) := cellk mb rfl
            have s9 := lt_of_block m9
            have s10 := lt_of_block m10
            have sb := lt_of_block mb
            have g1' : w4.cell? ⟨gn, 1, none⟩ = some (.int .i64 (d - T + R)) := cellk mg rfl
            have sg := lt_of_block mg
            have hrun' : (Builtin.append_ #[80, 80] 80 #[.slice none 0 0, .slice (some ⟨wc.heap.size, 0, none⟩) 1 1]).run Try.prog ((wc.setCell ⟨gn, 2, none⟩ (.int .i64 (t + 1))).alloc (.cells #[.int .i64 ((P : Int) + 1), .int .i64 (d - T + R), .int .i64 (t + 1)] 79)) = .ok (.slice (some ⟨g2, 0, none⟩) 1 c2) w4 := hrun
            have HR4 := Lib.hid hrun'
            have HO4 := Lib.hid hown4
            have HBB4 := Lib.hid hbB
            unfold maxLen at hcm4
            clear hrun hrun' hown4 hg4 hbA hbB hkk mg m9 m10 mb
            have HBF := Lib.hid (show Below w.heap.size w w4 from ((((Below.refl _ w).alloc (Nat.le_refl _) _)).trans (HB.out.mono (by omega))).trans (HBB4.out.mono (by omega)))
            by_cases hbad : n ≤ (P : Int) ∨ (f.code.length : Int) ≤ n
            · have HO := Lib.hid (val_false (fs := fs) (globs := globs) (f := f) (.inr (HW.out.jump HM.out HX.out (sn := (n, d + 1, t)) (by have := succ_24 (P := P) (d := d) (t := t) (x := ⟨op, n, a, s⟩) (by rw [HTE.out]; exact HTT.out) e24; rw [HTE.out, HLE.out] at this; rw [this]; simp) hbad)))
              by_cases hb1 : n ≤ (P : Int)
              · have hbd : decide (n ≤ (P : Int)) = true := by simpa using hb1
                go_wp2_with (at_builtin; refine wpList_append_known rfl (.tmp 92) (.tmp 94) 80 80 (by rfl) _ _ _ (by rfl) (by rfl) HR4.out ?_)
                go_wp2_with fail
                go_ret
                exact riPost HO.out HBF.out
              · have hbd : decide (n ≤ (P : Int)) = false := by simp; omega
                have hbd2 : decide ((f.code.length : Int) ≤ n) = true := by simp; omega
                go_wp2_with (at_builtin; refine wpList_append_known rfl (.tmp 92) (.tmp 94) 80 80 (by rfl) _ _ _ (by rfl) (by rfl) HR4.out ?_)
                go_wp2_with fail
                go_ret
                exact riPost HO.out HBF.out
            have hbd : decide (n ≤ (P : Int)) = false := by simp; omega
            have hbd2 : decide ((f.code.length : Int) ≤ n) = false := by simp; omega
            obtain ⟨NJ, hNJ⟩ := Int.eq_ofNat_of_zero_le (show 0 ≤ n by omega)
            have HNX : Hid (Nexts fs globs f (P, d, t) ⟨op, n, a, s⟩ ([((P + 1 : Nat), d - T + R, t + 1)] ++ [((NJ : Nat), d + 1, t)])) := nexts_two (m := n) (m2 := (P : Int) + 1) HX.out HAL.out (by have := succ_24 (P := P) (d := d) (t := t) (x := ⟨op, n, a, s⟩) (by rw [HTE.out]; exact HTT.out) e24; rw [HTE.out, HLE.out] at this; exact this) (by omega) (by omega) (by omega) (by omega)
            have hbA2 : Below wr.heap.size wr ((w4.alloc (.cells #[.int .i64 n, .int .i64 (d + 1), .int .i64 t] 79)).alloc (.cells #[.int .i64 n, .int .i64 (d + 1), .int .i64 t] 79)) := balloc (balloc HBB4.out)
            have hnews : ∀ j u, [Value.int .i64 (NJ : Int), .int .i64 (d + 1), .int .i64 t][j]? = some u → ((w4.alloc (.cells #[.int .i64 n, .int .i64 (d + 1), .int .i64 t] 79)).alloc (.cells #[.int .i64 n, .int .i64 (d + 1), .int .i64 t] 79)).cell? ((⟨(w4.alloc (.cells #[.int .i64 n, .int .i64 (d + 1), .int .i64 t] 79)).heap.size, 0, none⟩ : Addr).add j) = some u := by rw [hNJ]; exact cells_three_new _ _ _ _ _
            obtain ⟨v5, w5, hrun5, hown5, hg5, hat5⟩ := append_seen (w := ((w4.alloc (.cells #[.int .i64 n, .int .i64 (d + 1), .int .i64 t] 79)).alloc (.cells #[.int .i64 n, .int .i64 (d + 1), .int .i64 t] 79))) (base := wc.heap.size) (v := (.slice (some ⟨g2, 0, none⟩) 1 c2)) (l := [((P + 1 : Nat), d - T + R, t + 1)]) (p := ((NJ : Nat), d + 1, t)) (World.ownsRow.alloc (World.ownsRow.alloc HO4.out _) _) ⟨(w4.alloc (.cells #[.int .i64 n, .int .i64 (d + 1), .int .i64 t] 79)).heap.size, 0, none⟩ hnews (by simp) (by simp; omega) 80
            have hbB5 : Below wr.heap.size wr w5 := hbA2.grown hg5 hbA2.size (fun k hk => by simp [Value.ownBlock] at hk; omega)
            have hs5 : w4.heap.size < w5.heap.size := by have := hg5.size; simp at this; omega
            rw [show ((w4.alloc (.cells #[.int .i64 n, .int .i64 (d + 1), .int .i64 t] 79)).heap.size) = w4.heap.size + 1 by simp] at hrun5
            obtain ⟨g3, c3, rfl, hlc5, hcm5, hb35, hb36⟩ := hown5.form (by simp)
            have hg3g : g ≠ g3 := by omega
            have HNG : Hid (∀ h, (Value.slice (some ⟨g, 0, none⟩) l.length cc).ownBlock = some h → h ≠ g3) := by intro h hh; simp [Value.ownBlock] at hh; omega
            have HTC := Lib.hid hown5.cells
            have HOW4 := Lib.hid (HOWN.out.below hbB5 (Nat.le_refl _))
            have HB4 := Lib.hid (HB.out.trans (hbB5.mono hz'))
            have HTL : List.length ([((P + 1 : Nat), d - T + R, t + 1)] ++ [((NJ : Nat), d + 1, t)]) ≤ 2 := by simp
            have hrun6 : (Builtin.append_ #[80, 80] 80 #[(.slice (some ⟨g2, 0, none⟩) 1 c2), .slice (some ⟨w4.heap.size + 1, 0, none⟩) 1 1]).run Try.prog ((w4.alloc (.cells #[.int .i64 n, .int .i64 (d + 1), .int .i64 t] 79)).alloc (.cells #[.int .i64 n, .int .i64 (d + 1), .int .i64 t] 79)) = .ok (.slice (some ⟨g3, 0, none⟩) (List.length ([((P + 1 : Nat), d - T + R, t + 1)] ++ [((NJ : Nat), d + 1, t)])) c3) w5 := hrun5
            have HR5 := Lib.hid hrun6
            have hlc6 : List.length ([((P + 1 : Nat), d - T + R, t + 1)] ++ [((NJ : Nat), d + 1, t)]) ≤ c3 := hlc5
            unfold maxLen at hcm5
            generalize ([((P + 1 : Nat), d - T + R, t + 1)] ++ [((NJ : Nat), d + 1, t)]) = TT at HTC HTL HNX HR5 hlc6
            have HNJ := Lib.hid hNJ
            clear hrun5 hrun6 hown5 hg5 hat5 hbA2 hbB5 hlc5 hnews hNJ
            go_wp2_with (first | (at_builtin; refine wpList_append_known rfl (.tmp 92) (.tmp 94) 80 80 (by rfl) _ _ _ (by rfl) (by rfl) HR4.out ?_) | (at_builtin; refine wpList_append_known rfl (.tmp 136) (.tmp 138) 80 80 (by rfl) _ _ _ (by rfl) (by rfl) HR5.out ?_))
            go_wp2_with fail
            go_loopw [7, 14] (fun L J wj => ∃ (j : Nat) (l' : List Sn), j ≤ TT.length ∧ J = .int .i64 j ∧ OwnN wj (w.heap.size + 1) L l' ∧ Hid (∀ h, L.ownBlock = some h → h ≠ g3) ∧ Hid (CellsN wj g3 TT) ∧ Hid (Work fs globs f l' k) ∧ Hid (l'[k]? = some (P, d, t)) ∧ Hid (∀ s ∈ TT.take j, s ∈ l') ∧ Hid (Below (w.heap.size + 1) (w.alloc (.cells #[.int .i64 f.caps, .slice (some ⟨b, off, none⟩) f.code.length c] 57)) wj)) (fun _ J _ => TT.length - (intOf J).toNat)
            case atStart => exact ⟨0, l, by omega, rfl, HOW4.out, HNG, HTC, HW, HLX, by simp [Hid], HB4⟩
            case round =>
              obtain ⟨j, l', hj, rfl, hown', HNG', HTC', HW', HLX', HIN, HB'⟩ := hrel
              generalize wr = wj at *
              have hzz' := HB'.out.size
              have hszj : w.heap.size + 1 ≤ wj.heap.size := by simpa using hzz'
              have hkl : k < l'.length := (List.getElem?_eq_some_iff.1 HLX'.out).1
              have hll := HW'.out.len
              have hboxj : wj.heap[w.heap.size]? = some (.cells #[.int .i64 f.caps, .slice (some ⟨b, off, none⟩) f.code.length c] 57 (0, 0)) := (HB'.out.block _ (by omega)).trans (heap_alloc_new w _)
              have bj : wj.cell? ⟨w.heap.size, 1, none⟩ = some (.slice (some ⟨b, off, none⟩) f.code.length c) := cellk hboxj rfl
              have hbj := lt_of_block hboxj
              obtain ⟨g', cc', rfl, hlc', hcm', hg1', hg3'⟩ := hown'.form (by omega)
              unfold maxLen at hcm'
              have hgne : g' ≠ g3 := HNG'.out g' rfl
              by_cases hjl : j < TT.length
              · have hT : TT[j]? = some (TT[j]'hjl) := List.getElem?_eq_getElem _
                obtain ⟨t0, t1, t2⟩ := HTC'.out j _ hT
                have HTM := Lib.hid (List.mem_of_getElem? hT)
                have HTT' := Lib.hid (List.take_succ_eq_append_getElem (l := TT) (i := j) hjl)
                generalize TT[j]'hjl = sn at *
                obtain ⟨S0, sd, st⟩ := sn
                simp only at t0 t1 t2
                have hgt := World.block_lt_of_cell? wj _ t0
                simp only at hgt
                have hpm := List.mem_of_getElem? HLX'.out
                have HPM := Lib.hid hpm
                have hjI : (j : Int) < (TT.length : Int) := by omega
                clear hpm hT
                by_cases hfar : f.code.length ≤ S0
                · have HO := Lib.hid (val_false (fs := fs) (globs := globs) (f := f) (.inr (HNX.out.far HW'.out HPM.out HTM.out hfar)))
                  have hfd : decide (f.code.length ≤ S0) = true := by simpa using hfar
                  have hfi : decide ((f.code.length : Int) ≤ (S0 : Int)) = true := by simp; omega
                  have HBB := Lib.hid (fun z => below_drewN ((((Below.refl _ w).alloc (Nat.le_refl _) _)).trans (HB'.out.mono (by omega))) z)
                  clear hown' hboxj
                  go_wp2_with fail
                  go_quiet (fail)
                  go_wp2_with fail
                  go_ret
                  exact riPost HO.out (HBB.out _)
                · have hfd : decide (f.code.length ≤ S0) = false := by simpa using hfar
                  have hfi : decide ((f.code.length : Int) ≤ (S0 : Int)) = false := by simp; omega
                  have HOJ := Lib.hid hown'
                  clear hown' hboxj
                  go_wp2_with fail
                  go_quiet (fail)
                  go_wp2_with fail
                  go_loopw [15, 16] (fun K N wn => ∃ (m : Nat) (kb : Bool) (nn : Nat), m ≤ l'.length ∧ N = .int .i64 m ∧ K = .bool kb ∧ wn = wj.drewN nn ∧ KnB kb (l'.take m) S0 ∧ Hid (∀ q ∈ l'.take m, q.1 = S0 → q = (S0, sd, st))) (fun _ N _ => l'.length - (intOf N).toNat)
                  case atStart => exact ⟨0, false, _, by omega, rfl, rfl, rfl, by simp [KnB], by simp [Hid]⟩
                  case round =>
                    obtain ⟨m, kb, nn, hm, rfl, rfl, rfl, HKB, HALL⟩ := hrel
                    by_cases hml : m < l'.length
                    · have hq : l'[m]? = some l'[m] := List.getElem?_eq_getElem hml
                      obtain ⟨v0, v1, v2⟩ := HOJ.out.cells m _ hq
                      have HQT := Lib.hid (List.take_succ_eq_append_getElem hml)
                      have HQM := Lib.hid (List.getElem_mem hml)
                      have hmI : (m : Int) < (l'.length : Int) := by omega
                      generalize l'[m] = q at *
                      obtain ⟨Q, qd, qt⟩ := q
                      simp only at v0 v1 v2
                      clear hq
                      by_cases e0 : Q = S0
                      · subst e0
                        have e0b : ((Q : Int) == (Q : Int)) = true := by simp
                        by_cases e1 : (qd = sd ∧ qt = st)
                        · obtain ⟨rfl, rfl⟩ := e1
                          have HKB2 : KnB true (l'.take (m + 1)) Q := by
                            unfold KnB
                            refine ⟨fun _ => ⟨(Q, qd, qt), by rw [HQT.out]; simp, rfl⟩, fun _ => rfl⟩
                          have HALL2 : Hid (∀ q ∈ l'.take (m + 1), q.1 = Q → q = (Q, qd, qt)) := by
                            intro q hq h1
                            rw [HQT.out, List.mem_append, List.mem_singleton] at hq
                            rcases hq with hq | hq
                            · exact HALL.out q hq h1
                            · exact hq
                          go_wp2_with fail
                          go_quiet (fail)
                          go_wp2_with fail
                          go_quiet (fail)
                          go_wp2_with fail
                          go_roundw
                          case rel => exact ⟨m + 1, true, _, by omega, by go_num, rfl, rfl, HKB2, HALL2⟩
                          case measure => simp [intOf]; omega
                        · have HO := Lib.hid (val_false (fs := fs) (globs := globs) (f := f) (.inr (HNX.out.clash HW'.out HPM.out HTM.out HQM.out rfl (by
                            intro h
                            injection h with _ h
                            injection h with h1 h2
                            exact e1 ⟨h1, h2⟩))))
                          have HBB := Lib.hid (fun z => below_drewN ((((Below.refl _ w).alloc (Nat.le_refl _) _)).trans (HB'.out.mono (by omega))) z)
                          by_cases e2 : qd = sd
                          · subst e2
                            have e3 : ¬ qt = st := fun h => e1 ⟨rfl, h⟩
                            clear e1
                            go_wp2_with fail
                            go_quiet (fail)
                            go_wp2_with fail
                            go_quiet (fail)
                            go_wp2_with fail
                            go_ret
                            exact riPost HO.out (below_drewN (below_drewN (HBB.out nn) _) _)
                          · clear e1
                            go_wp2_with fail
                            go_quiet (fail)
                            go_wp2_with fail
                            go_quiet (fail)
                            go_wp2_with fail
                            go_ret
                            exact riPost HO.out (below_drewN (below_drewN (HBB.out nn) _) _)
                      · have e0b : ((Q : Int) == (S0 : Int)) = false := by rw [beq_eq_false_iff_ne]; omega
                        have e0c : (Q == S0) = false := by rw [beq_eq_false_iff_ne]; exact e0
                        have HKB2 : KnB kb (l'.take (m + 1)) S0 := by
                          unfold KnB
                          refine ⟨fun h => ?_, fun ⟨q, hq, h1⟩ => ?_⟩
                          · obtain ⟨q, hq, h1⟩ := (show _ ↔ _ from HKB).1 h
                            exact ⟨q, by rw [HQT.out]; exact List.mem_append_left _ hq, h1⟩
                          · rw [HQT.out, List.mem_append, List.mem_singleton] at hq
                            rcases hq with hq | rfl
                            · exact (show _ ↔ _ from HKB).2 ⟨q, hq, h1⟩
                            · exact absurd h1 e0
                        have HALL2 : Hid (∀ q ∈ l'.take (m + 1), q.1 = S0 → q = (S0, sd, st)) := by
                          intro q hq h1
                          rw [HQT.out, List.mem_append, List.mem_singleton] at hq
                          rcases hq with hq | rfl
                          · exact HALL.out q hq h1
                          · exact absurd h1 e0
                        go_wp2_with fail
                        go_quiet (fail)
                        go_wp2_with fail
                        exact ⟨⟨m + 1, kb, _, by omega, by go_num, rfl, rfl, HKB2, HALL2⟩, by simp [intOf]; omega⟩
                    · obtain rfl : m = l'.length := by omega
                      have hkb : kb = true ↔ ∃ q ∈ l'.take l'.length, q.1 = S0 := HKB
                      have hall := HALL.out
                      rw [List.take_of_length_le (Nat.le_refl _)] at hkb hall
                      cases kb
                      · have hno : ∀ q ∈ l', q.1 ≠ S0 := fun q hq h => by have := hkb.2 ⟨q, hq, h⟩; cases this
                        have HWA := Lib.hid (HNX.out.add HW'.out HPM.out HTM.out (by simpa using hfar) hno (by omega) hn)
                        have HLA : Hid ((l' ++ [(S0, sd, st)])[k]? = some (P, d, t)) := by
                          show _ = _
                          rw [List.getElem?_append_left hkl]; exact HLX'.out
                        have HINA : Hid (∀ s ∈ TT.take (j + 1), s ∈ l' ++ [(S0, sd, st)]) := by
                          intro s hs
                          rw [HTT'.out, List.mem_append, List.mem_singleton] at hs
                          rcases hs with hs | rfl
                          · exact List.mem_append_left _ (HIN.out s hs)
                          · simp
                        have hdn : Below wj.heap.size wj ((wj.drewN nn).alloc (.cells #[.int .i64 (S0 : Int), .int .i64 sd, .int .i64 st] 79)) := balloc (below_drewN (Below.refl _ _) nn)
                        obtain ⟨v5, w5, hrun, hown5, hg5, hat5⟩ := append_seen (w := (wj.drewN nn).alloc (.cells #[.int .i64 (S0 : Int), .int .i64 sd, .int .i64 st] 79)) (base := w.heap.size + 1) (v := .slice (some ⟨g', 0, none⟩) l'.length cc') (l := l') (p := (S0, sd, st)) (HOJ.out.below hdn (Nat.le_refl _)) ⟨(wj.drewN nn).heap.size, 0, none⟩ (cells_three_new _ _ _ _ _) (by omega) (by simp; omega) 80
                        have hB5 : Below (w.heap.size + 1) (w.alloc (.cells #[.int .i64 f.caps, .slice (some ⟨b, off, none⟩) f.code.length c] 57)) w5 := (HB'.out.trans (hdn.mono hszj)).grown hg5 (by simp; omega) (fun k hk => by simp [Value.ownBlock] at hk; omega)
                        have HTC5 : Hid (CellsN w5 g3 TT) := by
                          intro i tt htt
                          obtain ⟨a0, a1, a2⟩ := HTC'.out i tt htt
                          have hlt2 := World.block_lt_of_cell? wj _ a0
                          have hk2 : w5.heap[g3]? = wj.heap[g3]? := (hg5.block g3 (by simp; omega) (by simp [Value.ownBlock]; exact fun h => hgne h.symm)).trans (hdn.block g3 hlt2)
                          exact ⟨(World.cell?_of_block hk2).trans a0, (World.cell?_of_block hk2).trans a1, (World.cell?_of_block hk2).trans a2⟩
                        have HNG5 : Hid (∀ h, v5.ownBlock = some h → h ≠ g3) := by
                          intro h hh
                          rcases hat5 with e | e
                          · rw [e] at hh
                            exact HNG'.out h hh
                          · rw [e] at hh
                            injection hh with hh
                            simp at hh
                            omega
                        have HR5 := Lib.hid hrun
                        have HB5 := Lib.hid hB5
                        have HG5 := Lib.hid hown5
                        clear hrun hown5 hg5 hat5 hB5 hdn hkb hall hno HKB HALL
                        go_wp2_with (at_builtin; refine wpList_append_known rfl (.tmp 183) (.tmp 188) 80 80 (by rfl) _ _ _ (by rfl) (by rfl) HR5.out ?_)
                        exact ⟨⟨j + 1, _, by omega, by go_num, HG5.out, HNG5, HTC5, HWA, HLA, HINA, HB5⟩, by simp [intOf]; omega⟩
                      · obtain ⟨q, hq, hq1⟩ := hkb.1 rfl
                        have hmem : (S0, sd, st) ∈ l' := by rw [← hall q hq hq1]; exact hq
                        have HINA : Hid (∀ s ∈ TT.take (j + 1), s ∈ l') := by
                          intro s hs
                          rw [HTT'.out, List.mem_append, List.mem_singleton] at hs
                          rcases hs with hs | rfl
                          · exact HIN.out s hs
                          · exact hmem
                        have hdn : Below wj.heap.size wj (wj.drewN nn) := below_drewN (Below.refl _ _) nn
                        have HG5 := Lib.hid (HOJ.out.below hdn (Nat.le_refl _))
                        have HTC5 : Hid (CellsN (wj.drewN nn) g3 TT) := by
                          intro i tt htt
                          obtain ⟨a0, a1, a2⟩ := HTC'.out i tt htt
                          have hlt2 := World.block_lt_of_cell? wj _ a0
                          have hk2 := hdn.block g3 hlt2
                          exact ⟨(World.cell?_of_block hk2).trans a0, (World.cell?_of_block hk2).trans a1, (World.cell?_of_block hk2).trans a2⟩
                        have HB5 := Lib.hid (HB'.out.trans (hdn.mono hszj))
                        clear hq hq1 hmem hdn hkb hall HKB HALL
                        go_wp2_with fail
                        exact ⟨⟨j + 1, _, by omega, by go_num, HG5.out, HNG', HTC5, HW', HLX', HINA, HB5⟩, by simp [intOf]; omega⟩
              · obtain rfl : j = TT.length := by omega
                have HWS := Lib.hid (HNX.out.step HW'.out HLX'.out (by have := HIN.out; rwa [List.take_of_length_le (Nat.le_refl _)] at this))
                have HOJ := Lib.hid hown'
                clear hown' hboxj
                go_wp2_with fail
                exact ⟨⟨k + 1, l', by omega, by go_num, HOJ.out, HWS, HB'⟩, by simp [intOf]; omega⟩
          by_cases e25 : op = 25
          · as_aux_lemma =>
            have a8 : ((op : Int) == 8) = false := by rw [beq_eq_false_iff_ne]; omega
            have b8 : ((op : Int) != 8) = true := by rw [bne_iff_ne]; omega
            have a12 : ((op : Int) == 12) = false := by rw [beq_eq_false_iff_ne]; omega
            have b12 : ((op : Int) != 12) = true := by rw [bne_iff_ne]; omega
            have a13 : ((op : Int) == 13) = false := by rw [beq_eq_false_iff_ne]; omega
            have b13 : ((op : Int) != 13) = true := by rw [bne_iff_ne]; omega
            have a24 : ((op : Int) == 24) = false := by rw [beq_eq_false_iff_ne]; omega
            have b24 : ((op : Int) != 24) = true := by rw [bne_iff_ne]; omega
            have a25 : ((op : Int) == 25) = true := by rw [beq_iff_eq]; omega
            have b25 : ((op : Int) != 25) = false := by rw [bne_eq_false_iff_eq]; omega
            have a26 : ((op : Int) == 26) = false := by rw [beq_eq_false_iff_ne]; omega
            have b26 : ((op : Int) != 26) = true := by rw [bne_iff_ne]; omega
            have HNX : Hid (Nexts fs globs f (P, d, t) ⟨op, n, a, s⟩ [(P + 1, d - T + R, t - 1)]) := nexts_one (m := (P : Int) + 1) HX.out HAL.out (by have := succ_25 (P := P) (d := d) (t := t) (x := ⟨op, n, a, s⟩) (by rw [HTE.out]; exact HTT.out) e25; rwa [HTE.out, HLE.out] at this) (by omega) (by omega)
            have hbA : Below wr.heap.size wr ((wc.setCell ⟨gn, 2, none⟩ (.int .i64 (t - 1))).alloc (.cells #[.int .i64 ((P : Int) + 1), .int .i64 (d - T + R), .int .i64 (t - 1)] 79)) := balloc (HBXX.out.setCell (p := ⟨gn, 2, none⟩) (by simp only; omega) _)
            obtain ⟨v4, w4, hrun, hown4, hg4, -⟩ := append_seen (w := ((wc.setCell ⟨gn, 2, none⟩ (.int .i64 (t - 1))).alloc (.cells #[.int .i64 ((P : Int) + 1), .int .i64 (d - T + R), .int .i64 (t - 1)] 79))) (base := wc.heap.size) (v := .slice none 0 0) (l := []) (p := (P + 1, d - T + R, t - 1)) (World.ownsRow_nil _ _ _ _) ⟨(wc.setCell ⟨gn, 2, none⟩ (.int .i64 (t - 1))).heap.size, 0, none⟩ (cells_three_new _ _ _ _ _) (by simp) (by simp [World.setCell]) 80
            have hbB : Below wr.heap.size wr w4 := hbA.grown hg4 hbA.size (fun k hk => by simp [Value.ownBlock] at hk)
            have hs4 : wc.heap.size < w4.heap.size := by have := hg4.size; simp [World.setCell] at this; omega
            rw [show ((wc.setCell ⟨gn, 2, none⟩ (.int .i64 (t - 1))).heap.size) = wc.heap.size from set_size] at hrun
            obtain ⟨g2, c2, rfl, hlc4, hcm4, hb24, hb25⟩ := hown4.form (by simp)
            have hg2g : g ≠ g2 := by omega
            have HNG : Hid (∀ h, (Value.slice (some ⟨g, 0, none⟩) l.length cc).ownBlock = some h → h ≠ g2) := by intro h hh; simp [Value.ownBlock] at hh; omega
            have HTC := Lib.hid hown4.cells
            have HOW4 := Lib.hid (HOWN.out.below hbB (Nat.le_refl _))
            have HB4 := Lib.hid (HB.out.trans (hbB.mono hz'))
            have HTL : List.length [((P + 1 : Nat), d - T + R, t - 1)] ≤ 2 := by simp
            have hrun' : (Builtin.append_ #[80, 80] 80 #[.slice none 0 0, .slice (some ⟨wc.heap.size, 0, none⟩) 1 1]).run Try.prog ((wc.setCell ⟨gn, 2, none⟩ (.int .i64 (t - 1))).alloc (.cells #[.int .i64 ((P : Int) + 1), .int .i64 (d - T + R), .int .i64 (t - 1)] 79)) = .ok (.slice (some ⟨g2, 0, none⟩) (List.length [((P + 1 : Nat), d - T + R, t - 1)]) c2) w4 := hrun
            have HR4 := Lib.hid hrun'
            have hkk : ∀ j, j < wc.heap.size → j ≠ gn → w4.heap[j]? = wc.heap[j]? := fun j hj hg => (hg4.block j (by simp [World.setCell]; omega) (by simp [Value.ownBlock])).trans ((Below.heap_alloc _ _ _ (by simpa [World.setCell] using hj)).trans (set_other (Ne.symm hg)))
            have m9 := (hkk _ z9 hgne2).trans K9.out
            have m10 := (hkk _ z10 hgne3).trans K10.out
            have mb := (hkk _ bc2 hgne1).trans KB.out
            have r0' : w4.cell? ⟨wr.heap.size + 1, 0, none⟩ = some (.int .u8 (op : Int)) := cellk m10 rfl
            have r1' : w4.cell? ⟨wr.heap.size + 1, 1, none⟩ = some (.int .i64 n) := cellk m10 rfl
            have q0' : w4.cell? ⟨wr.heap.size, 0, none⟩ = some (.int .i64 (P : Int)) := cellk m9 rfl
            have q1' : w4.cell? ⟨wr.heap.size, 1, none⟩ = some (.int .i64 d) := cellk m9 rfl
            have q2' : w4.cell? ⟨wr.heap.size, 2, none⟩ = some (.int .i64 t) := cellk m9 rfl
            have bb' : w4.cell? ⟨w.heap.size, 1, none⟩ = some (.slice (some ⟨b, off, none⟩) f.code.length c) := cellk mb rfl
            have s9 := lt_of_block m9
            have s10 := lt_of_block m10
            have sb := lt_of_block mb
            clear hkk m9 m10 mb
            unfold maxLen at hcm4
            simp only [List.nil_append] at HTC
            have hlc5 : List.length [((P + 1 : Nat), d - T + R, t - 1)] ≤ c2 := hlc4
            generalize [((P + 1 : Nat), d - T + R, t - 1)] = TT at HTC HTL HNX HR4 hlc5
            clear hrun hrun' hown4 hg4 hbA hbB hlc4
            go_wp2_with (at_builtin; refine wpList_append_known rfl (.tmp 92) (.tmp 94) 80 80 (by rfl) _ _ _ (by rfl) (by rfl) HR4.out ?_)
            go_wp2_with fail
            go_loopw [7, 14] (fun L J wj => ∃ (j : Nat) (l' : List Sn), j ≤ TT.length ∧ J = .int .i64 j ∧ OwnN wj (w.heap.size + 1) L l' ∧ Hid (∀ h, L.ownBlock = some h → h ≠ g2) ∧ Hid (CellsN wj g2 TT) ∧ Hid (Work fs globs f l' k) ∧ Hid (l'[k]? = some (P, d, t)) ∧ Hid (∀ s ∈ TT.take j, s ∈ l') ∧ Hid (Below (w.heap.size + 1) (w.alloc (.cells #[.int .i64 f.caps, .slice (some ⟨b, off, none⟩) f.code.length c] 57)) wj)) (fun _ J _ => TT.length - (intOf J).toNat)
            case atStart => exact ⟨0, l, by omega, rfl, HOW4.out, HNG, HTC, HW, HLX, by simp [Hid], HB4⟩
            case round =>
              obtain ⟨j, l', hj, rfl, hown', HNG', HTC', HW', HLX', HIN, HB'⟩ := hrel
              generalize wr = wj at *
              have hzz' := HB'.out.size
              have hszj : w.heap.size + 1 ≤ wj.heap.size := by simpa using hzz'
              have hkl : k < l'.length := (List.getElem?_eq_some_iff.1 HLX'.out).1
              have hll := HW'.out.len
              have hboxj : wj.heap[w.heap.size]? = some (.cells #[.int .i64 f.caps, .slice (some ⟨b, off, none⟩) f.code.length c] 57 (0, 0)) := (HB'.out.block _ (by omega)).trans (heap_alloc_new w _)
              have bj : wj.cell? ⟨w.heap.size, 1, none⟩ = some (.slice (some ⟨b, off, none⟩) f.code.length c) := cellk hboxj rfl
              have hbj := lt_of_block hboxj
              obtain ⟨g', cc', rfl, hlc', hcm', hg1', hg2'⟩ := hown'.form (by omega)
              unfold maxLen at hcm'
              have hgne : g' ≠ g2 := HNG'.out g' rfl
              by_cases hjl : j < TT.length
              · have hT : TT[j]? = some (TT[j]'hjl) := List.getElem?_eq_getElem _
                obtain ⟨t0, t1, t2⟩ := HTC'.out j _ hT
                have HTM := Lib.hid (List.mem_of_getElem? hT)
                have HTT' := Lib.hid (List.take_succ_eq_append_getElem (l := TT) (i := j) hjl)
                generalize TT[j]'hjl = sn at *
                obtain ⟨S0, sd, st⟩ := sn
                simp only at t0 t1 t2
                have hgt := World.block_lt_of_cell? wj _ t0
                simp only at hgt
                have hpm := List.mem_of_getElem? HLX'.out
                have HPM := Lib.hid hpm
                have hjI : (j : Int) < (TT.length : Int) := by omega
                clear hpm hT
                by_cases hfar : f.code.length ≤ S0
                · have HO := Lib.hid (val_false (fs := fs) (globs := globs) (f := f) (.inr (HNX.out.far HW'.out HPM.out HTM.out hfar)))
                  have hfd : decide (f.code.length ≤ S0) = true := by simpa using hfar
                  have hfi : decide ((f.code.length : Int) ≤ (S0 : Int)) = true := by simp; omega
                  have HBB := Lib.hid (fun z => below_drewN ((((Below.refl _ w).alloc (Nat.le_refl _) _)).trans (HB'.out.mono (by omega))) z)
                  clear hown' hboxj
                  go_wp2_with fail
                  go_quiet (fail)
                  go_wp2_with fail
                  go_ret
                  exact riPost HO.out (HBB.out _)
                · have hfd : decide (f.code.length ≤ S0) = false := by simpa using hfar
                  have hfi : decide ((f.code.length : Int) ≤ (S0 : Int)) = false := by simp; omega
                  have HOJ := Lib.hid hown'
                  clear hown' hboxj
                  go_wp2_with fail
                  go_quiet (fail)
                  go_wp2_with fail
                  go_loopw [15, 16] (fun K N wn => ∃ (m : Nat) (kb : Bool) (nn : Nat), m ≤ l'.length ∧ N = .int .i64 m ∧ K = .bool kb ∧ wn = wj.drewN nn ∧ KnB kb (l'.take m) S0 ∧ Hid (∀ q ∈ l'.take m, q.1 = S0 → q = (S0, sd, st))) (fun _ N _ => l'.length - (intOf N).toNat)
                  case atStart => exact ⟨0, false, _, by omega, rfl, rfl, rfl, by simp [KnB], by simp [Hid]⟩
                  case round =>
                    obtain ⟨m, kb, nn, hm, rfl, rfl, rfl, HKB, HALL⟩ := hrel
                    by_cases hml : m < l'.length
                    · have hq : l'[m]? = some l'[m] := List.getElem?_eq_getElem hml
                      obtain ⟨v0, v1, v2⟩ := HOJ.out.cells m _ hq
                      have HQT := Lib.hid (List.take_succ_eq_append_getElem hml)
                      have HQM := Lib.hid (List.getElem_mem hml)
                      have hmI : (m : Int) < (l'.length : Int) := by omega
                      generalize l'[m] = q at *
                      obtain ⟨Q, qd, qt⟩ := q
                      simp only at v0 v1 v2
                      clear hq
                      by_cases e0 : Q = S0
                      · subst e0
                        have e0b : ((Q : Int) == (Q : Int)) = true := by simp
                        by_cases e1 : (qd = sd ∧ qt = st)
                        · obtain ⟨rfl, rfl⟩ := e1
                          have HKB2 : KnB true (l'.take (m + 1)) Q := by
                            unfold KnB
                            refine ⟨fun _ => ⟨(Q, qd, qt), by rw [HQT.out]; simp, rfl⟩, fun _ => rfl⟩
                          have HALL2 : Hid (∀ q ∈ l'.take (m + 1), q.1 = Q → q = (Q, qd, qt)) := by
                            intro q hq h1
                            rw [HQT.out, List.mem_append, List.mem_singleton] at hq
                            rcases hq with hq | hq
                            · exact HALL.out q hq h1
                            · exact hq
                          go_wp2_with fail
                          go_quiet (fail)
                          go_wp2_with fail
                          go_quiet (fail)
                          go_wp2_with fail
                          go_roundw
                          case rel => exact ⟨m + 1, true, _, by omega, by go_num, rfl, rfl, HKB2, HALL2⟩
                          case measure => simp [intOf]; omega
                        · have HO := Lib.hid (val_false (fs := fs) (globs := globs) (f := f) (.inr (HNX.out.clash HW'.out HPM.out HTM.out HQM.out rfl (by
                            intro h
                            injection h with _ h
                            injection h with h1 h2
                            exact e1 ⟨h1, h2⟩))))
                          have HBB := Lib.hid (fun z => below_drewN ((((Below.refl _ w).alloc (Nat.le_refl _) _)).trans (HB'.out.mono (by omega))) z)
                          by_cases e2 : qd = sd
                          · subst e2
                            have e3 : ¬ qt = st := fun h => e1 ⟨rfl, h⟩
                            clear e1
                            go_wp2_with fail
                            go_quiet (fail)
                            go_wp2_with fail
                            go_quiet (fail)
                            go_wp2_with fail
                            go_ret
                            exact riPost HO.out (below_drewN (below_drewN (HBB.out nn) _) _)
                          · clear e1
                            go_wp2_with fail
                            go_quiet (fail)
                            go_wp2_with fail
                            go_quiet (fail)
                            go_wp2_with fail
                            go_ret
                            exact riPost HO.out (below_drewN (below_drewN (HBB.out nn) _) _)
                      · have e0b : ((Q : Int) == (S0 : Int)) = false := by rw [beq_eq_false_iff_ne]; omega
                        have e0c : (Q == S0) = false := by rw [beq_eq_false_iff_ne]; exact e0
                        have HKB2 : KnB kb (l'.take (m + 1)) S0 := by
                          unfold KnB
                          refine ⟨fun h => ?_, fun ⟨q, hq, h1⟩ => ?_⟩
                          · obtain ⟨q, hq, h1⟩ := (show _ ↔ _ from HKB).1 h
                            exact ⟨q, by rw [HQT.out]; exact List.mem_append_left _ hq, h1⟩
                          · rw [HQT.out, List.mem_append, List.mem_singleton] at hq
                            rcases hq with hq | rfl
                            · exact (show _ ↔ _ from HKB).2 ⟨q, hq, h1⟩
                            · exact absurd h1 e0
                        have HALL2 : Hid (∀ q ∈ l'.take (m + 1), q.1 = S0 → q = (S0, sd, st)) := by
                          intro q hq h1
                          rw [HQT.out, List.mem_append, List.mem_singleton] at hq
                          rcases hq with hq | rfl
                          · exact HALL.out q hq h1
                          · exact absurd h1 e0
                        go_wp2_with fail
                        go_quiet (fail)
                        go_wp2_with fail
                        exact ⟨⟨m + 1, kb, _, by omega, by go_num, rfl, rfl, HKB2, HALL2⟩, by simp [intOf]; omega⟩
                    · obtain rfl : m = l'.length := by omega
                      have hkb : kb = true ↔ ∃ q ∈ l'.take l'.length, q.1 = S0 := HKB
                      have hall := HALL.out
                      rw [List.take_of_length_le (Nat.le_refl _)] at hkb hall
                      cases kb
                      · have hno : ∀ q ∈ l', q.1 ≠ S0 := fun q hq h => by have := hkb.2 ⟨q, hq, h⟩; cases this
                        have HWA := Lib.hid (HNX.out.add HW'.out HPM.out HTM.out (by simpa using hfar) hno (by omega) hn)
                        have HLA : Hid ((l' ++ [(S0, sd, st)])[k]? = some (P, d, t)) := by
                          show _ = _
                          rw [List.getElem?_append_left hkl]; exact HLX'.out
                        have HINA : Hid (∀ s ∈ TT.take (j + 1), s ∈ l' ++ [(S0, sd, st)]) := by
                          intro s hs
                          rw [HTT'.out, List.mem_append, List.mem_singleton] at hs
                          rcases hs with hs | rfl
                          · exact List.mem_append_left _ (HIN.out s hs)
                          · simp
                        have hdn : Below wj.heap.size wj ((wj.drewN nn).alloc (.cells #[.int .i64 (S0 : Int), .int .i64 sd, .int .i64 st] 79)) := balloc (below_drewN (Below.refl _ _) nn)
                        obtain ⟨v5, w5, hrun, hown5, hg5, hat5⟩ := append_seen (w := (wj.drewN nn).alloc (.cells #[.int .i64 (S0 : Int), .int .i64 sd, .int .i64 st] 79)) (base := w.heap.size + 1) (v := .slice (some ⟨g', 0, none⟩) l'.length cc') (l := l') (p := (S0, sd, st)) (HOJ.out.below hdn (Nat.le_refl _)) ⟨(wj.drewN nn).heap.size, 0, none⟩ (cells_three_new _ _ _ _ _) (by omega) (by simp; omega) 80
                        have hB5 : Below (w.heap.size + 1) (w.alloc (.cells #[.int .i64 f.caps, .slice (some ⟨b, off, none⟩) f.code.length c] 57)) w5 := (HB'.out.trans (hdn.mono hszj)).grown hg5 (by simp; omega) (fun k hk => by simp [Value.ownBlock] at hk; omega)
                        have HTC5 : Hid (CellsN w5 g2 TT) := by
                          intro i tt htt
                          obtain ⟨a0, a1, a2⟩ := HTC'.out i tt htt
                          have hlt2 := World.block_lt_of_cell? wj _ a0
                          have hk2 : w5.heap[g2]? = wj.heap[g2]? := (hg5.block g2 (by simp; omega) (by simp [Value.ownBlock]; exact fun h => hgne h.symm)).trans (hdn.block g2 hlt2)
                          exact ⟨(World.cell?_of_block hk2).trans a0, (World.cell?_of_block hk2).trans a1, (World.cell?_of_block hk2).trans a2⟩
                        have HNG5 : Hid (∀ h, v5.ownBlock = some h → h ≠ g2) := by
                          intro h hh
                          rcases hat5 with e | e
                          · rw [e] at hh
                            exact HNG'.out h hh
                          · rw [e] at hh
                            injection hh with hh
                            simp at hh
                            omega
                        have HR5 := Lib.hid hrun
                        have HB5 := Lib.hid hB5
                        have HG5 := Lib.hid hown5
                        clear hrun hown5 hg5 hat5 hB5 hdn hkb hall hno HKB HALL
                        go_wp2_with (at_builtin; refine wpList_append_known rfl (.tmp 183) (.tmp 188) 80 80 (by rfl) _ _ _ (by rfl) (by rfl) HR5.out ?_)
                        exact ⟨⟨j + 1, _, by omega, by go_num, HG5.out, HNG5, HTC5, HWA, HLA, HINA, HB5⟩, by simp [intOf]; omega⟩
                      · obtain ⟨q, hq, hq1⟩ := hkb.1 rfl
                        have hmem : (S0, sd, st) ∈ l' := by rw [← hall q hq hq1]; exact hq
                        have HINA : Hid (∀ s ∈ TT.take (j + 1), s ∈ l') := by
                          intro s hs
                          rw [HTT'.out, List.mem_append, List.mem_singleton] at hs
                          rcases hs with hs | rfl
                          · exact HIN.out s hs
                          · exact hmem
                        have hdn : Below wj.heap.size wj (wj.drewN nn) := below_drewN (Below.refl _ _) nn
                        have HG5 := Lib.hid (HOJ.out.below hdn (Nat.le_refl _))
                        have HTC5 : Hid (CellsN (wj.drewN nn) g2 TT) := by
                          intro i tt htt
                          obtain ⟨a0, a1, a2⟩ := HTC'.out i tt htt
                          have hlt2 := World.block_lt_of_cell? wj _ a0
                          have hk2 := hdn.block g2 hlt2
                          exact ⟨(World.cell?_of_block hk2).trans a0, (World.cell?_of_block hk2).trans a1, (World.cell?_of_block hk2).trans a2⟩
                        have HB5 := Lib.hid (HB'.out.trans (hdn.mono hszj))
                        clear hq hq1 hmem hdn hkb hall HKB HALL
                        go_wp2_with fail
                        exact ⟨⟨j + 1, _, by omega, by go_num, HG5.out, HNG', HTC5, HW', HLX', HINA, HB5⟩, by simp [intOf]; omega⟩
              · obtain rfl : j = TT.length := by omega
                have HWS := Lib.hid (HNX.out.step HW'.out HLX'.out (by have := HIN.out; rwa [List.take_of_length_le (Nat.le_refl _)] at this))
                have HOJ := Lib.hid hown'
                clear hown' hboxj
                go_wp2_with fail
                exact ⟨⟨k + 1, l', by omega, by go_num, HOJ.out, HWS, HB'⟩, by simp [intOf]; omega⟩
          as_aux_lemma =>
            have a8 : ((op : Int) == 8) = false := by rw [beq_eq_false_iff_ne]; omega
            have b8 : ((op : Int) != 8) = true := by rw [bne_iff_ne]; omega
            have a12 : ((op : Int) == 12) = false := by rw [beq_eq_false_iff_ne]; omega
            have b12 : ((op : Int) != 12) = true := by rw [bne_iff_ne]; omega
            have a13 : ((op : Int) == 13) = false := by rw [beq_eq_false_iff_ne]; omega
            have b13 : ((op : Int) != 13) = true := by rw [bne_iff_ne]; omega
            have a24 : ((op : Int) == 24) = false := by rw [beq_eq_false_iff_ne]; omega
            have b24 : ((op : Int) != 24) = true := by rw [bne_iff_ne]; omega
            have a25 : ((op : Int) == 25) = false := by rw [beq_eq_false_iff_ne]; omega
            have b25 : ((op : Int) != 25) = true := by rw [bne_iff_ne]; omega
            have a26 : ((op : Int) == 26) = false := by rw [beq_eq_false_iff_ne]; omega
            have b26 : ((op : Int) != 26) = true := by rw [bne_iff_ne]; omega
            have HNX : Hid (Nexts fs globs f (P, d, t) ⟨op, n, a, s⟩ [(P + 1, d - T + R, t)]) := nexts_one (m := (P : Int) + 1) HX.out HAL.out (by have := succ_other (P := P) (d := d) (t := t) (x := ⟨op, n, a, s⟩) (by rw [HTE.out]; exact HTT.out) (fun h => e8 (.inl h)) (fun h => e8 (.inr h)) e12 e13 e24 e25 (alw_le HAL.out); rwa [HTE.out, HLE.out] at this) (by omega) (by omega)
            have hbA : Below wr.heap.size wr (wc.alloc (.cells #[.int .i64 ((P : Int) + 1), .int .i64 (d - T + R), .int .i64 (t)] 79)) := balloc HBXX.out
            obtain ⟨v4, w4, hrun, hown4, hg4, -⟩ := append_seen (w := (wc.alloc (.cells #[.int .i64 ((P : Int) + 1), .int .i64 (d - T + R), .int .i64 (t)] 79))) (base := wc.heap.size) (v := .slice none 0 0) (l := []) (p := (P + 1, d - T + R, t)) (World.ownsRow_nil _ _ _ _) ⟨wc.heap.size, 0, none⟩ (cells_three_new _ _ _ _ _) (by simp) (by simp) 80
            have hbB : Below wr.heap.size wr w4 := hbA.grown hg4 hbA.size (fun k hk => by simp [Value.ownBlock] at hk)
            have hs4 : wc.heap.size < w4.heap.size := by have := hg4.size; simp at this; omega
            rw [show (wc.heap.size) = wc.heap.size from rfl] at hrun
            obtain ⟨g2, c2, rfl, hlc4, hcm4, hb24, hb25⟩ := hown4.form (by simp)
            have hg2g : g ≠ g2 := by omega
            have HNG : Hid (∀ h, (Value.slice (some ⟨g, 0, none⟩) l.length cc).ownBlock = some h → h ≠ g2) := by intro h hh; simp [Value.ownBlock] at hh; omega
            have HTC := Lib.hid hown4.cells
            have HOW4 := Lib.hid (HOWN.out.below hbB (Nat.le_refl _))
            have HB4 := Lib.hid (HB.out.trans (hbB.mono hz'))
            have HTL : List.length [((P + 1 : Nat), d - T + R, t)] ≤ 2 := by simp
            have hrun' : (Builtin.append_ #[80, 80] 80 #[.slice none 0 0, .slice (some ⟨wc.heap.size, 0, none⟩) 1 1]).run Try.prog (wc.alloc (.cells #[.int .i64 ((P : Int) + 1), .int .i64 (d - T + R), .int .i64 (t)] 79)) = .ok (.slice (some ⟨g2, 0, none⟩) (List.length [((P + 1 : Nat), d - T + R, t)]) c2) w4 := hrun
            have HR4 := Lib.hid hrun'
            have hkk : ∀ j, j < wc.heap.size → j ≠ gn → w4.heap[j]? = wc.heap[j]? := fun j hj hg => (hg4.block j (by simp; omega) (by simp [Value.ownBlock])).trans ((Below.heap_alloc _ _ _ (by simpa using hj)).trans rfl)
            have m9 := (hkk _ z9 hgne2).trans K9.out
            have m10 := (hkk _ z10 hgne3).trans K10.out
            have mb := (hkk _ bc2 hgne1).trans KB.out
            have r0' : w4.cell? ⟨wr.heap.size + 1, 0, none⟩ = some (.int .u8 (op : Int)) := cellk m10 rfl
            have r1' : w4.cell? ⟨wr.heap.size + 1, 1, none⟩ = some (.int .i64 n) := cellk m10 rfl
            have q0' : w4.cell? ⟨wr.heap.size, 0, none⟩ = some (.int .i64 (P : Int)) := cellk m9 rfl
            have q1' : w4.cell? ⟨wr.heap.size, 1, none⟩ = some (.int .i64 d) := cellk m9 rfl
            have q2' : w4.cell? ⟨wr.heap.size, 2, none⟩ = some (.int .i64 t) := cellk m9 rfl
            have bb' : w4.cell? ⟨w.heap.size, 1, none⟩ = some (.slice (some ⟨b, off, none⟩) f.code.length c) := cellk mb rfl
            have s9 := lt_of_block m9
            have s10 := lt_of_block m10
            have sb := lt_of_block mb
            clear hkk m9 m10 mb
            unfold maxLen at hcm4
            simp only [List.nil_append] at HTC
            have hlc5 : List.length [((P + 1 : Nat), d - T + R, t)] ≤ c2 := hlc4
            generalize [((P + 1 : Nat), d - T + R, t)] = TT at HTC HTL HNX HR4 hlc5
            clear hrun hrun' hown4 hg4 hbA hbB hlc4
            go_wp2_with (at_builtin; refine wpList_append_known rfl (.tmp 92) (.tmp 94) 80 80 (by rfl) _ _ _ (by rfl) (by rfl) HR4.out ?_)
            go_wp2_with fail
            go_loopw [7, 14] (fun L J wj => ∃ (j : Nat) (l' : List Sn), j ≤ TT.length ∧ J = .int .i64 j ∧ OwnN wj (w.heap.size + 1) L l' ∧ Hid (∀ h, L.ownBlock = some h → h ≠ g2) ∧ Hid (CellsN wj g2 TT) ∧ Hid (Work fs globs f l' k) ∧ Hid (l'[k]? = some (P, d, t)) ∧ Hid (∀ s ∈ TT.take j, s ∈ l') ∧ Hid (Below (w.heap.size + 1) (w.alloc (.cells #[.int .i64 f.caps, .slice (some ⟨b, off, none⟩) f.code.length c] 57)) wj)) (fun _ J _ => TT.length - (intOf J).toNat)
            case atStart => exact ⟨0, l, by omega, rfl, HOW4.out, HNG, HTC, HW, HLX, by simp [Hid], HB4⟩
            case round =>
              obtain ⟨j, l', hj, rfl, hown', HNG', HTC', HW', HLX', HIN, HB'⟩ := hrel
              generalize wr = wj at *
              have hzz' := HB'.out.size
              have hszj : w.heap.size + 1 ≤ wj.heap.size := by simpa using hzz'
              have hkl : k < l'.length := (List.getElem?_eq_some_iff.1 HLX'.out).1
              have hll := HW'.out.len
              have hboxj : wj.heap[w.heap.size]? = some (.cells #[.int .i64 f.caps, .slice (some ⟨b, off, none⟩) f.code.length c] 57 (0, 0)) := (HB'.out.block _ (by omega)).trans (heap_alloc_new w _)
              have bj : wj.cell? ⟨w.heap.size, 1, none⟩ = some (.slice (some ⟨b, off, none⟩) f.code.length c) := cellk hboxj rfl
              have hbj := lt_of_block hboxj
              obtain ⟨g', cc', rfl, hlc', hcm', hg1', hg2'⟩ := hown'.form (by omega)
              unfold maxLen at hcm'
              have hgne : g' ≠ g2 := HNG'.out g' rfl
              by_cases hjl : j < TT.length
              · have hT : TT[j]? = some (TT[j]'hjl) := List.getElem?_eq_getElem _
                obtain ⟨t0, t1, t2⟩ := HTC'.out j _ hT
                have HTM := Lib.hid (List.mem_of_getElem? hT)
                have HTT' := Lib.hid (List.take_succ_eq_append_getElem (l := TT) (i := j) hjl)
                generalize TT[j]'hjl = sn at *
                obtain ⟨S0, sd, st⟩ := sn
                simp only at t0 t1 t2
                have hgt := World.block_lt_of_cell? wj _ t0
                simp only at hgt
                have hpm := List.mem_of_getElem? HLX'.out
                have HPM := Lib.hid hpm
                have hjI : (j : Int) < (TT.length : Int) := by omega
                clear hpm hT
                by_cases hfar : f.code.length ≤ S0
                · have HO := Lib.hid (val_false (fs := fs) (globs := globs) (f := f) (.inr (HNX.out.far HW'.out HPM.out HTM.out hfar)))
                  have hfd : decide (f.code.length ≤ S0) = true := by simpa using hfar
                  have hfi : decide ((f.code.length : Int) ≤ (S0 : Int)) = true := by simp; omega
                  have HBB := Lib.hid (fun z => below_drewN ((((Below.refl _ w).alloc (Nat.le_refl _) _)).trans (HB'.out.mono (by omega))) z)
                  clear hown' hboxj
                  go_wp2_with fail
                  go_quiet (fail)
                  go_wp2_with fail
                  go_ret
                  exact riPost HO.out (HBB.out _)
                · have hfd : decide (f.code.length ≤ S0) = false := by simpa using hfar
                  have hfi : decide ((f.code.length : Int) ≤ (S0 : Int)) = false := by simp; omega
                  have HOJ := Lib.hid hown'
                  clear hown' hboxj
                  go_wp2_with fail
                  go_quiet (fail)
                  go_wp2_with fail
                  go_loopw [15, 16] (fun K N wn => ∃ (m : Nat) (kb : Bool) (nn : Nat), m ≤ l'.length ∧ N = .int .i64 m ∧ K = .bool kb ∧ wn = wj.drewN nn ∧ KnB kb (l'.take m) S0 ∧ Hid (∀ q ∈ l'.take m, q.1 = S0 → q = (S0, sd, st))) (fun _ N _ => l'.length - (intOf N).toNat)
                  case atStart => exact ⟨0, false, _, by omega, rfl, rfl, rfl, by simp [KnB], by simp [Hid]⟩
                  case round =>
                    obtain ⟨m, kb, nn, hm, rfl, rfl, rfl, HKB, HALL⟩ := hrel
                    by_cases hml : m < l'.length
                    · have hq : l'[m]? = some l'[m] := List.getElem?_eq_getElem hml
                      obtain ⟨v0, v1, v2⟩ := HOJ.out.cells m _ hq
                      have HQT := Lib.hid (List.take_succ_eq_append_getElem hml)
                      have HQM := Lib.hid (List.getElem_mem hml)
                      have hmI : (m : Int) < (l'.length : Int) := by omega
                      generalize l'[m] = q at *
                      obtain ⟨Q, qd, qt⟩ := q
                      simp only at v0 v1 v2
                      clear hq
                      by_cases e0 : Q = S0
                      · subst e0
                        have e0b : ((Q : Int) == (Q : Int)) = true := by simp
                        by_cases e1 : (qd = sd ∧ qt = st)
                        · obtain ⟨rfl, rfl⟩ := e1
                          have HKB2 : KnB true (l'.take (m + 1)) Q := by
                            unfold KnB
                            refine ⟨fun _ => ⟨(Q, qd, qt), by rw [HQT.out]; simp, rfl⟩, fun _ => rfl⟩
                          have HALL2 : Hid (∀ q ∈ l'.take (m + 1), q.1 = Q → q = (Q, qd, qt)) := by
                            intro q hq h1
                            rw [HQT.out, List.mem_append, List.mem_singleton] at hq
                            rcases hq with hq | hq
                            · exact HALL.out q hq h1
                            · exact hq
                          go_wp2_with fail
                          go_quiet (fail)
                          go_wp2_with fail
                          go_quiet (fail)
                          go_wp2_with fail
                          go_roundw
                          case rel => exact ⟨m + 1, true, _, by omega, by go_num, rfl, rfl, HKB2, HALL2⟩
                          case measure => simp [intOf]; omega
                        · have HO := Lib.hid (val_false (fs := fs) (globs := globs) (f := f) (.inr (HNX.out.clash HW'.out HPM.out HTM.out HQM.out rfl (by
                            intro h
                            injection h with _ h
                            injection h with h1 h2
                            exact e1 ⟨h1, h2⟩))))
                          have HBB := Lib.hid (fun z => below_drewN ((((Below.refl _ w).alloc (Nat.le_refl _) _)).trans (HB'.out.mono (by omega))) z)
                          by_cases e2 : qd = sd
                          · subst e2
                            have e3 : ¬ qt = st := fun h => e1 ⟨rfl, h⟩
                            clear e1
                            go_wp2_with fail
                            go_quiet (fail)
                            go_wp2_with fail
                            go_quiet (fail)
                            go_wp2_with fail
                            go_ret
                            exact riPost HO.out (below_drewN (below_drewN (HBB.out nn) _) _)
                          · clear e1
                            go_wp2_with fail
                            go_quiet (fail)
                            go_wp2_with fail
                            go_quiet (fail)
                            go_wp2_with fail
                            go_ret
                            exact riPost HO.out (below_drewN (below_drewN (HBB.out nn) _) _)
                      · have e0b : ((Q : Int) == (S0 : Int)) = false := by rw [beq_eq_false_iff_ne]; omega
                        have e0c : (Q == S0) = false := by rw [beq_eq_false_iff_ne]; exact e0
                        have HKB2 : KnB kb (l'.take (m + 1)) S0 := by
                          unfold KnB
                          refine ⟨fun h => ?_, fun ⟨q, hq, h1⟩ => ?_⟩
                          · obtain ⟨q, hq, h1⟩ := (show _ ↔ _ from HKB).1 h
                            exact ⟨q, by rw [HQT.out]; exact List.mem_append_left _ hq, h1⟩
                          · rw [HQT.out, List.mem_append, List.mem_singleton] at hq
                            rcases hq with hq | rfl
                            · exact (show _ ↔ _ from HKB).2 ⟨q, hq, h1⟩
                            · exact absurd h1 e0
                        have HALL2 : Hid (∀ q ∈ l'.take (m + 1), q.1 = S0 → q = (S0, sd, st)) := by
                          intro q hq h1
                          rw [HQT.out, List.mem_append, List.mem_singleton] at hq
                          rcases hq with hq | rfl
                          · exact HALL.out q hq h1
                          · exact absurd h1 e0
                        go_wp2_with fail
                        go_quiet (fail)
                        go_wp2_with fail
                        exact ⟨⟨m + 1, kb, _, by omega, by go_num, rfl, rfl, HKB2, HALL2⟩, by simp [intOf]; omega⟩
                    · obtain rfl : m = l'.length := by omega
                      have hkb : kb = true ↔ ∃ q ∈ l'.take l'.length, q.1 = S0 := HKB
                      have hall := HALL.out
                      rw [List.take_of_length_le (Nat.le_refl _)] at hkb hall
                      cases kb
                      · have hno : ∀ q ∈ l', q.1 ≠ S0 := fun q hq h => by have := hkb.2 ⟨q, hq, h⟩; cases this
                        have HWA := Lib.hid (HNX.out.add HW'.out HPM.out HTM.out (by simpa using hfar) hno (by omega) hn)
                        have HLA : Hid ((l' ++ [(S0, sd, st)])[k]? = some (P, d, t)) := by
                          show _ = _
                          rw [List.getElem?_append_left hkl]; exact HLX'.out
                        have HINA : Hid (∀ s ∈ TT.take (j + 1), s ∈ l' ++ [(S0, sd, st)]) := by
                          intro s hs
                          rw [HTT'.out, List.mem_append, List.mem_singleton] at hs
                          rcases hs with hs | rfl
                          · exact List.mem_append_left _ (HIN.out s hs)
                          · simp
                        have hdn : Below wj.heap.size wj ((wj.drewN nn).alloc (.cells #[.int .i64 (S0 : Int), .int .i64 sd, .int .i64 st] 79)) := balloc (below_drewN (Below.refl _ _) nn)
                        obtain ⟨v5, w5, hrun, hown5, hg5, hat5⟩ := append_seen (w := (wj.drewN nn).alloc (.cells #[.int .i64 (S0 : Int), .int .i64 sd, .int .i64 st] 79)) (base := w.heap.size + 1) (v := .slice (some ⟨g', 0, none⟩) l'.length cc') (l := l') (p := (S0, sd, st)) (HOJ.out.below hdn (Nat.le_refl _)) ⟨(wj.drewN nn).heap.size, 0, none⟩ (cells_three_new _ _ _ _ _) (by omega) (by simp; omega) 80
                        have hB5 : Below (w.heap.size + 1) (w.alloc (.cells #[.int .i64 f.caps, .slice (some ⟨b, off, none⟩) f.code.length c] 57)) w5 := (HB'.out.trans (hdn.mono hszj)).grown hg5 (by simp; omega) (fun k hk => by simp [Value.ownBlock] at hk; omega)
                        have HTC5 : Hid (CellsN w5 g2 TT) := by
                          intro i tt htt
                          obtain ⟨a0, a1, a2⟩ := HTC'.out i tt htt
                          have hlt2 := World.block_lt_of_cell? wj _ a0
                          have hk2 : w5.heap[g2]? = wj.heap[g2]? := (hg5.block g2 (by simp; omega) (by simp [Value.ownBlock]; exact fun h => hgne h.symm)).trans (hdn.block g2 hlt2)
                          exact ⟨(World.cell?_of_block hk2).trans a0, (World.cell?_of_block hk2).trans a1, (World.cell?_of_block hk2).trans a2⟩
                        have HNG5 : Hid (∀ h, v5.ownBlock = some h → h ≠ g2) := by
                          intro h hh
                          rcases hat5 with e | e
                          · rw [e] at hh
                            exact HNG'.out h hh
                          · rw [e] at hh
                            injection hh with hh
                            simp at hh
                            omega
                        have HR5 := Lib.hid hrun
                        have HB5 := Lib.hid hB5
                        have HG5 := Lib.hid hown5
                        clear hrun hown5 hg5 hat5 hB5 hdn hkb hall hno HKB HALL
                        go_wp2_with (at_builtin; refine wpList_append_known rfl (.tmp 183) (.tmp 188) 80 80 (by rfl) _ _ _ (by rfl) (by rfl) HR5.out ?_)
                        exact ⟨⟨j + 1, _, by omega, by go_num, HG5.out, HNG5, HTC5, HWA, HLA, HINA, HB5⟩, by simp [intOf]; omega⟩
                      · obtain ⟨q, hq, hq1⟩ := hkb.1 rfl
                        have hmem : (S0, sd, st) ∈ l' := by rw [← hall q hq hq1]; exact hq
                        have HINA : Hid (∀ s ∈ TT.take (j + 1), s ∈ l') := by
                          intro s hs
                          rw [HTT'.out, List.mem_append, List.mem_singleton] at hs
                          rcases hs with hs | rfl
                          · exact HIN.out s hs
                          · exact hmem
                        have hdn : Below wj.heap.size wj (wj.drewN nn) := below_drewN (Below.refl _ _) nn
                        have HG5 := Lib.hid (HOJ.out.below hdn (Nat.le_refl _))
                        have HTC5 : Hid (CellsN (wj.drewN nn) g2 TT) := by
                          intro i tt htt
                          obtain ⟨a0, a1, a2⟩ := HTC'.out i tt htt
                          have hlt2 := World.block_lt_of_cell? wj _ a0
                          have hk2 := hdn.block g2 hlt2
                          exact ⟨(World.cell?_of_block hk2).trans a0, (World.cell?_of_block hk2).trans a1, (World.cell?_of_block hk2).trans a2⟩
                        have HB5 := Lib.hid (HB'.out.trans (hdn.mono hszj))
                        clear hq hq1 hmem hdn hkb hall HKB HALL
                        go_wp2_with fail
                        exact ⟨⟨j + 1, _, by omega, by go_num, HG5.out, HNG', HTC5, HW', HLX', HINA, HB5⟩, by simp [intOf]; omega⟩
              · obtain rfl : j = TT.length := by omega
                have HWS := Lib.hid (HNX.out.step HW'.out HLX'.out (by have := HIN.out; rwa [List.take_of_length_le (Nat.le_refl _)] at this))
                have HOJ := Lib.hid hown'
                clear hown' hboxj
                go_wp2_with fail
                exact ⟨⟨k + 1, l', by omega, by go_num, HOJ.out, HWS, HB'⟩, by simp [intOf]; omega⟩
    · obtain rfl : k = l.length := by omega
      have HO := Lib.hid (val_true (fs := fs) (globs := globs) (f := f) (by omega) HW.out.end_)
      have HBB := Lib.hid (show Below w.heap.size w wr from (((Below.refl _ w).alloc (Nat.le_refl _) _)).trans (HB.out.mono (by omega)))
      obtain ⟨g, cc, rfl, -, -, -, -⟩ := hown.form (List.getElem?_eq_some_iff.1 HW.out.zero).1
      clear hown
      go_wp2_with fail
      go_ret
      exact riPost HO.out HBB.out
end Go.Proofs.Ytoplheipfbnobaa
