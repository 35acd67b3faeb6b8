/- The code's Encode. -/
import Derived.Test.YthmnhacgcdcbiaaDecM
import Derived.Test.YthmnhacgcdcbiaaCodX
import Derived.Deep.RegionHeld3
import Derived.OrdersHeld
import Derived.Deep.CutBlock
namespace Go.Proofs.Ythmnhacgcdcbiaa
open Go.RowKit OctM CodM

/-- A writer at work since w: its bytes, and nothing else of w has turned. -/
structure EW (w : World) (b : Nat) (v : Value) (bs : List UInt8) (W : World) : Prop where
  at_ : WAt W b w.heap.size v bs
  kept : Kept (fun k => k = b) w W
theorem EW.lt {w W : World} {b : Nat} {v : Value} {bs : List UInt8} (h : EW w b v bs W) : ∀ k, v.ownBlock = some k → w.heap.size ≤ k ∧ k < W.heap.size := fun k hk => h.at_.own.lt k hk
theorem EW.drew {w W : World} {b : Nat} {v : Value} {bs : List UInt8} (h : EW w b v bs W) : EW w b v bs W.drew := ⟨⟨h.at_.cell, h.at_.own⟩, h.kept.drew⟩
theorem EW.alloc {w W : World} {b : Nat} {v : Value} {bs : List UInt8} (h : EW w b v bs W) (o : Obj) : EW w b v bs (W.alloc o) :=
  ⟨⟨(Below.heap_alloc _ _ _ (lt_of_block h.at_.cell)).trans h.at_.cell, World.ownsRow.alloc h.at_.own o⟩, h.kept.alloc o⟩
theorem EW.put {w W W' : World} {b : Nat} {v : Value} {bs bs' : List UInt8} {e : Ending} (h : EW w b v bs W) (p : WPost W W' b w.heap.size v bs' e) {fb : Nat} {o : Obj} (hf : W.heap[fb]? = some o) (hb : fb ≠ b) (hv : v.ownBlock ≠ some fb) :
    ∃ v', EW w b v' bs' W' ∧ v'.ownBlock ≠ some fb ∧ W'.heap[fb]? = some o := by
  obtain ⟨v', hat, hor⟩ := p.at_
  refine ⟨v', ⟨hat, h.kept.step p.kept (fun k hk => ?_)⟩, ?_, (p.kept.block fb (lt_of_block hf) ?_).trans hf⟩
  · rcases hk with rfl | hk
    · exact .inl rfl
    · exact .inr (h.lt k hk).1
  · rcases hor with e | ⟨g, e, hg⟩
    · rw [e]; exact hv
    · rw [e]
      intro h1
      injection h1 with h1
      have := lt_of_block hf
      omega
  · rintro (h1 | h1)
    · exact hb h1
    · exact hv h1

theorem encL_len (fs : List Fun) : fs.length ≤ (encL fs).length := by
  have h1 : fs.length ≤ (fs.flatMap encF).length := by
    induction fs with
    | nil => simp
    | cons f fs ih =>
      have : 0 < (encF f).length := by unfold encF enc; simp
      simp only [List.flatMap_cons, List.length_append, List.length_cons]
      omega
  have h2 : (fs.flatMap encF).length ≤ (encL fs).length := by unfold encL; simp
  omega

theorem wtext' (b base : Nat) (v : Value) (l : List UInt8) (s : ByteArray) (w : World) (hw : WAt w b base v l) (hb : base ≤ w.heap.size) (hl : l.length + s.data.toList.length ≤ 140737488350000) :
    Calls Try.prog 24 #[.pointer (some ⟨b, 0, none⟩), .string s] w fun e w' => WPost w w' b base v (l ++ encB s.data.toList) e := by
  have h := wtext b base v l s.data.toList w hw hb hl
  unfold S at h
  rw [mk_toList] at h
  exact h

set_option maxHeartbeats 4000000 in
set_option maxRecDepth 100000 in
theorem encode (fs : List Fun) (lv : Value) (w00 w : World) (b : Nat) (hr : RdF w00 lv fs) (h0 : Below w00.heap.size w00 w) (hb : w00.heap.size ≤ b) (hc : w.heap[b]? = some (.cells #[.slice none 0 0] 38 (0, 0)))
    (hok : ∀ f ∈ fs, FunOK f) (hT : (encL fs).length ≤ 100000000) :
    Calls Try.prog 11 #[.pointer (some ⟨b, 0, none⟩), lv] w fun e w' => e = .returned (.tuple #[]) ∧ ∃ v, EW w b v (encL fs) w' := by
  obtain ⟨o, c, hlv⟩ := hr.form
  subst hlv
  have HR := Lib.hid hr
  have HOK := Lib.hid hok
  have hbl := lt_of_block hc
  have h00 := h0.size
  have hfl : fs.length ≤ 100000000 := Nat.le_trans (encL_len fs) hT
  have hst : EW w b (.slice none 0 0) [] w := ⟨⟨hc, World.ownsRow_nil _ _ _ _⟩, Kept.refl _ _⟩
  have e0 : IntKind.u64.wrap (fs.length : Int) = (fs.length : Int) := by rw [IntKind.wrap_u64]; omega
  have H1 := Lib.hid (wuint b w.heap.size (.slice none 0 0) [] (fs.length : Int) w (by omega) (by omega) hst.at_ (Nat.le_refl _) (by simp))
  have HST := Lib.hid hst
  have HC := Lib.hid hc
  have H0 := Lib.hid h0
  obtain ⟨TT, hTT⟩ : ∃ TT, encL fs = TT := ⟨_, rfl⟩
  have HTT := Lib.hid hTT
  have HTL : Hid (TT.length ≤ 100000000) := by rw [← hTT]; exact hT
  clear hr hok hst hc h0 hTT hT
  go_enter Try.func11, Try.ntmps11
  go_wp2_with fail
  refine H1.out.mono ?_
  intro e w1 hp1
  have hret := hp1.ret
  subst hret
  obtain ⟨v1, hat1, hor1⟩ := hp1.at_
  have hew1 : EW w b v1 ([] ++ enc (fs.length : Int).toNat) w1 := ⟨hat1, hp1.kept.weak (fun k _ h => by rcases h with h | h; exact h; simp [Value.ownBlock] at h)⟩
  simp only [List.nil_append, Int.toNat_natCast] at hew1
  have hrest : enc fs.length ++ (fs.drop 0).flatMap encF = TT := by rw [← HTT.out]; rfl
  have HEW1 := Lib.hid hew1
  have HRE1 := Lib.hid hrest
  clear hp1 hat1 hor1 hew1 hrest H1
  go_wp2_with fail
  go_loopw [15] (fun i wr => ∃ (k : Nat) (v : Value) (bs : List UInt8), k ≤ fs.length ∧ i = .int .i64 k ∧ Hid (EW w b v bs wr) ∧ Hid (bs ++ (fs.drop k).flatMap encF = TT)) (fun i _ => fs.length - (intOf i).toNat)
  case atStart => exact ⟨0, v1, _, by omega, rfl, HEW1.out, HRE1.out⟩
  case round =>
    obtain ⟨k, v, bs, hk, rfl, HE, HB⟩ := hrel
    generalize wr = wi at *
    by_cases hlt : k < fs.length
    · have hx : fs[k]? = some fs[k] := List.getElem?_eq_getElem hlt
      have hfo := HOK.out fs[k] (List.getElem_mem hlt)
      have hdr : (fs.drop k).flatMap encF = encF fs[k] ++ (fs.drop (k + 1)).flatMap encF := by rw [List.drop_eq_getElem_cons hlt, List.flatMap_cons]
      rcases HR.out with ⟨o', c', hv', h0'⟩ | ⟨bb, off, c', hv', h1, h2, h3, h4⟩
      · rw [h0'] at hlt
        simp at hlt
      injection hv' with e1 e2 e3
      subst e1 e3
      unfold maxLen at h3
      obtain ⟨x0, cv, x1, hcv⟩ := h4 k _ hx
      have hkI : (k : Int) < (fs.length : Int) := by omega
      generalize fs[k] = f at *
      obtain ⟨oc, cc, rfl⟩ := hcv.form
      have hbw : Below w00.heap.size w00 wi := H0.out.trans ((HE.out.kept.below h00 (fun k h => by omega)))
      have y0 : wi.cell? ⟨bb, off + k * 2, none⟩ = some (.int .i64 f.caps) := (hbw.cell (World.block_lt_of_cell? w00 _ x0)).trans x0
      have y1 : wi.cell? ⟨bb, off + k * 2 + 1, none⟩ = some (.slice oc f.code.length cc) := (hbw.cell (World.block_lt_of_cell? w00 _ x1)).trans x1
      have ybl := World.block_lt_of_cell? wi _ y0
      simp only at ybl
      have HCV := Lib.hid hcv
      have HFO := Lib.hid hfo
      have HDR := Lib.hid hdr
      have hzi := HE.out.kept.size
      have hfc0 := hfo.c0
      have hfc1 := hfo.c1
      have hfcl := hfo.len
      have hbsl : bs.length ≤ 100000000 := by
        have h5 := HTL.out
        rw [← HB.out, List.length_append] at h5
        omega
      have hWF := heap_alloc_new wi (.cells #[.int .i64 f.caps, .slice oc f.code.length cc] 32)
      obtain ⟨wf, hwf⟩ : ∃ wf, wi.alloc (.cells #[.int .i64 f.caps, .slice oc f.code.length cc] 32) = wf := ⟨_, rfl⟩
      have hef : EW w b v bs wf := by rw [← hwf]; exact HE.out.alloc _
      rw [hwf] at hWF
      have hfbb : wi.heap.size ≠ b := by have := lt_of_block HE.out.at_.cell; omega
      have hfbv : v.ownBlock ≠ some wi.heap.size := fun h => by have := (HE.out.lt _ h).2; omega
      have hfw : w.heap.size ≤ wf.heap.size := hef.kept.size
      have g0 : wf.cell? ⟨wi.heap.size, 0, none⟩ = some (.int .i64 f.caps) := cellk hWF rfl
      have g1 : wf.cell? ⟨wi.heap.size, 1, none⟩ = some (.slice oc f.code.length cc) := cellk hWF rfl
      have HEF := Lib.hid hef
      have HWF := Lib.hid hWF
      have d1 : IntKind.u64.wrap f.caps = f.caps := by rw [IntKind.wrap_u64]; omega
      have d2 : IntKind.u64.wrap (f.code.length : Int) = (f.code.length : Int) := by rw [IntKind.wrap_u64]; omega
      clear hx hcv hfo hdr h4 x0 x1 hbw hef hWF
      go_upto_region 4 with (fail)
      try rw [hwf]
      have hzf : wi.heap.size < wf.heap.size := lt_of_block HWF.out
      generalize wi.heap.size = fb at *
      clear hwf y0 y1 ybl HE
      refine wp_region_held_drew (S := fun w' => w'.cell? ⟨fb, 0, none⟩ = some (.int .i64 f.caps) ∧ w'.cell? ⟨fb, 1, none⟩ = some (.slice oc f.code.length cc)) (by kernel_rfl) ⟨g0, g1⟩ ?_
      intro hHeld
      refine wpAnyH_take (i := 0) (v := ?_) (by simp only [List.getElem?_toArray, List.getElem?_cons_zero]; rfl) (by kernel_rfl) (by kernel_rfl) (by kernel_rfl) (by intro _ _ _ h; exact h) (Or.inl ⟨by rfl, ?_⟩) (by assumption) ?_
      rotate_left
      · (intro w hSw; (try dsimp only at hSw); go_simp; try with_reducible rfl)
      try simp only [Act.put, List.setIfInBounds_toArray, List.set_cons_zero, List.set_cons_succ]
      refine wpAnyH_take (i := 1) (v := ?_) (by simp only [List.getElem?_toArray, List.getElem?_cons_succ, List.getElem?_cons_zero]; rfl) (by kernel_rfl) (by kernel_rfl) (by kernel_rfl) (by intro _ _ _ h; exact h) (Or.inl ⟨by rfl, ?_⟩) (by assumption) ?_
      rotate_left
      · (intro w hSw; (try dsimp only at hSw); go_simp; try with_reducible rfl)
      try simp only [Act.put, List.setIfInBounds_toArray, List.set_cons_zero, List.set_cons_succ]
      refine wpAnyH_take (i := 2) (v := ?_) (by simp only [List.getElem?_toArray, List.getElem?_cons_succ, List.getElem?_cons_zero]; rfl) (by kernel_rfl) (by kernel_rfl) (by kernel_rfl) (by intro _ _ _ h; exact h) (Or.inl ⟨by rfl, ?_⟩) (by assumption) ?_
      rotate_left
      · (intro w hSw; (try dsimp only at hSw); go_simp; try with_reducible rfl)
      try simp only [Act.put, List.setIfInBounds_toArray, List.set_cons_zero, List.set_cons_succ]
      refine wpAnyH_take (i := 3) (v := ?_) (by simp only [List.getElem?_toArray, List.getElem?_cons_succ, List.getElem?_cons_zero]; rfl) (by kernel_rfl) (by kernel_rfl) (by kernel_rfl) (by intro _ _ _ h; exact h) (Or.inl ⟨by rfl, ?_⟩) (by assumption) ?_
      rotate_left
      · (intro w hSw; (try dsimp only at hSw); go_simp; try with_reducible rfl)
      try simp only [Act.put, List.setIfInBounds_toArray, List.set_cons_zero, List.set_cons_succ]
      refine wpAnyH_take (i := 5) (v := ?_) (by simp only [List.getElem?_toArray, List.getElem?_cons_succ, List.getElem?_cons_zero]; rfl) (by kernel_rfl) (by kernel_rfl) (by kernel_rfl) (by intro _ _ _ h; exact h) (Or.inl ⟨by rfl, ?_⟩) (by assumption) ?_
      rotate_left
      · (intro w hSw; (try dsimp only at hSw); go_simp; try with_reducible rfl)
      try simp only [Act.put, List.setIfInBounds_toArray, List.set_cons_zero, List.set_cons_succ]
      refine wpAnyH_take (i := 6) (v := ?_) (by simp only [List.getElem?_toArray, List.getElem?_cons_succ, List.getElem?_cons_zero]; rfl) (by kernel_rfl) (by kernel_rfl) (by kernel_rfl) (by intro _ _ _ h; exact h) (Or.inl ⟨by rfl, ?_⟩) (by assumption) ?_
      rotate_left
      · (intro w hSw; (try dsimp only at hSw); go_simp; try with_reducible rfl)
      try simp only [Act.put, List.setIfInBounds_toArray, List.set_cons_zero, List.set_cons_succ]
      refine wpAnyH_take (i := 7) (v := ?_) (by simp only [List.getElem?_toArray, List.getElem?_cons_succ, List.getElem?_cons_zero]; rfl) (by kernel_rfl) (by kernel_rfl) (by kernel_rfl) (by intro _ _ _ h; exact h) (Or.inl ⟨by rfl, ?_⟩) (by assumption) ?_
      rotate_left
      · (intro w hSw; (try dsimp only at hSw); go_simp; try with_reducible rfl)
      try simp only [Act.put, List.setIfInBounds_toArray, List.set_cons_zero, List.set_cons_succ]
      refine wpAnyH_take (i := 8) (v := ?_) (by simp only [List.getElem?_toArray, List.getElem?_cons_succ, List.getElem?_cons_zero]; rfl) (by kernel_rfl) (by kernel_rfl) (by kernel_rfl) (by intro _ _ _ h; exact h) (Or.inl ⟨by rfl, ?_⟩) (by assumption) ?_
      rotate_left
      · (intro w hSw; (try dsimp only at hSw); go_simp; try with_reducible rfl)
      try simp only [Act.put, List.setIfInBounds_toArray, List.set_cons_zero, List.set_cons_succ]
      refine wpAnyH_ready (rs := [4]) (by kernel_rfl) (by simp) ?_
      refine AllReadyH.cons (by simp only [List.getElem?_toArray, List.getElem?_cons_succ, List.getElem?_cons_zero]; rfl) (fun K hK => ?_) AllReadyH.nil
      go_simp
      refine (wuint b w.heap.size v bs f.caps _ (by omega) (by omega) HEF.out.drew.at_ hfw (by omega)).mono ?_
      intro e w5 hp5
      have hret := hp5.ret
      subst hret
      obtain ⟨v5, hew5, hne5, hbox5⟩ := HEF.out.drew.put hp5 (show wf.drew.heap[fb]? = _ from HWF.out) hfbb hfbv
      have q0 : w5.cell? ⟨fb, 0, none⟩ = some (.int .i64 f.caps) := cellk hbox5 rfl
      have q1 : w5.cell? ⟨fb, 1, none⟩ = some (.slice oc f.code.length cc) := cellk hbox5 rfl
      have hz5 := hp5.kept.size
      have HEW5 := Lib.hid hew5
      have HBOX5 := Lib.hid hbox5
      have hbl5 : (bs ++ enc f.caps.toNat).length ≤ 100000010 := by have := enc_length f.caps.toNat; have := nd_le f.caps.toNat; rw [List.length_append]; omega
      clear hp5 hew5 hbox5
      dsimp only
      refine hK.out _ _ ⟨q0, q1⟩ (fun hHeld => ?_)
      clear hK K
      try simp only [Act.put, List.setIfInBounds_toArray, List.set_cons_zero, List.set_cons_succ]
      refine wpAnyH_ready (rs := [9]) (by kernel_rfl) (by simp) ?_
      refine AllReadyH.cons (by simp only [List.getElem?_toArray, List.getElem?_cons_succ, List.getElem?_cons_zero]; rfl) (fun K hK => ?_) AllReadyH.nil
      go_simp
      refine (wuint b w.heap.size v5 (bs ++ enc f.caps.toNat) (f.code.length : Int) w5 (by omega) (by omega) HEW5.out.at_ (by have := HEW5.out.kept.size; omega) (by omega)).mono ?_
      intro e w6 hp6
      have hret := hp6.ret
      subst hret
      obtain ⟨v6, hew6, hne6, hbox6⟩ := HEW5.out.put hp6 HBOX5.out hfbb hne5
      have r0 : w6.cell? ⟨fb, 0, none⟩ = some (.int .i64 f.caps) := cellk hbox6 rfl
      have r1 : w6.cell? ⟨fb, 1, none⟩ = some (.slice oc f.code.length cc) := cellk hbox6 rfl
      have hz6 := hp6.kept.size
      have HEW6 := Lib.hid hew6
      have HBOX6 := Lib.hid hbox6
      clear hp6 hew6 hbox6
      dsimp only
      refine hK.out _ _ ⟨r0, r1⟩ (fun hHeld => ?_)
      clear hK K
      try simp only [Act.put, List.setIfInBounds_toArray, List.set_cons_zero, List.set_cons_succ]
      refine wpAnyH_done (by kernel_rfl) ?_ _
      have HRE6 : Hid (((bs ++ enc f.caps.toNat) ++ enc (f.code.length : Int).toNat) ++ ((f.code.drop 0).flatMap encI ++ (fs.drop (k + 1)).flatMap encF) = TT) := by
        have h5 := HB.out
        rw [HDR.out] at h5
        have h6 : ((bs ++ enc f.caps.toNat) ++ enc (f.code.length : Int).toNat) ++ ((f.code.drop 0).flatMap encI ++ (fs.drop (k + 1)).flatMap encF) = TT := by
          rw [← h5]
          simp [encF, encC]
        exact h6
      generalize (bs ++ enc f.caps.toNat) ++ enc (f.code.length : Int).toNat = b6 at *
      have hfb6 := lt_of_block HBOX6.out
      clear HEW5 HBOX5 HEF HWF g0 g1 q0 q1 HB HDR hHeld
      go_wp2_with fail
      go_loopw [32] (fun J wr => ∃ (j : Nat) (v : Value) (bs : List UInt8), j ≤ f.code.length ∧ J = .int .i64 j ∧ Hid (EW w b v bs wr) ∧ Hid (bs ++ ((f.code.drop j).flatMap encI ++ (fs.drop (k + 1)).flatMap encF) = TT)) (fun J _ => f.code.length - (intOf J).toNat)
      case atStart => exact ⟨0, v6, b6, by omega, rfl, HEW6.out, HRE6.out⟩
      case round =>
        obtain ⟨j, v, bs, hj, rfl, HE, HB⟩ := hrel
        generalize wr = wi at *
        by_cases hjl : j < f.code.length
        · have hx : f.code[j]? = some f.code[j] := List.getElem?_eq_getElem hjl
          have hxo := HFO.out.all f.code[j] (List.getElem_mem hjl)
          have hdr : (f.code.drop j).flatMap encI = encI f.code[j] ++ (f.code.drop (j + 1)).flatMap encI := by rw [List.drop_eq_getElem_cons hjl, List.flatMap_cons]
          rcases HCV.out with ⟨o', c', hv', h0'⟩ | ⟨b2, off2, c2, hv', k1, k2, k3, k4⟩
          · rw [h0'] at hjl
            simp at hjl
          injection hv' with e1 e2 e3
          subst e1 e3
          unfold maxLen at k3
          obtain ⟨z0, z1, z2, z3⟩ := k4 j _ hx
          have hjI : (j : Int) < (f.code.length : Int) := by omega
          generalize f.code[j] = x at *
          obtain ⟨op, n, a, s⟩ := x
          simp only at z0 z1 z2 z3
          have hbw : Below w00.heap.size w00 wi := H0.out.trans ((HE.out.kept.below h00 (fun k h => by omega)))
          have y0 : wi.cell? ⟨b2, off2 + j * 4, none⟩ = some (.int .u8 (op : Int)) := (hbw.cell (World.block_lt_of_cell? w00 _ z0)).trans z0
          have y1 : wi.cell? ⟨b2, off2 + j * 4 + 1, none⟩ = some (.int .i64 n) := (hbw.cell (World.block_lt_of_cell? w00 _ z1)).trans z1
          have y2 : wi.cell? ⟨b2, off2 + j * 4 + 2, none⟩ = some (.int .i64 a) := (hbw.cell (World.block_lt_of_cell? w00 _ z2)).trans z2
          have y3 : wi.cell? ⟨b2, off2 + j * 4 + 3, none⟩ = some (.string s) := (hbw.cell (World.block_lt_of_cell? w00 _ z3)).trans z3
          have ybl := World.block_lt_of_cell? wi _ y0
          simp only at ybl
          have HDR := Lib.hid hdr
          have hzi := HE.out.kept.size
          have hxop := hxo.op
          have hxn0 := hxo.n0
          have hxn1 := hxo.n1
          have hxa0 := hxo.a0
          have hxa1 := hxo.a1
          have hxs := hxo.s
          simp only at hxop hxn0 hxn1 hxa0 hxa1 hxs
          have hsl : s.data.toList.length ≤ 2000 := by rw [Array.length_toList]; exact hxs
          have hbsl : bs.length ≤ 100000000 := by
            have h5 := HTL.out
            rw [← HB.out, List.length_append] at h5
            omega
          have hWX := heap_alloc_new wi (.cells #[.int .u8 (op : Int), .int .i64 n, .int .i64 a, .string s] 34)
          obtain ⟨wf, hwf⟩ : ∃ wf, wi.alloc (.cells #[.int .u8 (op : Int), .int .i64 n, .int .i64 a, .string s] 34) = wf := ⟨_, rfl⟩
          have hef : EW w b v bs wf := by rw [← hwf]; exact HE.out.alloc _
          rw [hwf] at hWX
          have hxbb : wi.heap.size ≠ b := by have := lt_of_block HE.out.at_.cell; omega
          have hxbv : v.ownBlock ≠ some wi.heap.size := fun h => by have := (HE.out.lt _ h).2; omega
          have hfw : w.heap.size ≤ wf.heap.size := hef.kept.size
          have g0 : wf.cell? ⟨wi.heap.size, 0, none⟩ = some (.int .u8 (op : Int)) := cellk hWX rfl
          have g1 : wf.cell? ⟨wi.heap.size, 1, none⟩ = some (.int .i64 n) := cellk hWX rfl
          have g2 : wf.cell? ⟨wi.heap.size, 2, none⟩ = some (.int .i64 a) := cellk hWX rfl
          have g3 : wf.cell? ⟨wi.heap.size, 3, none⟩ = some (.string s) := cellk hWX rfl
          have HEF := Lib.hid hef
          have HWX := Lib.hid hWX
          have d3 : IntKind.u64.wrap (op : Int) = (op : Int) := by rw [IntKind.wrap_u64]; omega
          have d4 : IntKind.u64.wrap a = a := by rw [IntKind.wrap_u64]; omega
          clear hx hxo hdr k4 z0 z1 z2 z3 hbw hef hWX
          go_upto_region 8 with (fail)
          try rw [hwf]
          have hzx : wi.heap.size < wf.heap.size := lt_of_block HWX.out
          generalize wi.heap.size = xb at *
          clear hwf y0 y1 y2 y3 ybl HE
          refine wp_region_held_drew (S := fun w' => w'.cell? ⟨xb, 0, none⟩ = some (.int .u8 (op : Int)) ∧ w'.cell? ⟨xb, 1, none⟩ = some (.int .i64 n) ∧ w'.cell? ⟨xb, 2, none⟩ = some (.int .i64 a) ∧ w'.cell? ⟨xb, 3, none⟩ = some (.string s)) (by kernel_rfl) ⟨g0, g1, g2, g3⟩ ?_
          intro hHeld
          refine wpAnyH_take (i := 0) (v := ?_) (by simp only [List.getElem?_toArray, List.getElem?_cons_zero]; rfl) (by kernel_rfl) (by kernel_rfl) (by kernel_rfl) (by intro _ _ _ h; exact h) (Or.inl ⟨by rfl, ?_⟩) (by assumption) ?_
          rotate_left
          · (intro w hSw; (try dsimp only at hSw); go_simp; try with_reducible rfl)
          try simp only [Act.put, List.setIfInBounds_toArray, List.set_cons_zero, List.set_cons_succ]
          refine wpAnyH_take (i := 1) (v := ?_) (by simp only [List.getElem?_toArray, List.getElem?_cons_succ, List.getElem?_cons_zero]; rfl) (by kernel_rfl) (by kernel_rfl) (by kernel_rfl) (by intro _ _ _ h; exact h) (Or.inl ⟨by rfl, ?_⟩) (by assumption) ?_
          rotate_left
          · (intro w hSw; (try dsimp only at hSw); go_simp; try with_reducible rfl)
          try simp only [Act.put, List.setIfInBounds_toArray, List.set_cons_zero, List.set_cons_succ]
          refine wpAnyH_take (i := 2) (v := ?_) (by simp only [List.getElem?_toArray, List.getElem?_cons_succ, List.getElem?_cons_zero]; rfl) (by kernel_rfl) (by kernel_rfl) (by kernel_rfl) (by intro _ _ _ h; exact h) (Or.inl ⟨by rfl, ?_⟩) (by assumption) ?_
          rotate_left
          · (intro w hSw; (try dsimp only at hSw); go_simp; try with_reducible rfl)
          try simp only [Act.put, List.setIfInBounds_toArray, List.set_cons_zero, List.set_cons_succ]
          refine wpAnyH_take (i := 3) (v := ?_) (by simp only [List.getElem?_toArray, List.getElem?_cons_succ, List.getElem?_cons_zero]; rfl) (by kernel_rfl) (by kernel_rfl) (by kernel_rfl) (by intro _ _ _ h; exact h) (Or.inl ⟨by rfl, ?_⟩) (by assumption) ?_
          rotate_left
          · (intro w hSw; (try dsimp only at hSw); go_simp; try with_reducible rfl)
          try simp only [Act.put, List.setIfInBounds_toArray, List.set_cons_zero, List.set_cons_succ]
          refine wpAnyH_take (i := 5) (v := ?_) (by simp only [List.getElem?_toArray, List.getElem?_cons_succ, List.getElem?_cons_zero]; rfl) (by kernel_rfl) (by kernel_rfl) (by kernel_rfl) (by intro _ _ _ h; exact h) (Or.inl ⟨by rfl, ?_⟩) (by assumption) ?_
          rotate_left
          · (intro w hSw; (try dsimp only at hSw); go_simp; try with_reducible rfl)
          try simp only [Act.put, List.setIfInBounds_toArray, List.set_cons_zero, List.set_cons_succ]
          refine wpAnyH_take (i := 6) (v := ?_) (by simp only [List.getElem?_toArray, List.getElem?_cons_succ, List.getElem?_cons_zero]; rfl) (by kernel_rfl) (by kernel_rfl) (by kernel_rfl) (by intro _ _ _ h; exact h) (Or.inl ⟨by rfl, ?_⟩) (by assumption) ?_
          rotate_left
          · (intro w hSw; (try dsimp only at hSw); go_simp; try with_reducible rfl)
          try simp only [Act.put, List.setIfInBounds_toArray, List.set_cons_zero, List.set_cons_succ]
          refine wpAnyH_take (i := 8) (v := ?_) (by simp only [List.getElem?_toArray, List.getElem?_cons_succ, List.getElem?_cons_zero]; rfl) (by kernel_rfl) (by kernel_rfl) (by kernel_rfl) (by intro _ _ _ h; exact h) (Or.inl ⟨by rfl, ?_⟩) (by assumption) ?_
          rotate_left
          · (intro w hSw; (try dsimp only at hSw); go_simp; try with_reducible rfl)
          try simp only [Act.put, List.setIfInBounds_toArray, List.set_cons_zero, List.set_cons_succ]
          refine wpAnyH_take (i := 9) (v := ?_) (by simp only [List.getElem?_toArray, List.getElem?_cons_succ, List.getElem?_cons_zero]; rfl) (by kernel_rfl) (by kernel_rfl) (by kernel_rfl) (by intro _ _ _ h; exact h) (Or.inl ⟨by rfl, ?_⟩) (by assumption) ?_
          rotate_left
          · (intro w hSw; (try dsimp only at hSw); go_simp; try with_reducible rfl)
          try simp only [Act.put, List.setIfInBounds_toArray, List.set_cons_zero, List.set_cons_succ]
          refine wpAnyH_take (i := 10) (v := ?_) (by simp only [List.getElem?_toArray, List.getElem?_cons_succ, List.getElem?_cons_zero]; rfl) (by kernel_rfl) (by kernel_rfl) (by kernel_rfl) (by intro _ _ _ h; exact h) (Or.inl ⟨by rfl, ?_⟩) (by assumption) ?_
          rotate_left
          · (intro w hSw; (try dsimp only at hSw); go_simp; try with_reducible rfl)
          try simp only [Act.put, List.setIfInBounds_toArray, List.set_cons_zero, List.set_cons_succ]
          refine wpAnyH_take (i := 12) (v := ?_) (by simp only [List.getElem?_toArray, List.getElem?_cons_succ, List.getElem?_cons_zero]; rfl) (by kernel_rfl) (by kernel_rfl) (by kernel_rfl) (by intro _ _ _ h; exact h) (Or.inl ⟨by rfl, ?_⟩) (by assumption) ?_
          rotate_left
          · (intro w hSw; (try dsimp only at hSw); go_simp; try with_reducible rfl)
          try simp only [Act.put, List.setIfInBounds_toArray, List.set_cons_zero, List.set_cons_succ]
          refine wpAnyH_take (i := 13) (v := ?_) (by simp only [List.getElem?_toArray, List.getElem?_cons_succ, List.getElem?_cons_zero]; rfl) (by kernel_rfl) (by kernel_rfl) (by kernel_rfl) (by intro _ _ _ h; exact h) (Or.inl ⟨by rfl, ?_⟩) (by assumption) ?_
          rotate_left
          · (intro w hSw; (try dsimp only at hSw); go_simp; try with_reducible rfl)
          try simp only [Act.put, List.setIfInBounds_toArray, List.set_cons_zero, List.set_cons_succ]
          refine wpAnyH_ready (rs := [4]) (by kernel_rfl) (by simp) ?_
          refine AllReadyH.cons (by simp only [List.getElem?_toArray, List.getElem?_cons_succ, List.getElem?_cons_zero]; rfl) (fun K hK => ?_) AllReadyH.nil
          go_simp
          refine (wuint b w.heap.size v bs (op : Int) _ (by omega) (by omega) HEF.out.drew.at_ hfw (by omega)).mono ?_
          intro e W1 hp1
          have hret := hp1.ret
          subst hret
          obtain ⟨u1, hew1, hne1, hbox1⟩ := (HEF.out.drew).put hp1 (show wf.drew.heap[xb]? = _ from HWX.out) hxbb hxbv
          have q10 : W1.cell? ⟨xb, 0, none⟩ = some (.int .u8 (op : Int)) := cellk hbox1 rfl
          have q11 : W1.cell? ⟨xb, 1, none⟩ = some (.int .i64 n) := cellk hbox1 rfl
          have q12 : W1.cell? ⟨xb, 2, none⟩ = some (.int .i64 a) := cellk hbox1 rfl
          have q13 : W1.cell? ⟨xb, 3, none⟩ = some (.string s) := cellk hbox1 rfl
          have hz1 := hp1.kept.size
          simp only [Int.toNat_natCast] at hew1
          obtain ⟨bs1, hbs1⟩ : ∃ z, bs ++ enc op = z := ⟨_, rfl⟩
          rw [hbs1] at hew1
          have hl1 : bs1.length ≤ 100000010 := by rw [← hbs1, List.length_append, enc_length]; have := nd_le op; omega
          have HB1 := Lib.hid hbs1
          clear hbs1
          have HEW1 := Lib.hid hew1
          have HBOX1 := Lib.hid hbox1
          clear hp1 hew1 hbox1
          dsimp only
          refine hK.out _ _ ⟨q10, q11, q12, q13⟩ (fun hHeld => ?_)
          clear hK K
          try simp only [Act.put, List.setIfInBounds_toArray, List.set_cons_zero, List.set_cons_succ]
          refine wpAnyH_ready (rs := [7]) (by kernel_rfl) (by simp) ?_
          refine AllReadyH.cons (by simp only [List.getElem?_toArray, List.getElem?_cons_succ, List.getElem?_cons_zero]; rfl) (fun K hK => ?_) AllReadyH.nil
          go_simp
          refine (wint b w.heap.size u1 bs1 n W1 hxn0 hxn1 HEW1.out.at_ (by have := HEW1.out.kept.size; omega) (by omega)).mono ?_
          intro e W2 hp2
          have hret := hp2.ret
          subst hret
          obtain ⟨u2, hew2, hne2, hbox2⟩ := (HEW1.out).put hp2 HBOX1.out hxbb hne1
          have q20 : W2.cell? ⟨xb, 0, none⟩ = some (.int .u8 (op : Int)) := cellk hbox2 rfl
          have q21 : W2.cell? ⟨xb, 1, none⟩ = some (.int .i64 n) := cellk hbox2 rfl
          have q22 : W2.cell? ⟨xb, 2, none⟩ = some (.int .i64 a) := cellk hbox2 rfl
          have q23 : W2.cell? ⟨xb, 3, none⟩ = some (.string s) := cellk hbox2 rfl
          have hz2 := hp2.kept.size
          obtain ⟨bs2, hbs2⟩ : ∃ z, bs1 ++ enc (zig n) = z := ⟨_, rfl⟩
          rw [hbs2] at hew2
          have hl2 : bs2.length ≤ 100000020 := by rw [← hbs2, List.length_append, enc_length]; have := nd_le (zig n); omega
          have HB2 := Lib.hid hbs2
          clear hbs2
          have HEW2 := Lib.hid hew2
          have HBOX2 := Lib.hid hbox2
          clear hp2 hew2 hbox2
          dsimp only
          refine hK.out _ _ ⟨q20, q21, q22, q23⟩ (fun hHeld => ?_)
          clear hK K
          try simp only [Act.put, List.setIfInBounds_toArray, List.set_cons_zero, List.set_cons_succ]
          refine wpAnyH_ready (rs := [11]) (by kernel_rfl) (by simp) ?_
          refine AllReadyH.cons (by simp only [List.getElem?_toArray, List.getElem?_cons_succ, List.getElem?_cons_zero]; rfl) (fun K hK => ?_) AllReadyH.nil
          go_simp
          refine (wuint b w.heap.size u2 bs2 a W2 (by omega) (by omega) HEW2.out.at_ (by have := HEW2.out.kept.size; omega) (by omega)).mono ?_
          intro e W3 hp3
          have hret := hp3.ret
          subst hret
          obtain ⟨u3, hew3, hne3, hbox3⟩ := (HEW2.out).put hp3 HBOX2.out hxbb hne2
          have q30 : W3.cell? ⟨xb, 0, none⟩ = some (.int .u8 (op : Int)) := cellk hbox3 rfl
          have q31 : W3.cell? ⟨xb, 1, none⟩ = some (.int .i64 n) := cellk hbox3 rfl
          have q32 : W3.cell? ⟨xb, 2, none⟩ = some (.int .i64 a) := cellk hbox3 rfl
          have q33 : W3.cell? ⟨xb, 3, none⟩ = some (.string s) := cellk hbox3 rfl
          have hz3 := hp3.kept.size
          obtain ⟨bs3, hbs3⟩ : ∃ z, bs2 ++ enc a.toNat = z := ⟨_, rfl⟩
          rw [hbs3] at hew3
          have hl3 : bs3.length ≤ 100000030 := by rw [← hbs3, List.length_append, enc_length]; have := nd_le a.toNat; omega
          have HB3 := Lib.hid hbs3
          clear hbs3
          have HEW3 := Lib.hid hew3
          have HBOX3 := Lib.hid hbox3
          clear hp3 hew3 hbox3
          dsimp only
          refine hK.out _ _ ⟨q30, q31, q32, q33⟩ (fun hHeld => ?_)
          clear hK K
          try simp only [Act.put, List.setIfInBounds_toArray, List.set_cons_zero, List.set_cons_succ]
          refine wpAnyH_ready (rs := [14]) (by kernel_rfl) (by simp) ?_
          refine AllReadyH.cons (by simp only [List.getElem?_toArray, List.getElem?_cons_succ, List.getElem?_cons_zero]; rfl) (fun K hK => ?_) AllReadyH.nil
          go_simp
          refine (wtext' b w.heap.size u3 bs3 s W3 HEW3.out.at_ (by have := HEW3.out.kept.size; omega) (by omega)).mono ?_
          intro e W4 hp4
          have hret := hp4.ret
          subst hret
          obtain ⟨u4, hew4, hne4, hbox4⟩ := (HEW3.out).put hp4 HBOX3.out hxbb hne3
          have q40 : W4.cell? ⟨xb, 0, none⟩ = some (.int .u8 (op : Int)) := cellk hbox4 rfl
          have q41 : W4.cell? ⟨xb, 1, none⟩ = some (.int .i64 n) := cellk hbox4 rfl
          have q42 : W4.cell? ⟨xb, 2, none⟩ = some (.int .i64 a) := cellk hbox4 rfl
          have q43 : W4.cell? ⟨xb, 3, none⟩ = some (.string s) := cellk hbox4 rfl
          have hz4 := hp4.kept.size
          obtain ⟨bs4, hbs4⟩ : ∃ z, bs3 ++ encB s.data.toList = z := ⟨_, rfl⟩
          rw [hbs4] at hew4
          have HB4 : Hid (((((bs ++ enc op) ++ enc (zig n)) ++ enc a.toNat) ++ encB s.data.toList) = bs4) := by
            have h5 : ((((bs ++ enc op) ++ enc (zig n)) ++ enc a.toNat) ++ encB s.data.toList) = bs4 := by rw [HB1.out, HB2.out, HB3.out, hbs4]
            exact h5
          clear hbs4
          have HEW4 := Lib.hid hew4
          have HBOX4 := Lib.hid hbox4
          clear hp4 hew4 hbox4
          dsimp only
          refine hK.out _ _ ⟨q40, q41, q42, q43⟩ (fun hHeld => ?_)
          clear hK K
          try simp only [Act.put, List.setIfInBounds_toArray, List.set_cons_zero, List.set_cons_succ]
          refine wpAnyH_done (by kernel_rfl) ?_ _
          have HRE : Hid (bs4 ++ ((f.code.drop (j + 1)).flatMap encI ++ (fs.drop (k + 1)).flatMap encF) = TT) := by
            have h5 := HB.out
            rw [HDR.out] at h5
            have h6 : bs4 ++ ((f.code.drop (j + 1)).flatMap encI ++ (fs.drop (k + 1)).flatMap encF) = TT := by
              rw [← h5, ← HB4.out]
              simp [encI]
            exact h6
          clear HB HDR hHeld HB4
          go_wp2_with fail
          go_roundw
          case rel => exact ⟨j + 1, u4, bs4, by omega, by go_num, HEW4, HRE⟩
          case measure => simp [intOf]; omega
        · obtain rfl : j = f.code.length := by omega
          have hfin : bs ++ (fs.drop (k + 1)).flatMap encF = TT := by
            have h5 := HB.out
            simpa using h5
          have HFIN := Lib.hid hfin
          clear hfin
          go_wp2_with fail
          go_roundw
          case rel => exact ⟨k + 1, v, bs, by omega, by go_num, HE, HFIN⟩
          case measure => simp [intOf]; omega
    · obtain rfl : k = fs.length := by omega
      have hfin : bs = TT := by
        have h5 := HB.out
        simpa using h5
      subst hfin
      go_wp2_with fail
      go_end0
      exact ⟨rfl, v, by rw [HTT.out]; exact HE.out⟩
end Go.Proofs.Ythmnhacgcdcbiaa
