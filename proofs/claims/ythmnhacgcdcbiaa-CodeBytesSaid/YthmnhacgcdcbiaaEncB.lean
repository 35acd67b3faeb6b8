/- The reference's Encode. -/
import Derived.Test.YthmnhacgcdcbiaaEncA
import Derived.Test.YthmnhacgcdcbiaaOctY
import Derived.Lib.ConvBytes
namespace Go.Proofs.Ythmnhacgcdcbiaa
open Go.RowKit OctM CodM

theorem str_bytes (s : ByteArray) (w : World) (hs : s.size ≤ 1000000) :
    ∃ v' w', (convert 9 36 (.string s)).run Try.prog w = .ok v' w' ∧ Rd w' v' s.data.toList ∧ Below w.heap.size w w' := by
  refine ⟨_, _, Go.Lib.run_convert_string_bytes w 9 36 5 s Try.underlying9 Try.underlying36 Try.underlying5, ?_, ?_⟩
  · refine .inr ⟨⟨w.heap.size, 0, none⟩, grownCap w s.size 0 5, ?_, ?_, ?_, fun j u hu => ?_⟩
    · rw [Array.length_toList]; rfl
    · rw [Array.length_toList]; exact grownCap_ge w s.size 0 5
    · exact grownCap_le_maxLen w s.size 0 5 (by unfold maxLen; omega)
    · have hj := (List.getElem?_eq_some_iff.1 hu).1
      rw [add_none, Nat.zero_add]
      rw [Go.Lib.bytesWorld_cell w 5 s j (by rw [Array.length_toList] at hj; exact hj)]
      unfold B
      rw [List.getD_eq_getElem?_getD, hu]
      rfl
  · exact ⟨rfl, rfl, rfl, by rw [Go.Lib.bytesWorld_size]; omega, fun j hj => Go.Lib.bytesWorld_at_old w 5 s j hj⟩

theorem append_own' {w : World} {base : Nat} {v s : Value} {l k : List UInt8} (hown : Own w base v l) (hs : Rd w s k) (hb : l.length + k.length ≤ 140737488355328) (hbase : base ≤ w.heap.size) (ty : TypeId) :
    ∃ v' w', (Builtin.append_ #[36, 36] ty #[v, s]).run Try.prog w = .ok v' w' ∧ Own w' base v' (l ++ k) ∧ w.grownBy w' v.ownBlock ∧ (v'.ownBlock = v.ownBlock ∨ v'.ownBlock = some w.heap.size) := by
  obtain ⟨i0, hi0, hz0, hz1, hz2⟩ := info_parts u8info
  rcases hs with ⟨rfl, rfl⟩ | ⟨a, c, rfl, hn, hm, hc⟩
  · exact ⟨v, w, run_append_owned_none (P := Try.prog) (w := w) base 36 ty 5 i0 1 Try.underlying36 hi0 _ _ _ hown, by simpa [Own] using hown, World.grownBy.refl w _, .inl rfl⟩
  · obtain ⟨v', w', hr, h2, h3, _, h5⟩ := run_append_own_at (P := Try.prog) w base 36 ty 5 i0 (.int .u8 0) 1 1 Try.underlying36 hi0 hz0 hz1 hz2 rfl (by decide) v l.length (Bs l) hown a k.length c (Bs k)
      (by rw [Bs_length, Nat.mul_one]) (fun j u hj => by
        obtain ⟨b, hb, rfl⟩ : ∃ b, k[j]? = some b ∧ B b = u := by simpa [Bs] using hj
        exact hc j b hb) (Bs_one k) (by unfold maxLen; omega) (by omega) hbase
    refine ⟨v', w', hr, ?_, h3, h5⟩
    unfold Own
    rw [List.length_append, Bs_append]
    exact h2

/-- Bytes behind others. -/
theorem app_step {w wi w1 : World} {p v : Value} {bs k : List UInt8} (hB : Below w.heap.size w wi) (ho : Own wi w.heap.size p bs) (hc : Rd w1 v k) (hb1 : Below wi.heap.size wi w1) (hl : bs.length + k.length ≤ 140737488355328) :
    ∃ p2 w2, (Builtin.append_ #[36, 36] 36 #[p, v]).run Try.prog w1 = .ok p2 w2 ∧ Own w2 w.heap.size p2 (bs ++ k) ∧ Below w.heap.size w w2 ∧
      ∀ ib o, wi.heap[ib]? = some o → p.ownBlock ≠ some ib → w2.heap[ib]? = some o ∧ p2.ownBlock ≠ some ib := by
  have hz := hB.size
  have ho1 := own_below ho hb1 (Nat.le_refl _)
  obtain ⟨p2, w2, hr, ho2, hg, hat⟩ := append_own' ho1 hc hl (by have := hb1.size; omega) 36
  refine ⟨p2, w2, hr, ho2, (hB.trans (hb1.mono hz)).grown hg (by have := hb1.size; omega) (fun k hk => (ho.lt k hk).1), fun ib o hf hne => ?_⟩
  have hlt := lt_of_block hf
  refine ⟨(hg.block ib (by have := hb1.size; omega) (fun h => hne h.symm)).trans ((hb1.block ib hlt).trans hf), ?_⟩
  rcases hat with e | e
  · rw [e]; exact hne
  · rw [e]
    intro h
    injection h with h
    have := hb1.size
    omega

set_option maxHeartbeats 4000000 in
set_option maxRecDepth 100000 in
theorem rencode (fs : List Fun) (lv : Value) (w : World) (hr : RdF w lv fs) (hok : ∀ f ∈ fs, FunOK f) (hT : (encL fs).length ≤ 100000000) :
    Calls Try.prog 15 #[lv] w fun e w' => ∃ v, e = .returned v ∧ Own w' w.heap.size v (encL fs) ∧ Below w.heap.size w w' := by
  obtain ⟨o, c, hlv⟩ := hr.form
  subst hlv
  have HR := Lib.hid hr
  have HOK := Lib.hid hok
  have hfl : fs.length ≤ 100000000 := Nat.le_trans (encL_len fs) hT
  have e0 : IntKind.u64.wrap (fs.length : Int) = (fs.length : Int) := by rw [IntKind.wrap_u64]; omega
  have H1 := Lib.hid (refuint (fs.length : Int) w (by omega) (by omega))
  obtain ⟨TT, hTT⟩ : ∃ TT, encL fs = TT := ⟨_, rfl⟩
  have HTT := Lib.hid hTT
  have HTL : Hid (TT.length ≤ 100000000) := by rw [← hTT]; exact hT
  clear hr hok hTT hT
  go_enter Try.func15, Try.ntmps15
  go_wp2_with fail
  refine H1.out.mono ?_
  rintro e w1 ⟨p1, rfl, ho1, hb1⟩
  rw [Int.toNat_natCast] at ho1
  have hrest : enc fs.length ++ (fs.drop 0).flatMap encF = TT := by rw [← HTT.out]; rfl
  have HO1 := Lib.hid ho1
  have HB1 := Lib.hid hb1
  have HRE1 := Lib.hid hrest
  clear ho1 hb1 hrest H1
  go_wp2_with fail
  go_loopw [3, 4] (fun p i wr => ∃ (k : Nat) (bs : List UInt8), k ≤ fs.length ∧ i = .int .i64 k ∧ Hid (Own wr w.heap.size p bs) ∧ Hid (Below w.heap.size w wr) ∧ Hid (bs ++ (fs.drop k).flatMap encF = TT)) (fun _ i _ => fs.length - (intOf i).toNat)
  case atStart => exact ⟨0, _, by omega, rfl, HO1.out, HB1.out, HRE1.out⟩
  case round =>
    obtain ⟨k, bs, hk, rfl, HO, HBW, HB⟩ := hrel
    generalize wr = wi at *
    by_cases hlt : k < fs.length
    · have hx : fs[k]? = some fs[k] := List.getElem?_eq_getElem hlt
      have hfo := HOK.out fs[k] (List.getElem_mem hlt)
      have hdr : (fs.drop k).flatMap encF = encF fs[k] ++ (fs.drop (k + 1)).flatMap encF := by rw [List.drop_eq_getElem_cons hlt, List.flatMap_cons]
      rcases HR.out with ⟨o', c', hv', h0'⟩ | ⟨bb, off, c', hv', h1, h2, h3, h4⟩
      · rw [h0'] at hlt
        simp at hlt
      injection hv' with e1 e2 e3
      subst e1 e3
      unfold maxLen at h3
      obtain ⟨x0, cv, x1, hcv⟩ := h4 k _ hx
      have hkI : (k : Int) < (fs.length : Int) := by omega
      generalize fs[k] = f at *
      obtain ⟨oc, cc, rfl⟩ := hcv.form
      have hX0 : ∀ wx, Below w.heap.size w wx → wx.cell? ⟨bb, off + k * 2, none⟩ = some (.int .i64 f.caps) ∧ wx.cell? ⟨bb, off + k * 2 + 1, none⟩ = some (.slice oc f.code.length cc) := fun wx hb => ⟨(hb.cell (World.block_lt_of_cell? w _ x0)).trans x0, (hb.cell (World.block_lt_of_cell? w _ x1)).trans x1⟩
      have HX0 := Lib.hid hX0
      have HCV := Lib.hid hcv
      have HFO := Lib.hid hfo
      have HDR := Lib.hid hdr
      have hfc0 := hfo.c0
      have hfc1 := hfo.c1
      have hfcl := hfo.len
      have hbsl : bs.length ≤ 100000000 := by
        have h5 := HTL.out
        rw [← HB.out, List.length_append] at h5
        omega
      obtain ⟨y0, y1⟩ := HX0.out wi HBW.out
      have d1 : IntKind.u64.wrap f.caps = f.caps := by rw [IntKind.wrap_u64]; omega
      have d2 : IntKind.u64.wrap (f.code.length : Int) = (f.code.length : Int) := by rw [IntKind.wrap_u64]; omega
      have H2 := Lib.hid (refuint f.caps wi (by omega) (by omega))
      clear hx hcv hfo hdr h4 x0 x1 hX0
      go_wp2_with fail
      refine H2.out.mono ?_
      rintro e w2 ⟨v2, rfl, ho2, hb2⟩
      dsimp only
      obtain ⟨p3, w3, hrun, ho3, hb3, -⟩ := app_step HBW.out HO.out (Rd.of_own ho2) hb2 (by rw [enc_length]; have := nd_le f.caps.toNat; omega)
      obtain ⟨z0, z1⟩ := HX0.out w3 hb3
      have H3 := Lib.hid (refuint (f.code.length : Int) w3 (by omega) (by omega))
      have HRUN := Lib.hid hrun
      have HO3 := Lib.hid ho3
      have HB3 := Lib.hid hb3
      have hl3 : (bs ++ enc f.caps.toNat).length ≤ 100000010 := by rw [List.length_append, enc_length]; have := nd_le f.caps.toNat; omega
      clear hrun ho3 hb3 ho2 hb2 H2 y0 y1
      go_wp2_with (at_builtin; refine wpList_append_known rfl (.tmp 17) (.tmp 24) 36 36 (by rfl) _ _ _ (by rfl) (by rfl) HRUN.out ?_)
      refine H3.out.mono ?_
      rintro e w4 ⟨v4, rfl, ho4, hb4⟩
      dsimp only
      obtain ⟨p5, w5, hrun, ho5, hb5, -⟩ := app_step HB3.out HO3.out (Rd.of_own ho4) hb4 (by rw [enc_length]; have := nd_le (f.code.length : Int).toNat; omega)
      have HRUN2 := Lib.hid hrun
      have HO5 := Lib.hid ho5
      have HB5 := Lib.hid hb5
      have HRE6 : Hid (((bs ++ enc f.caps.toNat) ++ enc (f.code.length : Int).toNat) ++ ((f.code.drop 0).flatMap encI ++ (fs.drop (k + 1)).flatMap encF) = TT) := by
        have h5 := HB.out
        rw [HDR.out] at h5
        have h6 : ((bs ++ enc f.caps.toNat) ++ enc (f.code.length : Int).toNat) ++ ((f.code.drop 0).flatMap encI ++ (fs.drop (k + 1)).flatMap encF) = TT := by
          rw [← h5]
          simp [encF, encC]
        exact h6
      generalize (bs ++ enc f.caps.toNat) ++ enc (f.code.length : Int).toNat = b6 at *
      clear hrun ho5 hb5 ho4 hb4 H3 z0 z1 HRUN HB HDR HO3
      go_wp2_with (at_builtin; refine wpList_append_known rfl (.tmp 26) (.tmp 34) 36 36 (by rfl) _ _ _ (by rfl) (by rfl) HRUN2.out ?_)
      go_loopw [3, 5] (fun p J wr => ∃ (pp : Value) (j : Nat) (bs : List UInt8), pp = p ∧ j ≤ f.code.length ∧ J = .int .i64 j ∧ Hid (Own wr w.heap.size p bs) ∧ Hid (Below w.heap.size w wr) ∧ Hid (bs ++ ((f.code.drop j).flatMap encI ++ (fs.drop (k + 1)).flatMap encF) = TT)) (fun _ J _ => f.code.length - (intOf J).toNat)
      case atStart => exact ⟨_, 0, b6, rfl, by omega, rfl, HO5.out, HB5.out, HRE6.out⟩
      case round =>
        obtain ⟨pp, j, bs, hpp, hj, rfl, HO, HBW, HB⟩ := hrel
        subst hpp
        generalize wr = wi at *
        obtain ⟨y0, y1⟩ := HX0.out wi HBW.out
        by_cases hjl : j < f.code.length
        · have hx : f.code[j]? = some f.code[j] := List.getElem?_eq_getElem hjl
          have hxo := HFO.out.all f.code[j] (List.getElem_mem hjl)
          have hdr : (f.code.drop j).flatMap encI = encI f.code[j] ++ (f.code.drop (j + 1)).flatMap encI := by rw [List.drop_eq_getElem_cons hjl, List.flatMap_cons]
          rcases HCV.out with ⟨o', c', hv', h0'⟩ | ⟨b2, off2, c2, hv', k1, k2, k3, k4⟩
          · rw [h0'] at hjl
            simp at hjl
          injection hv' with e1 e2 e3
          subst e1 e3
          unfold maxLen at k3
          obtain ⟨z0, z1, z2, z3⟩ := k4 j _ hx
          have hjI : (j : Int) < (f.code.length : Int) := by omega
          generalize f.code[j] = x at *
          obtain ⟨op, n, a, s⟩ := x
          simp only at z0 z1 z2 z3
          have hbw := HBW.out
          have t0 : wi.cell? ⟨b2, off2 + j * 4, none⟩ = some (.int .u8 (op : Int)) := (hbw.cell (World.block_lt_of_cell? w _ z0)).trans z0
          have t1 : wi.cell? ⟨b2, off2 + j * 4 + 1, none⟩ = some (.int .i64 n) := (hbw.cell (World.block_lt_of_cell? w _ z1)).trans z1
          have t2 : wi.cell? ⟨b2, off2 + j * 4 + 2, none⟩ = some (.int .i64 a) := (hbw.cell (World.block_lt_of_cell? w _ z2)).trans z2
          have t3 : wi.cell? ⟨b2, off2 + j * 4 + 3, none⟩ = some (.string s) := (hbw.cell (World.block_lt_of_cell? w _ z3)).trans z3
          have HDR := Lib.hid hdr
          have hxop := hxo.op
          have hxn0 := hxo.n0
          have hxn1 := hxo.n1
          have hxa0 := hxo.a0
          have hxa1 := hxo.a1
          have hxs := hxo.s
          simp only at hxop hxn0 hxn1 hxa0 hxa1 hxs
          have hsl : s.data.toList.length ≤ 2000 := by rw [Array.length_toList]; exact hxs
          have hbsl : bs.length ≤ 100000000 := by
            have h5 := HTL.out
            rw [← HB.out, List.length_append] at h5
            omega
          have hWX := heap_alloc_new wi (.cells #[.int .u8 (op : Int), .int .i64 n, .int .i64 a, .string s] 58)
          obtain ⟨wf, hwf⟩ : ∃ wf, wi.alloc (.cells #[.int .u8 (op : Int), .int .i64 n, .int .i64 a, .string s] 58) = wf := ⟨_, rfl⟩
          have hof : Own wf w.heap.size pp bs := by rw [← hwf]; exact World.ownsRow.alloc HO.out _
          have hbf : Below w.heap.size w wf := by rw [← hwf]; exact HBW.out.alloc HBW.out.size _
          rw [hwf] at hWX
          have hne : pp.ownBlock ≠ some wi.heap.size := fun h => by have := (HO.out.lt _ h).2; omega
          have g0 : wf.cell? ⟨wi.heap.size, 0, none⟩ = some (.int .u8 (op : Int)) := cellk hWX rfl
          have HOF := Lib.hid hof
          have HBF := Lib.hid hbf
          have HWX := Lib.hid hWX
          have HNE := Lib.hid hne
          have d3 : IntKind.u64.wrap (op : Int) = (op : Int) := by rw [IntKind.wrap_u64]; omega
          have d4 : IntKind.u64.wrap a = a := by rw [IntKind.wrap_u64]; omega
          have hzx : wi.heap.size < wf.heap.size := lt_of_block hWX
          have H1 := Lib.hid (refuint (op : Int) wf (by omega) (by omega))
          clear hx hxo hdr k4 z0 z1 z2 z3 hbw hof hbf hWX hne
          go_upto_region 11 with (fail)
          try rw [hwf]
          generalize wi.heap.size = xb at *
          clear hwf t0 t1 t2 t3 y0 y1 HO HBW
          go_wp2_with fail
          refine H1.out.mono ?_
          rintro e c1 ⟨v1, rfl, ho, hb⟩
          dsimp only
          rw [Int.toNat_natCast] at ho
          obtain ⟨u1, m1, hrun, ho2, hb2, hbox⟩ := app_step HBF.out HOF.out (Rd.of_own ho) hb (by rw [enc_length]; have := nd_le op; omega)
          obtain ⟨hx2, hne2⟩ := hbox xb _ HWX.out HNE.out
          obtain ⟨bs1, hbs1⟩ : ∃ z, bs ++ enc op = z := ⟨_, rfl⟩
          rw [hbs1] at ho2
          have hl1 : bs1.length ≤ 100003000 := by rw [← hbs1, List.length_append]; rw [enc_length]; have := nd_le op; omega
          have HBS1 := Lib.hid hbs1
          have HR1 := Lib.hid hrun
          have HO1 := Lib.hid ho2
          have HB1 := Lib.hid hb2
          have HX1 := Lib.hid hx2
          have HN1 := Lib.hid hne2
          have g1 : m1.cell? ⟨xb, 1, none⟩ = some (.int .i64 n) := cellk hx2 rfl
          have HC2 := Lib.hid (refint n m1 hxn0 hxn1)
          have hzx1 := lt_of_block hx2
          clear hrun ho2 hb2 hbox hx2 hne2 ho hb hbs1
          go_wp2_with (at_builtin; refine wpList_append_known rfl (.tmp 54) (.tmp 58) 36 36 (by rfl) _ _ _ (by rfl) (by rfl) HR1.out ?_)
          refine HC2.out.mono ?_
          rintro e c2 ⟨v2, rfl, ho, hb⟩
          dsimp only
          obtain ⟨u2, m2, hrun, ho2, hb2, hbox⟩ := app_step HB1.out HO1.out (Rd.of_own ho) hb (by rw [enc_length]; have := nd_le (zig n); omega)
          obtain ⟨hx2, hne2⟩ := hbox xb _ HX1.out HN1.out
          obtain ⟨bs2, hbs2⟩ : ∃ z, bs1 ++ enc (zig n) = z := ⟨_, rfl⟩
          rw [hbs2] at ho2
          have hl2 : bs2.length ≤ 100006000 := by rw [← hbs2, List.length_append]; rw [enc_length]; have := nd_le (zig n); omega
          have HBS2 := Lib.hid hbs2
          have HR2 := Lib.hid hrun
          have HO2 := Lib.hid ho2
          have HB2 := Lib.hid hb2
          have HX2 := Lib.hid hx2
          have HN2 := Lib.hid hne2
          have g2 : m2.cell? ⟨xb, 2, none⟩ = some (.int .i64 a) := cellk hx2 rfl
          have HC3 := Lib.hid (refuint a m2 (by omega) (by omega))
          have hzx2 := lt_of_block hx2
          clear hrun ho2 hb2 hbox hx2 hne2 ho hb hbs2
          go_wp2_with (at_builtin; refine wpList_append_known rfl (.tmp 60) (.tmp 63) 36 36 (by rfl) _ _ _ (by rfl) (by rfl) HR2.out ?_)
          refine HC3.out.mono ?_
          rintro e c3 ⟨v3, rfl, ho, hb⟩
          dsimp only
          obtain ⟨u3, m3, hrun, ho2, hb2, hbox⟩ := app_step HB2.out HO2.out (Rd.of_own ho) hb (by rw [enc_length]; have := nd_le a.toNat; omega)
          obtain ⟨hx2, hne2⟩ := hbox xb _ HX2.out HN2.out
          obtain ⟨bs3, hbs3⟩ : ∃ z, bs2 ++ enc a.toNat = z := ⟨_, rfl⟩
          rw [hbs3] at ho2
          have hl3 : bs3.length ≤ 100009000 := by rw [← hbs3, List.length_append]; rw [enc_length]; have := nd_le a.toNat; omega
          have HBS3 := Lib.hid hbs3
          have HR3 := Lib.hid hrun
          have HO3 := Lib.hid ho2
          have HB3 := Lib.hid hb2
          have HX3 := Lib.hid hx2
          have HN3 := Lib.hid hne2
          have g3 : m3.cell? ⟨xb, 3, none⟩ = some (.string s) := cellk hx2 rfl
          obtain ⟨sv, ws, hcs, hrs, hbs⟩ := str_bytes s m3 (by omega)
          have HC4 := Lib.hid (refbytes sv s.data.toList ws hrs (by omega))
          have HCB := Lib.hid hbs
          clear hrs hbs
          have hzx3 := lt_of_block hx2
          clear hrun ho2 hb2 hbox hx2 hne2 ho hb hbs3
          go_wp2_with (at_builtin; refine wpList_append_known rfl (.tmp 65) (.tmp 69) 36 36 (by rfl) _ _ _ (by rfl) (by rfl) HR3.out ?_)
          refine HC4.out.mono ?_
          rintro e c4 ⟨v4, rfl, ho, hb⟩
          dsimp only
          have hb := HCB.out.trans (hb.mono HCB.out.size)
          obtain ⟨u4, m4, hrun, ho2, hb2, hbox⟩ := app_step HB3.out HO3.out (Rd.of_own ho) hb (by have := encB_length s.data.toList; omega)
          obtain ⟨hx2, hne2⟩ := hbox xb _ HX3.out HN3.out
          obtain ⟨bs4, hbs4⟩ : ∃ z, bs3 ++ encB s.data.toList = z := ⟨_, rfl⟩
          rw [hbs4] at ho2
          have hl4 : bs4.length ≤ 100012000 := by rw [← hbs4, List.length_append]; have := encB_length s.data.toList; omega
          have HBS4 := Lib.hid hbs4
          have HR4 := Lib.hid hrun
          have HO4 := Lib.hid ho2
          have HB4 := Lib.hid hb2
          have HX4 := Lib.hid hx2
          have HN4 := Lib.hid hne2
          have hzx4 := lt_of_block hx2
          clear hrun ho2 hb2 hbox hx2 hne2 ho hb hbs4
          have HRE : Hid (bs4 ++ ((f.code.drop (j + 1)).flatMap encI ++ (fs.drop (k + 1)).flatMap encF) = TT) := by
            have h5 := HB.out
            rw [HDR.out] at h5
            have h6 : bs4 ++ ((f.code.drop (j + 1)).flatMap encI ++ (fs.drop (k + 1)).flatMap encF) = TT := by
              rw [← h5, ← HBS4.out, ← HBS3.out, ← HBS2.out, ← HBS1.out]
              simp [encI]
            exact h6
          clear HB HDR HBS1 HBS2 HBS3 HBS4
          go_wp2_with (at_builtin; refine wpList_append_known rfl (.tmp 71) (.tmp 75) 36 36 (by rfl) _ _ _ (by rfl) (by rfl) HR4.out ?_)
          go_roundw
          case rel => exact ⟨_, j + 1, bs4, rfl, by omega, by go_num, HO4, HB4, HRE⟩
          case measure => simp [intOf]; omega
        · obtain rfl : j = f.code.length := by omega
          have hfin : bs ++ (fs.drop (k + 1)).flatMap encF = TT := by
            have h5 := HB.out
            simpa using h5
          have HFIN := Lib.hid hfin
          clear hfin
          go_wp2_with fail
          go_roundw
          case rel => exact ⟨k + 1, bs, by omega, by go_num, HO, HBW, HFIN⟩
          case measure => simp [intOf]; omega
    · obtain rfl : k = fs.length := by omega
      have hfin : bs = TT := by
        have h5 := HB.out
        simpa using h5
      subst hfin
      go_wp2_with fail
      go_ret
      exact ⟨_, rfl, by rw [HTT.out]; exact HO.out, HBW.out⟩
end Go.Proofs.Ythmnhacgcdcbiaa
