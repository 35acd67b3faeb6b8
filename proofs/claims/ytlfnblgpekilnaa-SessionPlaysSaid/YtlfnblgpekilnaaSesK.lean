/- Sessions: the reference's table, and its Save. -/
import Derived.Test.YtlfnblgpekilnaaSesJ
namespace Go.Proofs.Ytlfnblgpekilnaa
open Go.RowKit OctM

/-- The reference's table in memory: its replies may lie anywhere. -/
structure RT (w : World) (b base : Nat) (v : Value) (ps : List (Se × Value)) : Prop where
  cell : w.heap[b]? = some (.cells #[v] 29 (0, 0))
  row : w.ownsRow base 63 3 v ps.length (CsS ps)
  rd : ∀ q ∈ ps, Rd w q.2 q.1.rp

theorem RT.below {w w' : World} {b base : Nat} {v : Value} {ps : List (Se × Value)} (h : RT w b base v ps) (hb : Below w.heap.size w w') : RT w' b base v ps :=
  ⟨(hb.block b (lt_of_block h.cell)).trans h.cell, own_kept h.row (kept_of_below (S := fun _ => False) hb) (fun _ _ h => h), fun q hq => (h.rd q hq).below hb⟩

theorem RT.at {w : World} {b base : Nat} {v : Value} {ps : List (Se × Value)} (h : RT w b base v ps) {i : Nat} {q : Se × Value} (hq : ps[i]? = some q) :
    ∃ g c, v = .slice (some ⟨g, 0, none⟩) ps.length c ∧ base ≤ g ∧ g < w.heap.size ∧ w.cell? ⟨g, i * 3, none⟩ = some (.int .u64 (q.1.id : Int)) ∧ w.cell? ⟨g, i * 3 + 1, none⟩ = some (.int .u64 (q.1.nm : Int)) ∧ w.cell? ⟨g, i * 3 + 2, none⟩ = some q.2 ∧ ∃ o c', q.2 = .slice o q.1.rp.length c' := by
  have hi := (List.getElem?_eq_some_iff.1 hq).1
  obtain ⟨g, c, rfl, hb, hg, -, hcs⟩ := own_at h.row (by omega)
  obtain ⟨a0, a1, a2⟩ := (show SRow w w g ps from ⟨Below.refl _ _, hg, hcs⟩).at hq
  refine ⟨g, c, rfl, hb, hg, a0, a1, a2, ?_⟩
  rcases h.rd q (List.mem_of_getElem? hq) with ⟨h1, h2⟩ | ⟨a, c', h1, _⟩
  · exact ⟨_, _, by rw [h1, h2]; rfl⟩
  · exact ⟨_, _, h1⟩

set_option maxHeartbeats 8000000 in
set_option maxRecDepth 100000 in
theorem rsave_any (w : World) {b base : Nat} {v : Value} {ps : List (Se × Value)} (h : RT w b base v ps) (hl : ps.length ≤ 1000) (hw : Wrd (ps.map Prod.fst)) (hb : ∀ s ∈ ps.map Prod.fst, s.rp.length ≤ 1000000) :
    Calls Try.prog 18 #[.pointer (some ⟨b, 0, none⟩)] w fun e w' => ∃ v', e = .returned v' ∧ Own w' w.heap.size v' (saveB (ps.map Prod.fst)) ∧ Below w.heap.size w w' := by
  have H := Lib.hid h
  have HW := Lib.hid hw
  have HB := Lib.hid hb
  have HL := Lib.hid hl
  obtain ⟨ov, cv, rfl⟩ := own_slice h.row
  have hlm : (ps.map Prod.fst).length = ps.length := by simp
  generalize hLL : ps.map Prod.fst = l at *
  have HLL := Lib.hid hLL
  have HLM := Lib.hid hlm
  have wl : IntKind.u64.wrap (ps.length : Int) = (ps.length : Int) := by rw [IntKind.wrap_u64]; omega
  have HBS0 : Hid ((bodyS l).length ≤ 1000100000) := Lib.hid (by have := bodyS_le l hb; omega)
  have c0 := cell_of_one h.cell
  have HC1 := Lib.hid (refuint (ps.length : Int) w (by omega) (by omega))
  clear h hw hb hLL hlm
  go_enter Try.func18, Try.ntmps18
  go_wp2_with fail
  refine HC1.out.mono ?_
  rintro e w1 ⟨v1, rfl, ho1, hb1⟩
  rw [Int.toNat_natCast] at ho1
  obtain ⟨b0, hb0⟩ : ∃ b0, b0 = enc ps.length ++ bodyS (l.take 0) := ⟨_, rfl⟩
  have ho1' : Own w1 w.heap.size v1 b0 := by rw [hb0]; simpa [bodyS] using ho1
  obtain ⟨o1, c1, rfl⟩ := own_slice ho1'
  have HO1 := Lib.hid ho1'
  have HE0 := Lib.hid hb0
  clear hb0
  have HB1 := Lib.hid hb1
  clear ho1 ho1' hb1 c0 wl HC1
  go_wp2_with fail
  go_loopw [3, 4] (fun t3 t4 wr => ∃ (i : Nat) (o3 : Option Addr) (c3 : Nat) (bs : List UInt8), i ≤ ps.length ∧ t3 = .slice o3 bs.length c3 ∧ t4 = .int .i64 (i : Int) ∧ Hid (bs = enc ps.length ++ bodyS (l.take i)) ∧ Hid (Own wr w.heap.size (.slice o3 bs.length c3) bs) ∧ Hid (Below w.heap.size w wr)) (fun _ t4 _ => ps.length + 1 - (intOf t4).toNat)
  case atStart => exact ⟨0, o1, c1, b0, by omega, rfl, rfl, HE0, HO1, HB1⟩
  case round =>
    clear HO1 HB1 HE0
    obtain ⟨i, o3, c3, bs, hi, rfl, rfl, HEQ, HO, HBW⟩ := hrel
    have hl6 := HL.out
    have HTK : Hid ((bodyS (l.take i)).length ≤ 1000100000) := Lib.hid (by
      have h1 := bodyS_le (l.take i) (fun x hx => HB.out x (List.mem_of_mem_take hx))
      have h3 : (l.take i).length ≤ 1000 := by rw [List.length_take]; omega
      omega)
    have hrt := H.out.below HBW.out
    have c0 := cell_of_one hrt.cell
    by_cases hlt : i < ps.length
    · have i1 : (i : Int) < (ps.length : Int) := by omega
      have wi : IntKind.i64.wrap ((i : Int) + 1) = (i : Int) + 1 := IntWalk.i64_in _ (by omega)
      have hpx : ps[i]? = some ps[i] := List.getElem?_eq_getElem hlt
      have hgx : l[i]? = some (ps[i]).1 := by rw [← HLL.out, List.getElem?_map, hpx]; rfl
      have hww := HW.out _ (List.mem_of_getElem? hgx)
      have hrr := HB.out _ (List.mem_of_getElem? hgx)
      have hsucc := bodyS_succ l i _ hgx
      obtain ⟨g, cg, hv, -, hgl, a0, a1, a2, ox, cx, hox⟩ := H.out.at hpx
      have hrd := H.out.rd _ (List.getElem_mem hlt)
      injection hv with hv _ hc'
      subst hv hc'
      generalize ps[i] = q at *
      obtain ⟨⟨xi, xn, xr⟩, vy⟩ := q
      dsimp only at hox a0 a1 a2 hww hrr hrd
      subst hox
      have HSUC : Hid (bodyS (l.take (i + 1)) = bodyS (l.take i) ++ (enc xi ++ enc xn ++ encB xr)) := Lib.hid hsucc
      have HXR := Lib.hid hrr
      have HRD := Lib.hid hrd
      have hbl := lt_of_block H.out.cell
      have hcl : ∀ W, Below w.heap.size w W → W.cell? ⟨b, 0, none⟩ = some (.slice (some ⟨g, 0, none⟩) ps.length cv) ∧ W.cell? ⟨g, i * 3, none⟩ = some (.int .u64 (xi : Int)) ∧ W.cell? ⟨g, i * 3 + 1, none⟩ = some (.int .u64 (xn : Int)) ∧ W.cell? ⟨g, i * 3 + 2, none⟩ = some (.slice ox xr.length cx) := fun W hW =>
        ⟨(hW.cell (p := ⟨b, 0, none⟩) hbl).trans (cell_of_one H.out.cell), (hW.cell (p := ⟨g, i * 3, none⟩) hgl).trans a0, (hW.cell (p := ⟨g, i * 3 + 1, none⟩) hgl).trans a1, (hW.cell (p := ⟨g, i * 3 + 2, none⟩) hgl).trans a2⟩
      have HCL := Lib.hid hcl
      have HU1 := Lib.hid (refuint (xi : Int) wr (by omega) (by omega))
      have HU2 := Lib.hid (fun W => refuint (xn : Int) W (by omega) (by omega))
      have hbs : bs.length ≤ 1000100010 := by
        have := HTK.out; have := enc_length ps.length; have := nd_le ps.length
        rw [HEQ.out, List.length_append]; omega
      have HBSEQ : Hid (bs ++ enc xi ++ enc xn ++ encB xr = enc ps.length ++ bodyS (l.take (i + 1))) := Lib.hid (by rw [HSUC.out, HEQ.out]; simp [List.append_assoc])
      have HBS := Lib.hid hbs
      have hx1 : (enc xi).length ≤ 10 := by have := enc_length xi; have := nd_le xi; omega
      have hx2 : (enc xn).length ≤ 10 := by have := enc_length xn; have := nd_le xn; omega
      have hx3 : (encB xr).length ≤ 1000010 := by have := encB_length xr; omega
      have HX := Lib.hid (And.intro hx1 (And.intro hx2 hx3))
      clear hx1 hx2 hx3
      obtain ⟨d0, d1, -, -⟩ := hcl wr HBW.out
      clear hpx hgx hww hrr hsucc hrt hrd hgl hbs HSUC c0 a0 a1 a2 hbl hcl
      go_wp2_with fail
      refine HU1.out.mono ?_
      rintro e w2 ⟨v2, rfl, ho2, hb2⟩
      rw [Int.toNat_natCast] at ho2
      obtain ⟨va, wa, hra, hoa, hga⟩ := append_own (own_below HO.out hb2 (Nat.le_refl _)) (Rd.of_own ho2) (by have := HBS.out; have := HX.out.1; omega) (Nat.le_trans HBW.out.size hb2.size) 31
      obtain ⟨oa, ca, rfl⟩ := own_slice hoa
      have HBA := Lib.hid ((HBW.out.trans (hb2.mono HBW.out.size)).grown hga (Nat.le_trans HBW.out.size hb2.size) (fun k hk => (HO.out.lt k hk).1))
      have HLA := Lib.hid (show (bs ++ enc xi).length ≤ 1000100030 by have := HBS.out; have := HX.out.1; rw [List.length_append]; omega)
      generalize bs ++ enc xi = A at *
      have HOA := Lib.hid hoa
      have HRA := Lib.hid hra
      obtain ⟨o2, c2, rfl⟩ := own_slice ho2
      clear ho2 hb2 hra hoa hga d0 d1 HU1 HO
      obtain ⟨d0, -, d1, -⟩ := HCL.out wa HBA.out
      go_wp2_with (at_builtin; refine wpList_append_known rfl (.tmp 21) (.tmp 30) 31 31 (by rfl) _ _ _ (by rfl) (by rfl) HRA.out ?_)
      refine (HU2.out wa).mono ?_
      rintro e w3 ⟨v3, rfl, ho3, hb3⟩
      rw [Int.toNat_natCast] at ho3
      obtain ⟨vb, wb, hrb, hob, hgb⟩ := append_own (own_below HOA.out hb3 (Nat.le_refl _)) (Rd.of_own ho3) (by have := HLA.out; have := HX.out.2.1; omega) (Nat.le_trans HBA.out.size hb3.size) 31
      obtain ⟨ob, cb, rfl⟩ := own_slice hob
      have HBB := Lib.hid ((HBA.out.trans (hb3.mono HBA.out.size)).grown hgb (Nat.le_trans HBA.out.size hb3.size) (fun k hk => (HOA.out.lt k hk).1))
      have HLB := Lib.hid (show (A ++ enc xn).length ≤ 1000100050 by have := HLA.out; have := HX.out.2.1; rw [List.length_append]; omega)
      generalize A ++ enc xn = B9 at *
      have HOB := Lib.hid hob
      have HRB := Lib.hid hrb
      obtain ⟨o3', c3', rfl⟩ := own_slice ho3
      clear ho3 hb3 hrb hob hgb d0 d1 HU2 HOA HRA
      obtain ⟨d0, -, -, d1⟩ := HCL.out wb HBB.out
      have HU3 := Lib.hid (refbytes (.slice ox xr.length cx) xr wb (HRD.out.below HBB.out) (by have := HXR.out; omega))
      go_wp2_with (at_builtin; refine wpList_append_known rfl (.tmp 32) (.tmp 41) 31 31 (by rfl) _ _ _ (by rfl) (by rfl) HRB.out ?_)
      refine HU3.out.mono ?_
      rintro e w4 ⟨v4, rfl, ho4, hb4⟩
      obtain ⟨vc, wc, hrc, hoc, hgc⟩ := append_own (own_below HOB.out hb4 (Nat.le_refl _)) (Rd.of_own ho4) (by have := HLB.out; have := HX.out.2.2; omega) (Nat.le_trans HBB.out.size hb4.size) 31
      obtain ⟨oc, cc, rfl⟩ := own_slice hoc
      have HBC := Lib.hid ((HBB.out.trans (hb4.mono HBB.out.size)).grown hgc (Nat.le_trans HBB.out.size hb4.size) (fun k hk => (HOB.out.lt k hk).1))
      generalize B9 ++ encB xr = C9 at *
      have HOC := Lib.hid hoc
      have HRC := Lib.hid hrc
      obtain ⟨o4, c4, rfl⟩ := own_slice ho4
      clear ho4 hb4 hrc hoc hgc d0 d1 HU3 HOB HRB
      go_wp2_with (at_builtin; refine wpList_append_known rfl (.tmp 43) (.tmp 52) 31 31 (by rfl) _ _ _ (by rfl) (by rfl) HRC.out ?_)
      go_roundw
      case rel => exact ⟨i + 1, oc, cc, C9, by omega, rfl, by go_num, HBSEQ, HOC, HBC⟩
      case measure => simp [intOf]; omega
    · have i1 : ¬ (i : Int) < (ps.length : Int) := by omega
      have hie : i = l.length := by have := HLM.out; omega
      have HF : Hid (bs = saveB l) := Lib.hid (by
        have := HEQ.out
        rw [hie, List.take_length] at this
        unfold saveB
        rw [HLM.out]
        exact this)
      clear hrt hie
      go_wp2_with fail
      go_ret
      exact ⟨_, rfl, by rw [← HF.out]; exact HO.out, HBW.out⟩
end Go.Proofs.Ytlfnblgpekilnaa
