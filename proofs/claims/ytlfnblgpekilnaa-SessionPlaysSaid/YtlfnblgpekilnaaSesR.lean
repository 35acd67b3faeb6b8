/- Sessions: the reference's Put, the walk. -/
import Derived.Test.YtlfnblgpekilnaaSesQ
namespace Go.Proofs.Ytlfnblgpekilnaa
open Go.RowKit OctM

/-- What the reference's Put leaves. -/
def RPutP (w : World) (b base : Nat) (r : Int × List Se) (e : Ending) (w' : World) : Prop :=
  e = .returned (.int .i64 r.1) ∧ ∃ v' ps', RO w' b base v' ps' ∧ ps'.map Prod.fst = r.2 ∧ Kept (fun k => k = b) w w'

set_option maxHeartbeats 8000000 in
set_option maxRecDepth 100000 in
theorem rput_any (id nm : Nat) (rp : List UInt8) (x : Value) (w : World) {b base : Nat} {v : Value} {ps : List (Se × Value)} (h : RO w b base v ps) (hbase : base ≤ w.heap.size) (hl : ps.length ≤ 900) (hr : Ris (ps.map Prod.fst)) (hx : Rd w x rp) (hrp : rp.length ≤ 1000000) :
    Calls Try.prog 12 #[.pointer (some ⟨b, 0, none⟩), .int .u64 (id : Int), .int .u64 (nm : Int), x] w (RPutP w b base (putS (ps.map Prod.fst) ⟨id, nm, rp⟩)) := by
  obtain ⟨ox, cx, rfl⟩ : ∃ o c, x = .slice o rp.length c := by
    rcases hx with ⟨rfl, rfl⟩ | ⟨_, c, rfl, _⟩ <;> exact ⟨_, _, rfl⟩
  have H := Lib.hid h
  have HR := Lib.hid hr
  have HL := Lib.hid hl
  have HX := Lib.hid hx
  have HA := Lib.hid (rask_any id nm w h.rt (by omega) hr)
  have hlm : (ps.map Prod.fst).length = ps.length := by simp
  have HPP : Hid (putS (ps.map Prod.fst) ⟨id, nm, rp⟩ = if (askS (ps.map Prod.fst) id nm).1 = 0 then (7, ps.map Prod.fst) else if (askS (ps.map Prod.fst) id nm).1 = 6 then (0, insS (ps.map Prod.fst) ⟨id, nm, rp⟩) else ((askS (ps.map Prod.fst) id nm).1, ps.map Prod.fst)) := Lib.hid rfl
  obtain ⟨ov, cv, rfl⟩ := own_slice h.own.row
  obtain ⟨va, wa, hra, hoa, hga⟩ := append_own (show Own w w.heap.size (.slice none 0 0) [] from World.ownsRow_nil _ _ _ _) hx (by simp only [List.length_nil]; omega) (Nat.le_refl _) 31
  have hba : Below w.heap.size w wa := (Below.refl _ w).grown hga (Nat.le_refl _) (by intro k hk; cases hk)
  rw [List.nil_append] at hoa
  obtain ⟨oa, ca, rfl⟩ := own_slice hoa
  have HRA := Lib.hid hra
  have HOA := Lib.hid hoa
  have HBA := Lib.hid hba
  have hsame : RPutP w b base (7, ps.map Prod.fst) (.returned (.int .i64 7)) w ∧ ∀ c : Int, RPutP w b base (c, ps.map Prod.fst) (.returned (.int .i64 c)) w := ⟨⟨rfl, _, ps, h, rfl, Kept.refl _ _⟩, fun c => ⟨rfl, _, ps, h, rfl, Kept.refl _ _⟩⟩
  have HSAME := Lib.hid hsame
  generalize hLL : ps.map Prod.fst = l at *
  have HLL := Lib.hid hLL
  have HLM := Lib.hid hlm
  clear h hr hx hra hoa hba hga hsame hLL hlm
  go_enter Try.func12, Try.ntmps12
  go_wp2_with fail
  refine HA.out.mono ?_
  rintro e w' ⟨oq, cq, rfl, -, rfl⟩
  generalize hcode : (askS l id nm).1 = code at *
  clear hcode HA
  by_cases h0 : code = 0
  · have i1 : (code == 0) = true := by simp [h0]
    rw [if_pos h0] at HPP
    clear h0
    go_wp2_with fail
    go_ret
    rw [HPP.out]
    exact HSAME.out.1
  · have i1 : (code == 0) = false := by simp [h0]
    rw [if_neg h0] at HPP
    by_cases h6 : code = 6
    · have i2 : (code == 6) = true := by simp [h6]
      have i3 : (code != 6) = false := by simp [h6]
      rw [if_pos h6] at HPP
      clear h0 h6 HSAME
      go_wp2_with (at_builtin; refine wpList_append_known rfl (.tmp 27) (.tmp 28) 31 31 (by rfl) _ _ _ (by rfl) (by rfl) HRA.out ?_)
      have HG : Hid ((insP l ps ⟨id, nm, rp⟩ (.slice oa rp.length ca)).length ≤ 901) := Lib.hid (by have := insP_len (l := l) (ps := ps) ⟨id, nm, rp⟩ (.slice oa rp.length ca) HLL.out; omega)
      go_loopw [12, 13, 14] (fun t12 t13 t14 wr => ∃ (i : Nat) (o : Option Addr) (c k : Nat), i ≤ ps.length ∧ k = bld l id i ∧ t12 = .slice o k c ∧ t13 = .bool (decide (pl l id < i)) ∧ t14 = .int .i64 (i : Int) ∧
        Hid (wr.ownsRow w.heap.size 63 3 (.slice o k c) k (CsS ((insP l ps ⟨id, nm, rp⟩ (.slice oa rp.length ca)).take k))) ∧ Hid (Below w.heap.size w wr) ∧ Hid (Own wr w.heap.size (.slice oa rp.length ca) rp)) (fun _ _ t14 _ => ps.length + 1 - (intOf t14).toNat)
      case atStart => exact ⟨0, none, 0, 0, by omega, by unfold bld; rw [if_neg (by omega)], rfl, by simp, rfl, Lib.hid (World.ownsRow_nil _ _ _ _), HBA, HOA⟩
      case round =>
        obtain ⟨i, o, c, k, hi, hk, rfl, rfl, rfl, HROW, HB, HOB⟩ := hrel
        have hl6 := HL.out
        have c0 := cell_of_one (H.out.below HB.out).cell
        by_cases hlt : i < ps.length
        · have j1 : (i : Int) < (ps.length : Int) := by omega
          have wi : IntKind.i64.wrap ((i : Int) + 1) = (i : Int) + 1 := IntWalk.i64_in _ (by omega)
          have hpx : ps[i]? = some ps[i] := List.getElem?_eq_getElem hlt
          have hgx : l[i]? = some (ps[i]).1 := by rw [← HLL.out, List.getElem?_map, hpx]; rfl
          obtain ⟨g, cg, hv, -, hgl, a0, a1, a2, oy, cy, hoy⟩ := H.out.rt.at hpx
          injection hv with hv _ hc'
          subst hv hc'
          generalize ps[i] = q at *
          obtain ⟨⟨xi, xn, xr⟩, vy⟩ := q
          dsimp only at hoy a0 a1 a2
          subst hoy
          have hbl := lt_of_block H.out.cell
          have hcl : ∀ W, Below w.heap.size w W → W.cell? ⟨b, 0, none⟩ = some (.slice (some ⟨g, 0, none⟩) ps.length cv) ∧ W.cell? ⟨g, i * 3, none⟩ = some (.int .u64 (xi : Int)) ∧ W.cell? ⟨g, i * 3 + 1, none⟩ = some (.int .u64 (xn : Int)) ∧ W.cell? ⟨g, i * 3 + 2, none⟩ = some (.slice oy xr.length cy) := fun W hW =>
            ⟨(hW.cell (p := ⟨b, 0, none⟩) hbl).trans (cell_of_one H.out.cell), (hW.cell (p := ⟨g, i * 3, none⟩) hgl).trans a0, (hW.cell (p := ⟨g, i * 3 + 1, none⟩) hgl).trans a1, (hW.cell (p := ⟨g, i * 3 + 2, none⟩) hgl).trans a2⟩
          have HCL := Lib.hid hcl
          have hk9 : k ≤ 902 := by rw [hk]; unfold bld; split <;> (try split) <;> omega
          have HK := Lib.hid hk
          have HPX := Lib.hid hpx
          have HGX := Lib.hid hgx
          have HPN : Hid (∀ s, l[pl l id]? = some s → ((seAt l id).isSome = true ↔ s.id = id) ∧ id ≤ s.id) := Lib.hid (fun s hs => by
            obtain ⟨s', h1, h2, h3⟩ := at_pl (l := l) (id := id) (List.getElem?_eq_some_iff.1 hs).1
            rw [hs] at h1
            injection h1 with h1
            rw [h1]
            exact ⟨h2, h3⟩)
          obtain ⟨d0, d1, d2, d3⟩ := hcl wr HB.out
          clear hpx hgx hcl a0 a1 a2 hbl hgl hk
          rcases Nat.lt_trichotomy i (pl l id) with hc3 | hc3 | hc3
          · have hdn : decide (pl l id < i) = false := decide_eq_false (by omega)
            rw [hdn]
            have hlow : xi < id := pl_lt l id i ⟨xi, xn, xr⟩ hc3 HGX.out
            have j2 : ¬ (id : Int) ≤ (xi : Int) := by omega
            have j3 : ((xi : Int) != (id : Int)) = true := by simp; omega
            have j3b : ((xi : Int) == (id : Int)) = false := beq_eq_false_iff_ne.2 (by omega)
            obtain ⟨e1, e2, e3⟩ := bld_lt (l := l) (ps := ps) ⟨id, nm, rp⟩ (.slice oa rp.length ca) HLL.out HPX.out hc3
            have hki : k = i := by rw [HK.out]; exact e1
            subst hki
            have HE2 := Lib.hid e2
            have HE3 := Lib.hid e3
            have HC3 := Lib.hid hc3
            clear e1 e2 e3 hc3 hlow hdn
            obtain ⟨o1, c1, w1, hr1, hrow1, hk1, hb1⟩ := more_row (w := w) (W := wr) (id := xi) (nm := xn) (k := xr.length) (ou := oy) (cu := cy) HROW.out (by omega) HB.out.size HB.out (Nat.le_refl _)
            have HRUN1 := Lib.hid hr1
            have HROW1 : Hid (w1.ownsRow w.heap.size 63 3 (.slice o1 (k + 1) c1) (k + 1) (CsS ((insP l ps ⟨id, nm, rp⟩ (.slice oa rp.length ca)).take k ++ [((⟨xi, xn, xr⟩ : Se), Value.slice oy xr.length cy)]))) := Lib.hid (by rw [CsS_append]; exact hrow1)
            have HB1 := Lib.hid hb1
            have HOB1 := Lib.hid (own_kept HOB.out hk1 (fun g hg e => own_ne2 HROW.out HOB.out (by decide) g e hg))
            clear hr1 hrow1 hk1 hb1
            clear c0
            go_wp2_with (at_builtin; refine wpList_append_known rfl (.tmp 70) (.tmp 78) 27 27 (by rfl) _ _ _ (by rfl) (by rfl) HRUN1.out ?_)
            go_roundw
            case rel => exact ⟨k + 1, o1, c1, k + 1, by omega, HE2.out.symm, rfl, by rw [show decide (pl l id < k + 1) = false from decide_eq_false (by have := HC3.out; omega)], by go_num, by rw [HE3.out]; exact HROW1, HB1, HOB1⟩
            case measure => simp [intOf]; omega
          · have hdn : decide (pl l id < i) = false := decide_eq_false (by omega)
            rw [hdn]
            obtain ⟨hp1, hp2⟩ := HPN.out ⟨xi, xn, xr⟩ (by rw [← hc3]; exact HGX.out)
            have hp2' : id ≤ xi := hp2
            have j2 : (id : Int) ≤ (xi : Int) := by omega
            obtain ⟨e1, e2, e3, e4⟩ := bld_at (l := l) (ps := ps) ⟨id, nm, rp⟩ (.slice oa rp.length ca) (q := ((⟨xi, xn, xr⟩ : Se), Value.slice oy xr.length cy)) (by show ps[pl l id]? = _; rw [← hc3]; exact HPX.out)
            have e1' : bld l id (pl l id) = pl l id := e1
            have hki : k = i := by rw [HK.out, hc3]; exact e1'
            subst hki
            have HE2 : Hid ((insP l ps ⟨id, nm, rp⟩ (.slice oa rp.length ca)).take (k + 1) = (insP l ps ⟨id, nm, rp⟩ (.slice oa rp.length ca)).take k ++ [((⟨id, nm, rp⟩ : Se), Value.slice oa rp.length ca)]) := Lib.hid (by have := e2; rw [show pl l (⟨id, nm, rp⟩ : Se).id = k from hc3.symm] at this; exact this)
            have HC3 := Lib.hid hc3
            have HE3 : Hid ((seAt l id).isSome = true → bld l id (k + 1) = k + 1) := Lib.hid (by have := e3; rw [show pl l (⟨id, nm, rp⟩ : Se).id = k from hc3.symm] at this; exact this)
            have HE4 : Hid ((seAt l id).isSome = false → bld l id (k + 1) = k + 2 ∧ (insP l ps ⟨id, nm, rp⟩ (.slice oa rp.length ca)).take (k + 2) = (insP l ps ⟨id, nm, rp⟩ (.slice oa rp.length ca)).take k ++ [((⟨id, nm, rp⟩ : Se), Value.slice oa rp.length ca)] ++ [((⟨xi, xn, xr⟩ : Se), Value.slice oy xr.length cy)]) := Lib.hid (by have := e4; rw [show pl l (⟨id, nm, rp⟩ : Se).id = k from hc3.symm] at this; exact this)
            clear e1 e1' e2 e3 e4 hc3 hdn
            obtain ⟨o1, c1, w1, hr1, hrow1, hk1, hb1⟩ := more_row (w := w) (W := wr) (id := id) (nm := nm) (k := rp.length) (ou := oa) (cu := ca) HROW.out (by omega) HB.out.size HB.out (Nat.le_refl _)
            have HRUN1 := Lib.hid hr1
            have HROW1 : Hid (w1.ownsRow w.heap.size 63 3 (.slice o1 (k + 1) c1) (k + 1) (CsS ((insP l ps ⟨id, nm, rp⟩ (.slice oa rp.length ca)).take k ++ [((⟨id, nm, rp⟩ : Se), Value.slice oa rp.length ca)]))) := Lib.hid (by rw [CsS_append]; exact hrow1)
            have HB1 := Lib.hid hb1
            have HOB1 := Lib.hid (own_kept HOB.out hk1 (fun g hg e => own_ne2 HROW.out HOB.out (by decide) g e hg))
            clear hr1 hrow1 hk1 hb1
            obtain ⟨f0, f1, f2, f3⟩ := HCL.out w1 HB1.out
            by_cases hid : xi = id
            · have j3 : ((xi : Int) != (id : Int)) = false := by simp [hid]
              have j3b : ((xi : Int) == (id : Int)) = true := by simp [hid]
              have hE := HE3.out (hp1.2 hid)
              have HE5 := Lib.hid hE
              clear hp1 hp2 hp2' hid hE c0
              go_wp2_with (at_builtin; refine wpList_append_known rfl (.tmp 53) (.tmp 58) 27 27 (by rfl) _ _ _ (by rfl) (by rfl) HRUN1.out ?_)
              go_roundw
              case rel => exact ⟨k + 1, o1, c1, k + 1, by omega, HE5.out.symm, rfl, by rw [show decide (pl l id < k + 1) = true from decide_eq_true (by have := HC3.out; omega)], by go_num, by rw [HE2.out]; exact HROW1, HB1, HOB1⟩
              case measure => simp [intOf]; omega
            · have j3 : ((xi : Int) != (id : Int)) = true := by simp; omega
              have j3b : ((xi : Int) == (id : Int)) = false := beq_eq_false_iff_ne.2 (by omega)
              obtain ⟨hE, hF⟩ := HE4.out (by rcases hq : (seAt l id).isSome with _ | _; rfl; exact absurd (hp1.1 hq) hid)
              have HE5 := Lib.hid hE
              have HE6 := Lib.hid hF
              clear hp1 hp2 hp2' hid hE hF c0
              obtain ⟨o2, c2, w2, hr2, hrow2, hk2, hb2⟩ := more_row (w := w) (W := w1) (id := xi) (nm := xn) (k := xr.length) (ou := oy) (cu := cy) HROW1.out (by omega) HB1.out.size HB1.out (Nat.le_refl _)
              have HRUN2 := Lib.hid hr2
              have HROW2 : Hid (w2.ownsRow w.heap.size 63 3 (.slice o2 (k + 1 + 1) c2) (k + 1 + 1) (CsS (((insP l ps ⟨id, nm, rp⟩ (.slice oa rp.length ca)).take k ++ [((⟨id, nm, rp⟩ : Se), Value.slice oa rp.length ca)]) ++ [((⟨xi, xn, xr⟩ : Se), Value.slice oy xr.length cy)]))) := Lib.hid (by rw [CsS_append]; exact hrow2)
              have HB2 := Lib.hid hb2
              have HOB2 := Lib.hid (own_kept HOB1.out hk2 (fun g hg e => own_ne2 HROW1.out HOB1.out (by decide) g e hg))
              clear hr2 hrow2 hk2 hb2
              go_wp2_with (first | (at_builtin; refine wpList_append_known rfl (.tmp 53) (.tmp 58) 27 27 (by rfl) _ _ _ (by rfl) (by rfl) HRUN1.out ?_) | (at_builtin; refine wpList_append_known rfl (.tmp 70) (.tmp 78) 27 27 (by rfl) _ _ _ (by rfl) (by rfl) HRUN2.out ?_))
              go_roundw
              case rel => exact ⟨k + 1, o2, c2, k + 2, by omega, HE5.out.symm, rfl, by rw [show decide (pl l id < k + 1) = true from decide_eq_true (by have := HC3.out; omega)], by go_num, by rw [HE6.out]; exact HROW2, HB2, HOB2⟩
              case measure => simp [intOf]; omega
          · have hdn : decide (pl l id < i) = true := decide_eq_true hc3
            rw [hdn]
            obtain ⟨s0, hs0, -, hge⟩ := at_pl (l := l) (id := id) (by have := (List.getElem?_eq_some_iff.1 HGX.out).1; omega)
            have hhigh : s0.id < xi := HR.out (pl l id) i s0 ⟨xi, xn, xr⟩ hc3 hs0 HGX.out
            have j3 : ((xi : Int) != (id : Int)) = true := by simp; omega
            have j3b : ((xi : Int) == (id : Int)) = false := beq_eq_false_iff_ne.2 (by omega)
            obtain ⟨e1, e2⟩ := bld_gt (l := l) (ps := ps) ⟨id, nm, rp⟩ (.slice oa rp.length ca) HPX.out hc3
            have e1' : bld l id (i + 1) = bld l id i + 1 := e1
            have e2' : (insP l ps ⟨id, nm, rp⟩ (.slice oa rp.length ca)).take (bld l id i + 1) = (insP l ps ⟨id, nm, rp⟩ (.slice oa rp.length ca)).take (bld l id i) ++ [((⟨xi, xn, xr⟩ : Se), Value.slice oy xr.length cy)] := e2
            rw [← HK.out] at e1' e2'
            have HE2 := Lib.hid e1'
            have HE3 := Lib.hid e2'
            have HC3 := Lib.hid hc3
            clear e1 e2 e1' e2' hc3 hs0 hge hhigh hdn
            obtain ⟨o1, c1, w1, hr1, hrow1, hk1, hb1⟩ := more_row (w := w) (W := wr) (id := xi) (nm := xn) (k := xr.length) (ou := oy) (cu := cy) HROW.out (by omega) HB.out.size HB.out (Nat.le_refl _)
            have HRUN1 := Lib.hid hr1
            have HROW1 : Hid (w1.ownsRow w.heap.size 63 3 (.slice o1 (k + 1) c1) (k + 1) (CsS ((insP l ps ⟨id, nm, rp⟩ (.slice oa rp.length ca)).take k ++ [((⟨xi, xn, xr⟩ : Se), Value.slice oy xr.length cy)]))) := Lib.hid (by rw [CsS_append]; exact hrow1)
            have HB1 := Lib.hid hb1
            have HOB1 := Lib.hid (own_kept HOB.out hk1 (fun g hg e => own_ne2 HROW.out HOB.out (by decide) g e hg))
            clear hr1 hrow1 hk1 hb1
            clear c0
            go_wp2_with (at_builtin; refine wpList_append_known rfl (.tmp 70) (.tmp 78) 27 27 (by rfl) _ _ _ (by rfl) (by rfl) HRUN1.out ?_)
            go_roundw
            case rel => exact ⟨i + 1, o1, c1, k + 1, by omega, HE2.out.symm, rfl, by rw [show decide (pl l id < i + 1) = true from decide_eq_true (by have := HC3.out; omega)], by go_num, by rw [HE3.out]; exact HROW1, HB1, HOB1⟩
            case measure => simp [intOf]; omega
        · have j1 : ¬ (i : Int) < (ps.length : Int) := by omega
          have hie : i = ps.length := by omega
          subst hie
          obtain ⟨e1, e2⟩ := bld_end (l := l) (ps := ps) ⟨id, nm, rp⟩ (.slice oa rp.length ca) HLL.out
          have e1' : pl l id < ps.length → (insP l ps ⟨id, nm, rp⟩ (.slice oa rp.length ca)).take k = insP l ps ⟨id, nm, rp⟩ (.slice oa rp.length ca) := by rw [hk]; exact e1
          have e2' : ¬ pl l id < ps.length → (insP l ps ⟨id, nm, rp⟩ (.slice oa rp.length ca)).take k ++ [((⟨id, nm, rp⟩ : Se), Value.slice oa rp.length ca)] = insP l ps ⟨id, nm, rp⟩ (.slice oa rp.length ca) := by rw [hk]; exact e2
          have hk9 : k ≤ 902 := by rw [hk]; unfold bld; split <;> (try split) <;> omega
          have hfin : ∀ (W : World) (o' : Option Addr) (c' k' : Nat), Below w.heap.size w W → Own W w.heap.size (.slice oa rp.length ca) rp → W.ownsRow w.heap.size 63 3 (.slice o' k' c') k' (CsS (insP l ps ⟨id, nm, rp⟩ (.slice oa rp.length ca))) →
              RPutP w b base (0, insS l ⟨id, nm, rp⟩) (.returned (.int .i64 0)) (W.setCell ⟨b, 0, none⟩ (.slice o' k' c')) := by
            intro W o' c' k' hW hob hrow
            have hlen : k' = (insP l ps ⟨id, nm, rp⟩ (.slice oa rp.length ca)).length := by
              have := hrow.1
              rw [CsS_length] at this
              omega
            subst hlen
            have hbl := lt_of_block H.out.cell
            have hcell := (hW.block b hbl).trans H.out.cell
            have hkb : Kept (fun k => k = b) W (W.setCell ⟨b, 0, none⟩ (.slice o' (insP l ps ⟨id, nm, rp⟩ (.slice oa rp.length ca)).length c')) := (Kept.refl (fun k => k = b) W).setCell (p := ⟨b, 0, none⟩) (.inl rfl) _
            refine ⟨rfl, _, insP l ps ⟨id, nm, rp⟩ (.slice oa rp.length ca), ⟨one_setCell hcell, ⟨own_kept (own_base hrow hbase) hkb (fun g hg e => by have := (hrow.lt g hg).1; omega), fun q hq => ?_⟩⟩, insP_map _ _ HLL.out, (kept_of_below hW).trans hkb⟩
            have hq' : q ∈ ps ∨ q = ((⟨id, nm, rp⟩ : Se), Value.slice oa rp.length ca) := by
              unfold insP at hq
              split at hq
              · exact List.mem_or_eq_of_mem_set hq
              · rcases List.mem_append.1 hq with hq | hq
                · exact .inl (List.mem_of_mem_take hq)
                · rcases List.mem_cons.1 hq with hq | hq
                  · exact .inr hq
                  · exact .inl (List.mem_of_mem_drop hq)
            rcases hq' with hq | rfl
            · have ho := own_kept (H.out.own.cells q hq) (kept_of_below (S := fun _ => False) hW) (fun _ _ h => h)
              exact own_kept ho hkb (fun g hg e => own_ne ho hcell (by decide) (e ▸ hg))
            · exact own_kept (own_base hob hbase) hkb (fun g hg e => by have := (hob.lt g hg).1; omega)
          have HFIN := Lib.hid hfin
          have cf := free_of_one (H.out.below HB.out).cell
          have cl := lt_of_block (H.out.below HB.out).cell
          by_cases hd : pl l id < ps.length
          · have hdn : decide (pl l id < ps.length) = true := decide_eq_true hd
            rw [hdn]
            have HR2 : Hid (wr.ownsRow w.heap.size 63 3 (.slice o k c) k (CsS (insP l ps ⟨id, nm, rp⟩ (.slice oa rp.length ca)))) := Lib.hid (by have := HROW.out; rw [e1' hd] at this; exact this)
            clear e1 e2 e1' e2' hd hdn hk hfin hlt hi HROW
            go_wp2_with fail
            go_ret
            rw [HPP.out]
            exact HFIN.out _ _ _ _ HB.out HOB.out HR2.out
          · have hdn : decide (pl l id < ps.length) = false := decide_eq_false hd
            rw [hdn]
            have HE := Lib.hid (e2' hd)
            clear e1 e2 e1' e2' hd hdn hk hfin hlt hi
            obtain ⟨o1, c1, w1, hr1, hrow1, hk1, hb1⟩ := more_row (w := w) (W := wr) (id := id) (nm := nm) (k := rp.length) (ou := oa) (cu := ca) HROW.out (by omega) HB.out.size HB.out (Nat.le_refl _)
            have HRUN1 := Lib.hid hr1
            have HROW1 : Hid (w1.ownsRow w.heap.size 63 3 (.slice o1 (k + 1) c1) (k + 1) (CsS ((insP l ps ⟨id, nm, rp⟩ (.slice oa rp.length ca)).take k ++ [((⟨id, nm, rp⟩ : Se), Value.slice oa rp.length ca)]))) := Lib.hid (by rw [CsS_append]; exact hrow1)
            have HB1 := Lib.hid hb1
            have HOB1 := Lib.hid (own_kept HOB.out hk1 (fun g hg e => own_ne2 HROW.out HOB.out (by decide) g e hg))
            clear hr1 hrow1 hk1 hb1
            have cell1 := (H.out.below HB1.out).cell
            have f0 := cell_of_one cell1
            have f1 := free_of_one cell1
            have f2 := lt_of_block cell1
            rw [HE.out] at HROW1
            clear cf cl cell1
            go_wp2_with (at_builtin; refine wpList_append_known rfl (.tmp 82) (.tmp 87) 27 27 (by rfl) _ _ _ (by rfl) (by rfl) HRUN1.out ?_)
            go_ret
            rw [HPP.out]
            exact HFIN.out _ _ _ _ HB1.out HOB1.out HROW1.out
    · have i2 : (code == 6) = false := by simp [h6]
      have i3 : (code != 6) = true := by simp [h6]
      rw [if_neg h6] at HPP
      clear h0 h6
      go_wp2_with fail
      go_ret
      rw [HPP.out]
      exact HSAME.out.2 code
end Go.Proofs.Ytlfnblgpekilnaa
