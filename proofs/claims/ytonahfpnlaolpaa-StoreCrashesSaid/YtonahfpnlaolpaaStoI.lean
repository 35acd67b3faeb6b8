/- Save. -/
import Derived.Test.YtonahfpnlaolpaaStoH
namespace Go.Proofs.Ytonahfpnlaolpaa
open Go.RowKit OctM

/-- What Save leaves. -/
def SvP (w : World) (R : Nat → Prop) (St D T : Nat) (r : Int × Ss) (e : Ending) (w' : World) : Prop :=
  e = .returned (.int .i64 r.1) ∧ SAt w' (Fr R w w') St D T r.2 ∧ Kept R w w'

theorem SAx.low {w : World} {R X : Nat → Prop} {v : Value} {St D T : Nat} {s : Ss} (h : SAx w R X v St D T s) : ∀ k, X k → k < w.heap.size := fun k hk => h.lt k (h.sX k hk)

theorem own_form0 {w : World} {base : Nat} {v : Value} {l : List UInt8} (h : Own w base v l) (hl : 0 < l.length) :
    ∃ g c, v = .slice (some ⟨g, 0, none⟩) l.length c ∧ base ≤ g ∧ g < w.heap.size ∧ l.length ≤ c ∧ ∀ j u, l[j]? = some u → w.cell? ⟨g, j, none⟩ = some (B u) := by
  have hc := fun g => World.ownsRow.cells h (g := g)
  have hlt := h.lt
  rcases h.2 with ⟨_, hn⟩ | ⟨g, cap, cur, rfl, hb, hg, hn, _⟩
  · omega
  · refine ⟨g, cap, rfl, hb, (hlt g rfl).2, hn, fun j u hu => ?_⟩
    have := hc g rfl j (B u) (by simp [Bs, hu])
    rw [add_none] at this
    simpa using this

theorem six_set {W : World} {b : Nat} {x0 x1 x2 x3 x4 x5 : Value} {t : TypeId} (h : W.heap[b]? = some (.cells #[x0, x1, x2, x3, x4, x5] t (0, 0))) (u v : Value) :
    ((W.setCell ⟨b, 1, none⟩ u).setCell ⟨b, 2, none⟩ v).heap[b]? = some (.cells #[x0, u, v, x3, x4, x5] t (0, 0)) := by
  simp [World.setCell, Array.getElem?_modify, h]
theorem six_set3 {W : World} {b : Nat} {x0 x1 x2 x3 x4 x5 : Value} {t : TypeId} (h : W.heap[b]? = some (.cells #[x0, x1, x2, x3, x4, x5] t (0, 0))) (u v z : Value) :
    (((W.setCell ⟨b, 3, none⟩ u).setCell ⟨b, 4, none⟩ v).setCell ⟨b, 5, none⟩ z).heap[b]? = some (.cells #[x0, x1, x2, u, v, z] t (0, 0)) := by
  simp [World.setCell, Array.getElem?_modify, h]

set_option maxHeartbeats 8000000 in
set_option maxRecDepth 100000 in
theorem save_any (n : Sn) (x : Value) (w : World) {R : Nat → Prop} {St D T : Nat} {s : Ss} (h : SAt w R St D T s) (hx : ∀ w', Kept R w w' → Rd w' x n.dat) (h1 : n.ix < 18446744073709551616) (h2 : n.tm < 18446744073709551616) (hl : n.dat.length ≤ 100000000) (hops : s.d.ops ≤ 900000) :
    Calls Try.prog 22 #[.pointer (some ⟨St, 0, none⟩), snV n x] w (SvP w R St D T (saveS s n)) := by
  obtain ⟨o, c, rfl⟩ : ∃ o c, x = .slice o n.dat.length c := by
    rcases hx w (Kept.refl _ _) with ⟨rfl, h⟩ | ⟨_, c, rfl, _⟩
    · rw [h]; exact ⟨_, _, rfl⟩
    · exact ⟨_, _, rfl⟩
  have hsize := h
  obtain ⟨X, v, h⟩ := h
  obtain ⟨ov, cv, rfl, -, -⟩ := own_slice h.own
  have hb0 : Below w.heap.size w (w.alloc (.cells #[.int .u64 (n.ix : Int), .int .u64 (n.tm : Int), .slice o n.dat.length c] 55)) := (Below.refl _ _).alloc (Nat.le_refl _) _
  have hz0 := heap_alloc_new w (.cells #[.int .u64 (n.ix : Int), .int .u64 (n.tm : Int), .slice o n.dat.length c] 55)
  have hs0 : (w.alloc (.cells #[.int .u64 (n.ix : Int), .int .u64 (n.tm : Int), .slice o n.dat.length c] 55)).heap.size = w.heap.size + 1 := by simp
  have hcell0 := (hb0.block St (lt_of_block h.cell)).trans h.cell
  obtain ⟨c0, c1, c2, c3, c4, c5, hSt⟩ := six hcell0
  obtain ⟨z0, z1, z2, -, -, -, zl⟩ := kept3 hz0
  have hlim := h.lim
  have hfit := h.fits.ix
  have hsame : ∀ (w' : World), Below w.heap.size w w' → SAt w' (Fr R w w') St D T s := fun w' hb => by
    obtain ⟨X, v, h'⟩ := hsize
    refine SAt.block (R := R) ⟨X, v, h'⟩ (fun g hg => hb.block g (h'.lt g hg)) hb.size (fun _ h => .inl h) (fun k hk => ?_)
    rcases hk with hk | hk
    · have := h'.lt k hk; have := hb.size; omega
    · exact hk.2
  have HSAME := Lib.hid hsame
  have HB0 := Lib.hid hb0
  have HC0 := Lib.hid hcell0
  have HX := Lib.hid hx
  have HH := Lib.hid h
  have HZ0 := Lib.hid hz0
  clear h hsize hb0 hz0 hcell0 hx hsame
  unfold snV at *
  go_enter Try.func22, Try.ntmps22
  go_upto_region 1 with fail
  generalize w.alloc (.cells #[.int .u64 (n.ix : Int), .int .u64 (n.tm : Int), .slice o n.dat.length c] 55) = W at *
  by_cases hix : n.ix ≤ s.sn.ix
  · have hd : (n.ix : Int) ≤ (s.sn.ix : Int) := by omega
    have HE : Hid (saveS s n = (16, s)) := if_pos hix
    clear hix
    go_wp2_with fail
    go_region
    all_goals go_wp2_with fail
    all_goals go_ret
    all_goals
      rw [HE.out]
      exact ⟨rfl, HSAME.out _ HB0.out.drew, kept_of_below HB0.out.drew⟩
  · have hd : ¬ (n.ix : Int) ≤ (s.sn.ix : Int) := by omega
    have HE : Hid (saveS s n = if s.d.most < (snB n).length then (13, s) else
      if (wrS s.d s.sp (snB n)).1 ≠ 0 then ((wrS s.d s.sp (snB n)).1, { s with d := (wrS s.d s.sp (snB n)).2 }) else (0, ⟨(wrS s.d s.sp (snB n)).2, s.sp, s.now, n⟩)) := if_neg hix
    clear hix
    go_wp2_with fail
    go_region
    have HB1 := Lib.hid HB0.out.drew
    have HC1 := Lib.hid (show W.drew.heap[St]? = _ from HC0.out)
    have HZ1 := Lib.hid (show W.drew.heap[w.heap.size]? = _ from HZ0.out)
    have hs1 : W.drew.heap.size = w.heap.size + 1 := hs0
    generalize W.drew = W1 at *
    clear c0 c1 c2 c3 c4 c5 z0 z1 z2 HB0 HC0 HZ0 hs0 hSt zl
    have H1 := Lib.hid (toBytes_any n (.slice o n.dat.length c) W1 (HX.out _ (kept_of_below HB1.out)) h1 h2 hl)
    unfold snV at H1
    obtain ⟨c0, c1, c2, c3, c4, c5, hSt⟩ := six HC1.out
    obtain ⟨z0, z1, z2, -, -, -, zl⟩ := kept3 HZ1.out
    go_wp2_with fail
    refine H1.out.mono ?_
    rintro e w2 ⟨p, rfl, ho2, hb2⟩
    have hq0 : 0 < (snB n).length := by have := snB_length n; omega
    have hqm := (snB_bound n).2
    obtain ⟨g, cap, rfl, hg0, hgl, hcap, hqs⟩ := own_form0 ho2 hq0
    have HB2 := Lib.hid (HB1.out.trans (hb2.mono (by omega)))
    have HC2 := Lib.hid ((hb2.block St hSt).trans HC1.out)
    have HZ2 := Lib.hid ((hb2.block w.heap.size (by omega)).trans HZ1.out)
    have HQS := Lib.hid hqs
    have hs2 := hb2.size
    clear ho2 hb2 hqs c0 c1 c2 c3 c4 c5 z0 z1 z2 HC1 HZ1 hSt zl H1
    obtain ⟨c0, c1, c2, c3, c4, c5, hSt⟩ := six HC2.out
    obtain ⟨z0, z1, z2, -, -, -, zl⟩ := kept3 HZ2.out
    have hdt2 := HH.out.dt.block (X' := X) (fun g hg _ => HB2.out.block g (HH.out.low g hg)) (fun _ h => h)
    have HM := Lib.hid (dt_most w2 hdt2)
    have HDT2 := Lib.hid hdt2
    clear hdt2
    generalize hQ : snB n = q at *
    go_wp2_with fail
    refine HM.out.mono ?_
    rintro e w' ⟨rfl, rfl⟩
    by_cases hful : s.d.most < q.length
    · have hdf : (s.d.most : Int) < (q.length : Int) := by omega
      have HE2 : Hid (saveS s n = (13, s)) := by
        have := HE.out
        rw [if_pos hful] at this
        exact this
      clear HE
      go_wp2_with fail
      go_ret
      rw [HE2.out]
      exact ⟨rfl, HSAME.out _ HB2.out, kept_of_below HB2.out⟩
    · have hdf : ¬ (s.d.most : Int) < (q.length : Int) := by omega
      have HE2 : Hid (saveS s n = if (wrS s.d s.sp q).1 ≠ 0 then ((wrS s.d s.sp q).1, { s with d := (wrS s.d s.sp q).2 }) else (0, ⟨(wrS s.d s.sp q).2, s.sp, s.now, n⟩)) := by
        have := HE.out
        rw [if_neg hful] at this
        exact this
      have hmost : s.d.most ≤ 1048576 := by
        obtain ⟨vn, vd, h3, -⟩ := HDT2.out
        exact h3.lim.2.1
      have hgX : ¬ X g := fun h => by have := HH.out.low g h; omega
      have HW := Lib.hid (swrite_any St D T s.sp g cap q w2 HDT2.out (fun k hk => by have := HH.out.low k hk; omega) ⟨c0, c2⟩ HH.out.nSt HQS.out hgX hq0 (by omega) hcap hops hlim.2)
      clear HE HM
      go_wp2_with fail
      refine HW.out.mono ?_
      rintro e w3 ⟨rfl, hd3, hk3⟩
      have HC3 := Lib.hid ((hk3.block St hSt HH.out.nSt).trans HC2.out)
      have HZ3 := Lib.hid ((hk3.block w.heap.size zl (fun h => by have := HH.out.low _ h; omega)).trans HZ2.out)
      have hkw : Kept X w w3 := (kept_of_below HB2.out).trans hk3
      have hown3 := own_kept HH.out.own hkw (fun k hk => (HH.out.rv k hk).2.1)
      have hs3 := hk3.size
      have HKW := Lib.hid hkw
      have HD3 := Lib.hid hd3
      have HO3 := Lib.hid hown3
      have hrx := HX.out w3 (hkw.weak (fun k _ hk => HH.out.sX k hk))
      have HRX := Lib.hid hrx
      clear hd3 hk3 c0 c1 c2 c3 c4 c5 z0 z1 z2 hSt zl hkw hown3 HW HDT2 HQS HC2 HZ2 hrx
      obtain ⟨c0, c1, c2, c3, c4, c5, hSt⟩ := six HC3.out
      obtain ⟨z0, z1, z2, -, -, -, zl⟩ := kept3 HZ3.out
      by_cases hz : (wrS s.d s.sp q).1 = 0
      · have HE3 : Hid (saveS s n = (0, ⟨(wrS s.d s.sp q).2, s.sp, s.now, n⟩)) := by
          have := HE2.out
          rw [if_neg (by rw [hz]; simp)] at this
          exact this
        have hz1 : ((wrS s.d s.sp q).1 != 0) = false := by simp [hz]
        have hz2 : ((wrS s.d s.sp q).1 == 0) = true := by simp [hz]
        generalize (wrS s.d s.sp q) = r at *
        have f1 := free_of HC3.out 1
        have f2 := free_of HC3.out 2
        go_wp2_with fail
        go_region
        have HC4 := Lib.hid (show (((w3.setCell ⟨St, 1, none⟩ (.int .i64 (s.sp : Int))).setCell ⟨St, 2, none⟩ (.int .i64 (s.now : Int))).drew).heap[St]? = _ from six_set HC3.out (.int .i64 (s.sp : Int)) (.int .i64 (s.now : Int)))
        have hk4 : Kept (fun k => k = St) w3 (((w3.setCell ⟨St, 1, none⟩ (.int .i64 (s.sp : Int))).setCell ⟨St, 2, none⟩ (.int .i64 (s.now : Int))).drew) := (((Kept.refl (fun k => k = St) w3).setCell (p := ⟨St, 1, none⟩) (.inl rfl) _).setCell (p := ⟨St, 2, none⟩) (.inl rfl) _).drew
        have hs4 : (((w3.setCell ⟨St, 1, none⟩ (.int .i64 (s.sp : Int))).setCell ⟨St, 2, none⟩ (.int .i64 (s.now : Int))).drew).heap.size = w3.heap.size := by simp [World.setCell]
        generalize ((w3.setCell ⟨St, 1, none⟩ (.int .i64 (s.sp : Int))).setCell ⟨St, 2, none⟩ (.int .i64 (s.now : Int))).drew = w4 at *
        have HZ4 := Lib.hid ((hk4.block w.heap.size zl (by have := HH.out.lt St HH.out.rSt; omega)).trans HZ3.out)
        have HKR4 := Lib.hid ((HKW.out.weak (T := R) (fun k _ hk => HH.out.sX k hk)).trans (hk4.weak (T := R) (fun k _ hk => by rw [hk]; exact HH.out.rSt)))
        have hd4 := HD3.out.block (w' := w4) (X' := Fr X w2 w3) (fun g hg hl => hk4.block g hl (fun e => by
          subst e
          rcases hg with hg | hg
          · exact HH.out.nSt hg
          · have := HH.out.lt g HH.out.rSt; omega)) (fun _ h => h)
        have HD4 := Lib.hid hd4
        have H5 := Lib.hid (sfresh_any n (.slice o n.dat.length c) w4 (HX.out w4 HKR4.out) hl)
        unfold snV at H5
        clear hk4 c0 c1 c2 c3 c4 c5 f1 f2 z0 z1 z2 hSt zl HC3 HZ3 HD3 hd4 HRX HO3
        obtain ⟨z0, z1, z2, -, -, -, zl⟩ := kept3 HZ4.out
        go_wp2_with fail
        refine H5.out.mono ?_
        rintro e w5 ⟨v5, rfl, ho5, hb5⟩
        obtain ⟨o5, cap5, rfl, -, -⟩ := own_slice ho5
        have hSt4 := lt_of_block HC4.out
        have HC5 := Lib.hid ((hb5.block St hSt4).trans HC4.out)
        have HD5 := Lib.hid (HD4.out.block (X' := Fr X w2 w3) (fun g _ hl => hb5.block g hl) (fun _ h => h))
        have HK5 := Lib.hid (HKR4.out.trans (kept_of_below hb5))
        have HO5 := Lib.hid ho5
        have hs5 := hb5.size
        obtain ⟨c0, c1, c2, c3, c4, c5, hSt⟩ := six HC5.out
        have f3 := free_of HC5.out 3
        have f4 := free_of HC5.out 4
        have f5 := free_of HC5.out 5
        clear ho5 hb5 H5 z0 z1 z2 zl
        unfold snV
        go_wp2_with fail
        go_ret
        rw [HE3.out]
        have hvS : ∀ k, (Value.slice o5 n.dat.length cap5).ownBlock = some k → w4.heap.size ≤ k ∧ k < w5.heap.size := fun k hk => HO5.out.lt k hk
        have hne : (Value.slice o5 n.dat.length cap5).ownBlock ≠ some St := fun e => by have := (hvS St e).1; omega
        have hsz6 : (((w5.setCell ⟨St, 3, none⟩ (.int .u64 (n.ix : Int))).setCell ⟨St, 4, none⟩ (.int .u64 (n.tm : Int))).setCell ⟨St, 5, none⟩ (.slice o5 n.dat.length cap5)).heap.size = w5.heap.size := by simp [World.setCell]
        have hw0 := HH.out.lt St HH.out.rSt
        refine ⟨rfl, ⟨Fr X w2 w3, .slice o5 n.dat.length cap5, HD5.out.block (fun g hg _ => ?_) (fun _ h => h), six_set3 HC5.out _ _ _, own_base (ownsRow_setCell_other (ownsRow_setCell_other (ownsRow_setCell_other HO5.out hne _) hne _) hne _) (Nat.zero_le _), fun k hk => ?_, .inl HH.out.rSt, fun hk => ?_, fun k hk => ⟨.inr ⟨?_, ?_⟩, fun h => ?_, fun e => hne (by rw [hk, e])⟩, fun k hk => ?_, ⟨h1, h2, ?_⟩, ⟨HH.out.lim.2, HH.out.lim.1⟩⟩, ?_⟩
        · have hg2 : g ≠ St := fun e => by
            subst e
            rcases hg with hg | hg
            · exact HH.out.nSt hg
            · omega
          exact (heap_setCell_other _ _ _ _ hg2).trans ((heap_setCell_other _ _ _ _ hg2).trans (heap_setCell_other _ _ _ _ hg2))
        · rcases hk with hk | hk
          · exact .inl (HH.out.sX k hk)
          · exact .inr (by omega)
        · rcases hk with hk | hk
          · exact HH.out.nSt hk
          · omega
        · have := (hvS k hk).1; omega
        · have := (hvS k hk).2; omega
        · have := (hvS k hk).1
          rcases h with h | h
          · have := HH.out.low k h; omega
          · omega
        · rcases hk with hk | hk
          · have := HH.out.lt k hk; omega
          · exact hk.2
        · have := (snB_bound n).1; rw [hQ] at this; show n.dat.length ≤ 1048576; omega
        · exact ((HK5.out.setCell (p := ⟨St, 3, none⟩) (.inl HH.out.rSt) _).setCell (p := ⟨St, 4, none⟩) (.inl HH.out.rSt) _).setCell (p := ⟨St, 5, none⟩) (.inl HH.out.rSt) _
      · have HE3 : Hid (saveS s n = ((wrS s.d s.sp q).1, { s with d := (wrS s.d s.sp q).2 })) := by
          have := HE2.out
          rw [if_pos hz] at this
          exact this
        have hz1 : ((wrS s.d s.sp q).1 != 0) = true := by simp [hz]
        have hz2 : ((wrS s.d s.sp q).1 == 0) = false := by simp [hz]
        generalize (wrS s.d s.sp q) = r at *
        go_wp2_with fail
        go_ret
        rw [HE3.out]
        refine ⟨rfl, ⟨Fr X w2 w3, _, HD3.out, HC3.out, HO3.out, fun k hk => ?_, .inl HH.out.rSt, fun hk => ?_, fun k hk => ⟨.inl (HH.out.rv k hk).1, fun h => ?_, (HH.out.rv k hk).2.2⟩, fun k hk => ?_, HH.out.fits, HH.out.lim⟩, HKW.out.weak (fun k _ hk => HH.out.sX k hk)⟩
        · rcases hk with hk | hk
          · exact .inl (HH.out.sX k hk)
          · exact .inr (by omega)
        · rcases hk with hk | hk
          · exact HH.out.nSt hk
          · have := HH.out.lt St HH.out.rSt; omega
        · rcases h with h | h
          · exact (HH.out.rv k hk).2.1 h
          · have := HH.out.lt k (HH.out.rv k hk).1; omega
        · rcases hk with hk | hk
          · have := HH.out.lt k hk; omega
          · exact hk.2
end Go.Proofs.Ytonahfpnlaolpaa
