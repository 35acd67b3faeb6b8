/- Sessions: Load. -/
import Derived.Test.YtlfnblgpekilnaaSesH
namespace Go.Proofs.Ytlfnblgpekilnaa
open Go.RowKit OctM

theorem TA.kept {S : Nat → Prop} {w w' : World} {b base : Nat} {v : Value} {l : List Se} (h : TA w b base v l) (hk : Kept S w w') (hb : base ≤ b) (hS : ∀ k, base ≤ k → ¬ S k) : TA w' b base v l := by
  obtain ⟨ps, h1, h2⟩ := h
  exact ⟨ps, h1, (hk.block b (lt_of_block h2.cell) (hS b hb)).trans h2.cell, h2.own.kept hk (fun g hg => hS g (h2.own.row.lt g hg).1) (fun p hp g hg => hS g ((h2.own.cells p hp).lt g hg).1)⟩

/-- What Load leaves. -/
def LdP (w : World) (p : List UInt8) (e : Ending) (w' : World) : Prop :=
  Below w.heap.size w w' ∧ match loadS p with
    | none => e = .returned (.tuple #[.pointer none, .int .i64 3])
    | some t => ∃ b v, e = .returned (.tuple #[.pointer (some ⟨b, 0, none⟩), .int .i64 0]) ∧ TA w' b w.heap.size v t ∧ w.heap.size ≤ b

theorem ldp_none {w w' : World} {p : List UInt8} (h : loadS p = none) (hb : Below w.heap.size w w') : LdP w p (.returned (.tuple #[.pointer none, .int .i64 3])) w' := by
  refine ⟨hb, ?_⟩
  rw [h]
theorem ldp_some {w w' : World} {p : List UInt8} {t : List Se} {b base : Nat} {v : Value} (h : loadS p = some t) (hb : Below w.heap.size w w') (ht : TA w' b base v t) (h0 : w.heap.size ≤ base) (h1 : w.heap.size ≤ b) : LdP w p (.returned (.tuple #[.pointer (some ⟨b, 0, none⟩), .int .i64 0])) w' := by
  refine ⟨hb, ?_⟩
  rw [h]
  obtain ⟨ps, h2, h3⟩ := ht
  exact ⟨b, v, rfl, ⟨ps, h2, h3.cell, h3.own.base h0⟩, h1⟩

theorem uptoS_le' (s : Option (List UInt8)) : (uptoS s 64).1 ≤ 64 := by
  unfold uptoS
  split
  · simp
  · rename_i h
    rcases hh : uintS s with ⟨a, b⟩
    rw [hh] at h
    simp only at h ⊢
    omega

set_option maxHeartbeats 8000000 in
set_option maxRecDepth 100000 in
theorem load_any (x : Value) (p : List UInt8) (w : World) (hx : Rd w x p) (hl : p.length ≤ 1000000) : Calls Try.prog 15 #[x] w (LdP w p) := by
  obtain ⟨ox, cx, rfl⟩ : ∃ o c, x = .slice o p.length c := by
    rcases hx with ⟨rfl, rfl⟩ | ⟨_, c, rfl, _⟩ <;> exact ⟨_, _, rfl⟩
  have H0 := Lib.hid (D.newReader (.slice ox p.length cx) p w hx (by omega))
  have HL := Lib.hid hl
  have HLI : Hid ((p.length : Int) ≤ 1000000) := Lib.hid (by omega)
  generalize hm : p.length = m at *
  clear hx
  go_enter Try.func15, Try.ntmps15
  go_wp2_with fail
  refine H0.out.mono ?_
  rintro e w1 ⟨br, rfl, hs1, hb1, hge⟩
  have HGE := Lib.hid hge
  have HS1 := Lib.hid hs1
  have HB1 := Lib.hid hb1
  have HN := Lib.hid (tnew w1)
  clear hs1 hb1 hge H0
  go_wp2_with fail
  refine HN.out.mono ?_
  rintro e w2 ⟨rfl, hw2⟩
  have hbr : br < w1.heap.size := D.RS.lt HS1.out
  have hb2 : Below w1.heap.size w1 w2 := by rw [← hw2]; exact (Below.refl _ _).alloc (Nat.le_refl _) _
  have HS2 := Lib.hid (HS1.out.below hb2)
  have HB2 := Lib.hid (HB1.out.trans (hb2.mono HB1.out.size))
  have HT2 : Hid (TA w2 w1.heap.size w1.heap.size (.slice none 0 0) []) := Lib.hid ⟨[], rfl, by rw [← hw2]; exact heap_alloc_new _ _, ownS_nil _ _ _⟩
  have HZ : Hid (w1.heap.size ≤ w2.heap.size) := Lib.hid hb2.size
  have HBB := Lib.hid HB1.out.size
  clear hw2 hb2 HN HS1 HB1
  generalize w1.heap.size = bt at *
  have HBT := Lib.hid hbr
  have HU := Lib.hid (D.rupto (some ⟨br, 0, none⟩) (some p) 64 w2 HS2.out (by omega) (by omega))
  have HLS : Hid (loadS p = finT (loopT m (uptoS (some p) 64).1 0 [] (uptoS (some p) 64).2)) := Lib.hid (by unfold loadS; rw [hm])
  clear hbr
  go_wp2_with fail
  refine HU.out.mono ?_
  rintro e w3 ⟨rfl, hs3, hk3⟩
  have hbel : ∀ (W W' : World), Below w.heap.size w W → Kept (own1 (some ⟨br, 0, none⟩)) W W' → Below w.heap.size w W' := fun W W' h hk => h.trans (hk.below h.size (by rintro k ⟨a, ha, rfl⟩; cases ha; exact HGE.out))
  have hrd : ∀ k, bt ≤ k → ¬ own1 (some ⟨br, 0, none⟩) k := by
    rintro k hk ⟨a, ha, rfl⟩
    cases ha
    have := HBT.out
    have h5 : bt ≤ br := hk
    omega
  have HBEL := Lib.hid hbel
  have HRD := Lib.hid hrd
  have HS3 := Lib.hid hs3
  have HB3 := Lib.hid (hbel _ _ HB2.out hk3)
  have HT3 := Lib.hid (HT2.out.kept hk3 (Nat.le_refl _) hrd)
  have HZ3 := Lib.hid (Nat.le_trans HZ.out hk3.size)
  have hn64 := uptoS_le' (some p)
  generalize (uptoS (some p) 64).1 = n at *
  generalize (uptoS (some p) 64).2 = s3 at *
  have HN64 := Lib.hid hn64
  clear hs3 hk3 hbel hrd hn64 HU HS2 HB2 HT2 HZ
  go_wp2_with fail
  go_loopg [6, 15] (n + 1) (fun kx t6 t15 wr => ∃ (i last : Nat) (t : List Se) (s : Option (List UInt8)) (v : Value), i ≤ n ∧ t6 = .int .u64 (last : Int) ∧ t15 = .int .i64 (i : Int) ∧ n - i < kx ∧ Hid (t.length = i) ∧ Hid (Rd1 m last t) ∧ Hid (D.RS br wr (some ⟨br, 0, none⟩) s) ∧ Hid (Below w.heap.size w wr) ∧ Hid (TA wr bt bt v t) ∧ Hid (bt ≤ wr.heap.size) ∧
    Hid (loadS p = finT (loopT m (n - i) last t s)))
  case atStart => exact ⟨0, 0, [], s3, _, by omega, rfl, rfl, by omega, Lib.hid rfl, Lib.hid (rd1_nil m), HS3, HB3, HT3, HZ3, HLS⟩
  case round =>
    clear HS3 HB3 HT3 HZ3 HLS
    obtain ⟨i, last, t, s, v, hi, rfl, rfl, hkx, HTL, HRD1, HS, HB, HT, HZ, HLS⟩ := hrel
    by_cases hlt : i < n
    · have i1 : (i : Int) < (n : Int) := by omega
      have hn64 := HN64.out
      have wi : IntKind.i64.wrap ((i : Int) + 1) = (i : Int) + 1 := IntWalk.i64_in _ (by omega)
      have hls : loadS p = finT (loopT m (n - (i + 1) + 1) last t s) := by rw [HLS.out, show n - (i + 1) + 1 = n - i by omega]
      have hsp : loopT m (n - (i + 1) + 1) last t s = if (bytesS (uintS (uintS s).2).2 m).2 = none ∨ (uintS s).1 ≤ last ∨ (uintS (uintS s).2).1 = 0 then none
          else loopT m (n - (i + 1)) (uintS s).1 (t ++ [⟨(uintS s).1, (uintS (uintS s).2).1, (bytesS (uintS (uintS s).2).2 m).1⟩]) (bytesS (uintS (uintS s).2).2 m).2 := by
        conv => lhs; unfold loopT
      rw [hsp] at hls
      have HLS1 := Lib.hid hls
      have HU1 := Lib.hid (D.ruint (some ⟨br, 0, none⟩) s wr HS.out)
      have hw1 := uintS_lt s
      have hw2 := uintS_lt (uintS s).2
      have hw3 := bytesS_le (uintS (uintS s).2).2 m
      have hsn := fun hid hn => Rd1.snoc (s := (uintS (uintS s).2).2) (id := (uintS s).1) (nm := (uintS (uintS s).2).1) HRD1.out hid hn hw1 hw2
      have HSN := Lib.hid hsn
      clear hls hsp HLS hw1 hw2 hsn
      go_wp2_with fail
      refine HU1.out.mono ?_
      rintro e wa ⟨rfl, hsa, hka⟩
      have HUA := Lib.hid (D.ruint (some ⟨br, 0, none⟩) _ wa hsa)
      have HBA := Lib.hid (HBEL.out _ _ HB.out hka)
      have HTA := Lib.hid (HT.out.kept hka (Nat.le_refl _) HRD.out)
      have HZA := Lib.hid (Nat.le_trans HZ.out hka.size)
      generalize (uintS s).1 = id at *
      generalize (uintS s).2 = sa at *
      clear hsa hka HU1 HB HT HS HZ
      go_wp2_with fail
      refine HUA.out.mono ?_
      rintro e wb ⟨rfl, hsb, hkb⟩
      have HUB := Lib.hid (D.rbytes (some ⟨br, 0, none⟩) _ (m : Int) wb hsb (by omega) (by have := HLI.out; omega) (by have := HL.out; omega))
      have HBB2 := Lib.hid (HBEL.out _ _ HBA.out hkb)
      have HTB := Lib.hid (HTA.out.kept hkb (Nat.le_refl _) HRD.out)
      have HZB := Lib.hid (Nat.le_trans HZA.out hkb.size)
      generalize (uintS sa).1 = nm at *
      generalize (uintS sa).2 = sb at *
      clear hsb hkb HUA HBA HTA HZA
      go_wp2_with fail
      refine HUB.out.mono ?_
      rintro e wc ⟨vc, rfl, hoc, hsc, hkc⟩
      have HBC := Lib.hid (HBEL.out _ _ HBB2.out hkc)
      have HTC := Lib.hid (HTB.out.kept hkc (Nat.le_refl _) HRD.out)
      have HZC := Lib.hid (Nat.le_trans HZB.out hkc.size)
      generalize (bytesS sb (m : Int)).1 = rp at *
      generalize (bytesS sb (m : Int)).2 = sc at *
      obtain ⟨oc, cc, rfl⟩ := own_slice hoc
      have HOC := Lib.hid hoc
      have HSC := Lib.hid hsc
      have HBAD := Lib.hid (D.rbad (some ⟨br, 0, none⟩) sc wc hsc)
      clear hoc hsc hkc HUB HBB2 HTB HZB
      go_wp2_with fail
      refine HBAD.out.mono ?_
      rintro e w' ⟨rfl, rfl⟩
      clear HBAD
      rcases sc with _ | rest
      · have HP := Lib.hid (ldp_none (by rw [HLS1.out, if_pos (.inl rfl)]; rfl) HBC.out)
        simp only [Option.isNone_none]
        go_wp2_with fail
        go_ret2
        exact HP.out
      · simp only [Option.isNone_some]
        by_cases hle : id ≤ last
        · have HP := Lib.hid (ldp_none (by rw [HLS1.out, if_pos (.inr (.inl hle))]; rfl) HBC.out)
          have j1 : (id : Int) ≤ (last : Int) := by omega
          clear hle
          go_wp2_with fail
          go_ret2
          exact HP.out
        · have j1 : ¬ (id : Int) ≤ (last : Int) := by omega
          have hPS := put_snoc ⟨id, nm, rp⟩ HRD1.out (by show last < id; omega) (by rw [HTL.out]; omega)
          obtain ⟨ps, hps, hax⟩ := HTC.out
          have hb8 : ∀ x ∈ t, x.rp.length ≤ 1000000 := fun x hx => by have := HRD1.out.rp x hx; have := HL.out; omega
          have hPut := put_any id nm rp (.slice oc rp.length cc) wc (fun _ _ => trivial) (TA.tq ⟨ps, hps, hax⟩) HZC.out (by have := HTL.out; omega) HRD1.out.ris hb8 (fun w' hk => Rd.of_own (own_kept HOC.out hk (fun k hk2 h => by
            rcases h with rfl | h
            · exact own_ne HOC.out hax.cell (by decide) hk2
            · exact own_ne2 hax.own.row HOC.out (by decide) k h hk2))) (by have := HL.out; omega)
          have htwo : ∀ k, two bt v k → bt ≤ k := by
            rintro k (rfl | h)
            · exact Nat.le_refl _
            · exact (hax.own.row.lt k h).1
          have HTWO := Lib.hid htwo
          clear hax hps hb8 htwo
          by_cases hnm : nm = 0
          · rw [if_pos hnm] at hPS
            rw [hPS] at hPut
            have HP := Lib.hid (fun (W : World) (h : Below w.heap.size w W) => ldp_none (w := w) (w' := W) (p := p) (by rw [HLS1.out, if_pos (.inr (.inr hnm))]; rfl) h)
            have HPU := Lib.hid hPut
            clear hle hPS hPut hnm
            go_wp2_with fail
            refine HPU.out.mono ?_
            rintro e wd ⟨rfl, vd, -, -, hkd⟩
            have HBD := Lib.hid (HBC.out.trans (hkd.below HBC.out.size (fun k hk => Nat.le_trans HBB.out (HTWO.out k hk))))
            clear hkd
            go_wp2_with fail
            go_ret2
            exact HP.out _ HBD.out
          · rw [if_neg hnm] at hPS
            rw [hPS] at hPut
            have HPU := Lib.hid hPut
            have HLN : Hid (loadS p = finT (loopT m (n - (i + 1)) id (t ++ [⟨id, nm, rp⟩]) (some rest))) := Lib.hid (by
              rw [HLS1.out, if_neg (by
                rintro (h | h | h)
                · cases h
                · exact hle h
                · exact hnm h)])
            have HRN := Lib.hid (HSN.out (by omega) hnm)
            clear hle hPS hPut hnm
            go_wp2_with fail
            refine HPU.out.mono ?_
            rintro e wd ⟨rfl, vd, htd, -, hkd⟩
            have HBD := Lib.hid (HBC.out.trans (hkd.below HBC.out.size (fun k hk => Nat.le_trans HBB.out (HTWO.out k hk))))
            have HSD := Lib.hid (D.RS.keep HSC.out hkd (fun a ha h => by
              cases ha
              have h1 := HTWO.out _ h
              have h2 := HBT.out
              have h3 : bt ≤ br := h1
              omega) (fun k hk h => by have h1 := HTWO.out _ h; have h2 := HBT.out; omega))
            have HTD := Lib.hid htd.ta
            have HZD := Lib.hid (Nat.le_trans HZC.out hkd.size)
            clear hkd htd
            go_wp2_with fail
            go_roundg (n - i)
            case measure => omega
            case rel => exact ⟨i + 1, id, t ++ [⟨id, nm, rp⟩], some rest, vd, by omega, rfl, by go_num, by omega, Lib.hid (by rw [List.length_append, HTL.out]; rfl), HRN, HSD, HBD, HTD, HZD, HLN⟩
    · have hie : i = n := by omega
      have i1 : ¬ (i : Int) < (n : Int) := by omega
      have hls := HLS.out
      rw [hie, Nat.sub_self] at hls
      have hls2 : loadS p = if s = some [] then some t else none := hls
      have HLS2 := Lib.hid hls2
      have HE := Lib.hid (D.rend (some ⟨br, 0, none⟩) s wr HS.out)
      clear hls hls2 HLS hie hlt hi
      by_cases he : s = some []
      · have HP := Lib.hid (ldp_some (by rw [HLS2.out, if_pos he]) HB.out HT.out HBB.out HBB.out)
        have he2 : (s == some []) = true := by simp [he]
        rw [he2] at HE
        clear he he2
        go_wp2_with fail
        refine HE.out.mono ?_
        rintro e w' ⟨rfl, rfl⟩
        go_wp2_with fail
        go_ret2
        exact HP.out
      · have HP := Lib.hid (ldp_none (by rw [HLS2.out, if_neg he]) HB.out)
        have he2 : (s == some []) = false := by simp [he]
        rw [he2] at HE
        clear he he2
        go_wp2_with fail
        refine HE.out.mono ?_
        rintro e w' ⟨rfl, rfl⟩
        go_wp2_with fail
        go_ret2
        exact HP.out
end Go.Proofs.Ytlfnblgpekilnaa
