/- Names of small letters alone: the walk over the kids. -/
import Derived.Test.YtiimofdbconlhaaDoorPriNm
namespace Go.Proofs.YtiimofdbconlhaaDoor
open Go.RowKit PriM

set_option maxRecDepth 100000 in
set_option maxHeartbeats 16000000 in
theorem named_arrow (n : Nat) (ks : List Ty) (S : ByteArray) (o : Option Addr) (c : Nat) (w : World) (_hz : S.size ≤ 100000000000) (t1 : (S.toList == []) = false) (_t2 : S.toList.isEmpty = false) (p1 : 0 < S.size) (t3 : (S.toList == [45, 62]) = true) (hm : ks.length ≤ 1000000000000)
    (hks : KidsAt n w o ks) (hn : n ≤ w.heap.size)
    (ih : ∀ t ∈ ks, ∀ (W : World) (c0 c1 c2 : Value), TyV n W t c0 c1 c2 → n ≤ W.heap.size → Calls Tryd.prog 18 #[.agg #[c0, c1, c2]] W (BPost W (nmT t))) :
    Calls Tryd.prog 18 #[.agg #[.string S, .int .i64 0, .slice o ks.length c]] w (BPost w (nmTs ks)) := by
  have HKS := Lib.hid hks
  have HIH := Lib.hid ih
  have HN := Lib.hid hn
  have H1 := Lib.hid (One.new w (.string S) (.int .i64 0) (.slice o ks.length c))
  have HBP := Lib.hid (fun (e : Bool) wr (hb : Below w.heap.size w wr) => (show BPost w e (.returned (.bool e)) wr from ⟨rfl, hb⟩))
  have H0 := Lib.hid (show nmTs ks = nmTs (ks.drop 0) by rw [List.drop_zero])
  have HND := Lib.hid (fun k (h : ks.length ≤ k) => nmTs_end h)
  obtain ⟨R, hR⟩ : ∃ R, R = nmTs ks := ⟨_, rfl⟩
  rw [← hR] at H0 ⊢
  obtain ⟨L, hL⟩ : ∃ L, L = ks.length := ⟨_, rfl⟩
  have q3 : ¬ ((L : Int) < 0) := by omega
  have q5 : L ≤ 1000000000000 := by omega
  have HL := Lib.hid hL
  rw [← hL] at H1 ⊢
  clear hL hR hm hks ih hn
  go_enter Tryd.func18, Tryd.ntmps18
  go_wp2_with fail
  go_loopw [3] (fun i wr => i = .int .i64 0 ∧ One w wr (.string S) (.int .i64 0) (.slice o L c)) (fun _ _ => 0)
  case atStart => exact ⟨rfl, H1.out⟩
  case round =>
    obtain ⟨rfl, hone⟩ := hrel
    obtain ⟨a0, a1, a2⟩ := hone.box.cells
    have HO1 := Lib.hid hone
    clear hone
    go_wp2_with fail
    clear a0 a1 a2
    go_loopw [4] (fun i wr => ∃ k : Nat, k ≤ L ∧ i = .int .i64 k ∧ R = nmTs (ks.drop k) ∧ One w wr (.string S) (.int .i64 0) (.slice o L c)) (fun i _ => L - (intOf i).toNat)
    case atStart => exact ⟨0, Nat.zero_le _, rfl, H0.out, HO1.out⟩
    case round =>
      obtain ⟨k, hk, rfl, hR, hone⟩ := hrel
      obtain ⟨a0, a1, a2⟩ := hone.box.cells
      by_cases hlt : k < L
      · have hltk : k < ks.length := by rw [← HL.out]; exact hlt
        obtain ⟨b, off, rfl, hb, hks⟩ := HKS.out (by omega)
        obtain ⟨q0, q1, q2, f0, f1, f2, hty⟩ := (TysV.below (hone.bel.mono HN.out) hb ks hks).get k hltk
        have hcall := HIH.out ks[k] (List.getElem_mem _) wr q0 q1 q2 hty (Nat.le_trans HN.out hone.bel.size)
        have hnx := nmTs_drop hltk
        rw [← hR] at hnx
        generalize ks[k] = t at *
        obtain ⟨n', v1, k'⟩ := t
        obtain ⟨rfl, rfl, -, -, o1, c1, rfl, -⟩ := hty
        have HX := Lib.hid hnx
        have HC := Lib.hid hcall
        have HO := Lib.hid hone
        clear hR hone hcall hnx hltk hks hb
        generalize (⟨n'.toArray⟩ : ByteArray) = S1 at *
        generalize nmT (.mk n' v1 k') = B at *
        generalize k'.length = m1 at *
        rcases B with _ | _
        · go_wp2_with (go_at_call 18; refine (HC.out).mono ?_; rintro e w2 ⟨rfl, hb⟩; have HB := Lib.hid hb; clear hb)
          go_ret
          rw [show R = false by simpa using HX.out]
          exact HBP.out false w2 (HO.out.bel.trans (HB.out.mono HO.out.bel.size))
        · go_wp2_with (go_at_call 18; refine (HC.out).mono ?_; rintro e w2 ⟨rfl, hb⟩; have HB := Lib.hid hb; clear hb)
          go_roundw
          case rel => exact ⟨k + 1, hlt, by go_num, by simpa using HX.out, HO.out.on HB.out⟩
          case measure => simp [intOf]; omega
      · obtain rfl : k = L := by omega
        have hlast := HND.out k (by rw [← HL.out]; exact Nat.le_refl _)
        have HG := Lib.hid (HBP.out true wr hone.bel)
        rw [hlast] at hR
        have HRT := Lib.hid hR
        clear hR hone hlast
        go_wp2
        go_ret
        rw [HRT.out]
        exact HG.out

set_option maxRecDepth 100000 in
set_option maxHeartbeats 16000000 in
theorem named_star (n : Nat) (ks : List Ty) (S : ByteArray) (o : Option Addr) (c : Nat) (w : World) (_hz : S.size ≤ 100000000000) (t1 : (S.toList == []) = false) (_t2 : S.toList.isEmpty = false) (p1 : 0 < S.size) (t3 : (S.toList == [45, 62]) = false) (t4 : (S.toList == [42]) = true) (hm : ks.length ≤ 1000000000000)
    (hks : KidsAt n w o ks) (hn : n ≤ w.heap.size)
    (ih : ∀ t ∈ ks, ∀ (W : World) (c0 c1 c2 : Value), TyV n W t c0 c1 c2 → n ≤ W.heap.size → Calls Tryd.prog 18 #[.agg #[c0, c1, c2]] W (BPost W (nmT t))) :
    Calls Tryd.prog 18 #[.agg #[.string S, .int .i64 0, .slice o ks.length c]] w (BPost w (nmTs ks)) := by
  have HKS := Lib.hid hks
  have HIH := Lib.hid ih
  have HN := Lib.hid hn
  have H1 := Lib.hid (One.new w (.string S) (.int .i64 0) (.slice o ks.length c))
  have HBP := Lib.hid (fun (e : Bool) wr (hb : Below w.heap.size w wr) => (show BPost w e (.returned (.bool e)) wr from ⟨rfl, hb⟩))
  have H0 := Lib.hid (show nmTs ks = nmTs (ks.drop 0) by rw [List.drop_zero])
  have HND := Lib.hid (fun k (h : ks.length ≤ k) => nmTs_end h)
  obtain ⟨R, hR⟩ : ∃ R, R = nmTs ks := ⟨_, rfl⟩
  rw [← hR] at H0 ⊢
  obtain ⟨L, hL⟩ : ∃ L, L = ks.length := ⟨_, rfl⟩
  have q3 : ¬ ((L : Int) < 0) := by omega
  have q5 : L ≤ 1000000000000 := by omega
  have HL := Lib.hid hL
  rw [← hL] at H1 ⊢
  clear hL hR hm hks ih hn
  go_enter Tryd.func18, Tryd.ntmps18
  go_wp2_with fail
  go_loopw [3] (fun i wr => i = .int .i64 0 ∧ One w wr (.string S) (.int .i64 0) (.slice o L c)) (fun _ _ => 0)
  case atStart => exact ⟨rfl, H1.out⟩
  case round =>
    obtain ⟨rfl, hone⟩ := hrel
    obtain ⟨a0, a1, a2⟩ := hone.box.cells
    have HO1 := Lib.hid hone
    clear hone
    go_wp2_with fail
    clear a0 a1 a2
    go_loopw [4] (fun i wr => ∃ k : Nat, k ≤ L ∧ i = .int .i64 k ∧ R = nmTs (ks.drop k) ∧ One w wr (.string S) (.int .i64 0) (.slice o L c)) (fun i _ => L - (intOf i).toNat)
    case atStart => exact ⟨0, Nat.zero_le _, rfl, H0.out, HO1.out⟩
    case round =>
      obtain ⟨k, hk, rfl, hR, hone⟩ := hrel
      obtain ⟨a0, a1, a2⟩ := hone.box.cells
      by_cases hlt : k < L
      · have hltk : k < ks.length := by rw [← HL.out]; exact hlt
        obtain ⟨b, off, rfl, hb, hks⟩ := HKS.out (by omega)
        obtain ⟨q0, q1, q2, f0, f1, f2, hty⟩ := (TysV.below (hone.bel.mono HN.out) hb ks hks).get k hltk
        have hcall := HIH.out ks[k] (List.getElem_mem _) wr q0 q1 q2 hty (Nat.le_trans HN.out hone.bel.size)
        have hnx := nmTs_drop hltk
        rw [← hR] at hnx
        generalize ks[k] = t at *
        obtain ⟨n', v1, k'⟩ := t
        obtain ⟨rfl, rfl, -, -, o1, c1, rfl, -⟩ := hty
        have HX := Lib.hid hnx
        have HC := Lib.hid hcall
        have HO := Lib.hid hone
        clear hR hone hcall hnx hltk hks hb
        generalize (⟨n'.toArray⟩ : ByteArray) = S1 at *
        generalize nmT (.mk n' v1 k') = B at *
        generalize k'.length = m1 at *
        rcases B with _ | _
        · go_wp2_with (go_at_call 18; refine (HC.out).mono ?_; rintro e w2 ⟨rfl, hb⟩; have HB := Lib.hid hb; clear hb)
          go_ret
          rw [show R = false by simpa using HX.out]
          exact HBP.out false w2 (HO.out.bel.trans (HB.out.mono HO.out.bel.size))
        · go_wp2_with (go_at_call 18; refine (HC.out).mono ?_; rintro e w2 ⟨rfl, hb⟩; have HB := Lib.hid hb; clear hb)
          go_roundw
          case rel => exact ⟨k + 1, hlt, by go_num, by simpa using HX.out, HO.out.on HB.out⟩
          case measure => simp [intOf]; omega
      · obtain rfl : k = L := by omega
        have hlast := HND.out k (by rw [← HL.out]; exact Nat.le_refl _)
        have HG := Lib.hid (HBP.out true wr hone.bel)
        rw [hlast] at hR
        have HRT := Lib.hid hR
        clear hR hone hlast
        go_wp2
        go_ret
        rw [HRT.out]
        exact HG.out

set_option maxRecDepth 100000 in
set_option maxHeartbeats 16000000 in
theorem named_letters (n : Nat) (ks : List Ty) (S : ByteArray) (o : Option Addr) (c : Nat) (w : World) (hz : S.size ≤ 100000000000) (t1 : (S.toList == []) = false) (_t2 : S.toList.isEmpty = false) (p1 : 0 < S.size) (t3 : (S.toList == [45, 62]) = false) (t4 : (S.toList == [42]) = false) (hl : LtrTo S S.size) (hm : ks.length ≤ 1000000000000)
    (hks : KidsAt n w o ks) (hn : n ≤ w.heap.size)
    (ih : ∀ t ∈ ks, ∀ (W : World) (c0 c1 c2 : Value), TyV n W t c0 c1 c2 → n ≤ W.heap.size → Calls Tryd.prog 18 #[.agg #[c0, c1, c2]] W (BPost W (nmT t))) :
    Calls Tryd.prog 18 #[.agg #[.string S, .int .i64 0, .slice o ks.length c]] w (BPost w (nmTs ks)) := by
  have HKS := Lib.hid hks
  have HIH := Lib.hid ih
  have HN := Lib.hid hn
  have H1 := Lib.hid (One.new w (.string S) (.int .i64 0) (.slice o ks.length c))
  have HBP := Lib.hid (fun (e : Bool) wr (hb : Below w.heap.size w wr) => (show BPost w e (.returned (.bool e)) wr from ⟨rfl, hb⟩))
  have H0 := Lib.hid (show nmTs ks = nmTs (ks.drop 0) by rw [List.drop_zero])
  have HND := Lib.hid (fun k (h : ks.length ≤ k) => nmTs_end h)
  obtain ⟨R, hR⟩ : ∃ R, R = nmTs ks := ⟨_, rfl⟩
  rw [← hR] at H0 ⊢
  obtain ⟨L, hL⟩ : ∃ L, L = ks.length := ⟨_, rfl⟩
  have q3 : ¬ ((L : Int) < 0) := by omega
  have q5 : L ≤ 1000000000000 := by omega
  have HL := Lib.hid hL
  rw [← hL] at H1 ⊢
  clear hL hR hm hks ih hn
  have HLT := Lib.hid hl
  clear hl
  go_enter Tryd.func18, Tryd.ntmps18
  go_wp2_with fail
  go_loopw [3] (fun i wr => ∃ k : Nat, k ≤ S.size ∧ i = .int .i64 k ∧ One w wr (.string S) (.int .i64 0) (.slice o L c)) (fun i _ => S.size - (intOf i).toNat)
  case atStart => exact ⟨0, Nat.zero_le _, rfl, H1.out⟩
  case round =>
    obtain ⟨k1, hk1, rfl, hone⟩ := hrel
    obtain ⟨a0, a1, a2⟩ := hone.box.cells
    have HO1 := Lib.hid hone
    clear hone
    by_cases hlt1 : k1 < S.size
    · obtain ⟨l1, l2⟩ := ltr_int.1 (HLT.out k1 hlt1 hlt1)
      go_wp2
      go_roundw
      case rel => exact ⟨k1 + 1, hlt1, by go_num, HO1.out⟩
      case measure => simp [intOf]; omega
    · obtain rfl : k1 = S.size := by omega
      clear hlt1
      go_wp2_with fail
      clear a0 a1 a2
      go_loopw [4] (fun i wr => ∃ k : Nat, k ≤ L ∧ i = .int .i64 k ∧ R = nmTs (ks.drop k) ∧ One w wr (.string S) (.int .i64 0) (.slice o L c)) (fun i _ => L - (intOf i).toNat)
      case atStart => exact ⟨0, Nat.zero_le _, rfl, H0.out, HO1.out⟩
      case round =>
        obtain ⟨k, hk, rfl, hR, hone⟩ := hrel
        obtain ⟨a0, a1, a2⟩ := hone.box.cells
        by_cases hlt : k < L
        · have hltk : k < ks.length := by rw [← HL.out]; exact hlt
          obtain ⟨b, off, rfl, hb, hks⟩ := HKS.out (by omega)
          obtain ⟨q0, q1, q2, f0, f1, f2, hty⟩ := (TysV.below (hone.bel.mono HN.out) hb ks hks).get k hltk
          have hcall := HIH.out ks[k] (List.getElem_mem _) wr q0 q1 q2 hty (Nat.le_trans HN.out hone.bel.size)
          have hnx := nmTs_drop hltk
          rw [← hR] at hnx
          generalize ks[k] = t at *
          obtain ⟨n', v1, k'⟩ := t
          obtain ⟨rfl, rfl, -, -, o1, c1, rfl, -⟩ := hty
          have HX := Lib.hid hnx
          have HC := Lib.hid hcall
          have HO := Lib.hid hone
          clear hR hone hcall hnx hltk hks hb
          generalize (⟨n'.toArray⟩ : ByteArray) = S1 at *
          generalize nmT (.mk n' v1 k') = B at *
          generalize k'.length = m1 at *
          rcases B with _ | _
          · go_wp2_with (go_at_call 18; refine (HC.out).mono ?_; rintro e w2 ⟨rfl, hb⟩; have HB := Lib.hid hb; clear hb)
            go_ret
            rw [show R = false by simpa using HX.out]
            exact HBP.out false w2 (HO.out.bel.trans (HB.out.mono HO.out.bel.size))
          · go_wp2_with (go_at_call 18; refine (HC.out).mono ?_; rintro e w2 ⟨rfl, hb⟩; have HB := Lib.hid hb; clear hb)
            go_roundw
            case rel => exact ⟨k + 1, hlt, by go_num, by simpa using HX.out, HO.out.on HB.out⟩
            case measure => simp [intOf]; omega
        · obtain rfl : k = L := by omega
          have hlast := HND.out k (by rw [← HL.out]; exact Nat.le_refl _)
          have HG := Lib.hid (HBP.out true wr hone.bel)
          rw [hlast] at hR
          have HRT := Lib.hid hR
          clear hR hone hlast
          go_wp2
          go_ret
          rw [HRT.out]
          exact HG.out

theorem named_any (n : Nat) : ∀ (t : Ty) (w : World) (c0 c1 c2 : Value), TyV n w t c0 c1 c2 → n ≤ w.heap.size → wT t ≤ 100000000000 → wN t ≤ 100000000000 →
    Calls Tryd.prog 18 #[.agg #[c0, c1, c2]] w (BPost w (nmT t)) := by
  intro t
  induction t using Ty.rec' with
  | h nm v ks ih =>
    intro w c0 c1 c2 hty hn hw hnl
    obtain ⟨rfl, rfl, -, -, o, c, rfl, hk⟩ := hty
    have hl : ks.length ≤ 1000000000000 := by have := wTs_len ks; unfold wT at hw; omega
    rw [nmT_mk]
    unfold nmOne
    by_cases h0 : nm = []
    · subst h0
      have := named_var v ⟨([] : List UInt8).toArray⟩ o ks.length c w (toList_mk [])
      simpa using this
    rw [if_neg h0]
    have e0 : (⟨nm.toArray⟩ : ByteArray).toList ≠ [] := by rw [toList_mk]; exact h0
    by_cases hv : v = 0
    · subst hv
      have z0 := size_mk nm
      have p1 : 0 < (⟨nm.toArray⟩ : ByteArray).size := by rw [z0]; exact List.length_pos_iff.2 h0
      have z1 : (⟨nm.toArray⟩ : ByteArray).size ≤ 100000000000 := by rw [wN_mk] at hnl; omega
      have t1 : ((⟨nm.toArray⟩ : ByteArray).toList == []) = false := by simpa using e0
      have t2 : (⟨nm.toArray⟩ : ByteArray).toList.isEmpty = false := by simpa using e0
      have ih' : ∀ t ∈ ks, ∀ (W : World) (c0 c1 c2 : Value), TyV n W t c0 c1 c2 → n ≤ W.heap.size → Calls Tryd.prog 18 #[.agg #[c0, c1, c2]] W (BPost W (nmT t)) := fun t ht W c0 c1 c2 h1 h2 => by
        have h4 := wT_mem ht
        have h5 := wN_mem ht
        rw [wN_mk] at hnl
        unfold wT at hw
        exact ih t ht W c0 c1 c2 h1 h2 (by omega) (by omega)
      have eB : (nm == []) = false := by simpa using h0
      rw [eB, Bool.false_or]
      by_cases h1 : nm = [45, 62]
      · rw [show (nm == [45, 62]) = true by simpa using h1]
        simpa using named_arrow n ks _ o c w z1 t1 t2 p1 (by rw [toList_mk]; simpa using h1) hl (KidsAt.of hk) hn ih'
      · have t3 : ((⟨nm.toArray⟩ : ByteArray).toList == [45, 62]) = false := by rw [toList_mk]; simpa using h1
        rw [show (nm == [45, 62]) = false by simpa using h1]
        by_cases h2 : nm = [42]
        · rw [show (nm == [42]) = true by simpa using h2]
          simpa using named_star n ks _ o c w z1 t1 t2 p1 t3 (by rw [toList_mk]; simpa using h2) hl (KidsAt.of hk) hn ih'
        · have t4 : ((⟨nm.toArray⟩ : ByteArray).toList == [42]) = false := by rw [toList_mk]; simpa using h2
          rw [show (nm == [42]) = false by simpa using h2]
          cases ha : nm.all ltr with
          | true => simpa using named_letters n ks _ o c w z1 t1 t2 p1 t3 t4 ((all_iff nm).1 ha) hl (KidsAt.of hk) hn ih'
          | false =>
            simpa using named_letter _ o ks.length c w e0 (by simpa using t3) (by simpa using t4) z1 (fun h => by rw [(all_iff nm).2 h] at ha; cases ha)
    · have := named_off v _ o ks.length c w e0 hv
      rw [show decide (v = 0) = false by simpa using hv]
      simpa using this
end Go.Proofs.YtiimofdbconlhaaDoor
