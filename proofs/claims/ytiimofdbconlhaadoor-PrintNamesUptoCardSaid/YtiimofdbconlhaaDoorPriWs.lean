/- Small types: the walk. -/
import Derived.Test.YtiimofdbconlhaaDoorPriWm
namespace Go.Proofs.YtiimofdbconlhaaDoor
open Go.RowKit PriM

/-- What small leaves. -/
def BPost (w : World) (b : Bool) (e : Ending) (w' : World) : Prop := e = .returned (.bool b) ∧ Below w.heap.size w w'

set_option maxRecDepth 100000 in
set_option maxHeartbeats 4000000 in
/-- A type that is wrong itself. -/
theorem small_bad (d : Nat) (nm : List UInt8) (v : Int) (n : Nat) (S : ByteArray) (o : Option Addr) (c : Nat) (w : World) (hs : S.toList = nm) (hd : d ≤ 100) (hn : n ≤ 1000000000000) (hb : badT d nm n = true) :
    Calls Tryd.prog 8 #[.agg #[.string S, .int .i64 v, .slice o n c], .int .i64 (d : Int)] w (BPost w false) := by
  have HF := Lib.hid (show BPost w false (.returned (.bool false)) (w.alloc (.cells #[.string S, .int .i64 v, .slice o n c] 24)) from ⟨rfl, (Below.refl _ _).alloc (Nat.le_refl _) _⟩)
  unfold badT at hb
  by_cases h1 : 8 < d
  · clear hb hs hn
    go_enter Tryd.func8, Tryd.ntmps8
    go_wp2
    go_ret
    exact HF.out
  by_cases h2 : 6 < n
  · clear hb hs
    go_enter Tryd.func8, Tryd.ntmps8
    go_wp2
    go_ret
    exact HF.out
  have e1 : decide (8 < d) = false := by simpa using h1
  have e2 : decide (6 < n) = false := by simpa using h2
  rw [e1, e2, Bool.false_or, Bool.false_or] at hb
  by_cases h3 : nm = []
  · have t1 : (S.toList == []) = true := by rw [hs]; simpa using h3
    have t2 : S.toList.isEmpty = true := by rw [hs, h3]; rfl
    subst h3
    have h4 : 0 < n := by simpa using hb
    clear hb hs
    go_enter Tryd.func8, Tryd.ntmps8
    go_wp2
    go_ret
    exact HF.out
  have t1 : (S.toList == []) = false := by rw [hs]; simpa using h3
  have t2 : S.toList.isEmpty = false := by rw [hs]; simpa using h3
  by_cases h4 : nm = [45, 62]
  · have t3 : (S.toList == [45, 62]) = true := by rw [hs]; simpa using h4
    subst h4
    have h5 : n ≠ 2 := by
      have : (n != 2) = true := by simpa using hb
      simpa using this
    have t4 : ((n : Int) == 2) = false := by simp; omega
    have t5 : ((n : Int) != 2) = true := by simp; omega
    clear hb hs h5
    go_enter Tryd.func8, Tryd.ntmps8
    go_wp2
    go_ret
    exact HF.out
  have t3 : (S.toList == [45, 62]) = false := by rw [hs]; simpa using h4
  by_cases h5 : nm = [42]
  · have t4 : (S.toList == [42]) = true := by rw [hs]; simpa using h5
    subst h5
    have h6 : n < 2 := by simpa using hb
    clear hb hs
    go_enter Tryd.func8, Tryd.ntmps8
    go_wp2
    go_ret
    exact HF.out
  · exfalso
    have a : (nm == []) = false := by simpa using h3
    have b : (nm == [45, 62]) = false := by simpa using h4
    have c : (nm == [42]) = false := by simpa using h5
    rw [a, b, c] at hb
    simp at hb

theorem small_kidless (d : Nat) (nm : List UInt8) (v : Int) (S : ByteArray) (o : Option Addr) (c : Nat) (w : World) (hs : S.toList = nm) (hbf : badT d nm 0 = false) :
    Calls Tryd.prog 8 #[.agg #[.string S, .int .i64 v, .slice o 0 c], .int .i64 (d : Int)] w (BPost w true) := by
  have HF := Lib.hid (fun wr (hb : Below w.heap.size w wr) => (show BPost w true (.returned (.bool true)) wr from ⟨rfl, hb⟩))
  have H1 := Lib.hid (One.new w (.string S) (.int .i64 v) (.slice o 0 c))
  obtain ⟨hd, _, _, h4, h5⟩ := badT_false hbf
  have t3 : (S.toList == [45, 62]) = false := by rw [hs, beq_eq_false_iff_ne]; intro e; have := h4 e; omega
  have t4 : (S.toList == [42]) = false := by rw [hs, beq_eq_false_iff_ne]; intro e; have := h5 e; omega
  clear h4 h5 hbf
  by_cases h3 : nm = []
  · have t1 : (S.toList == []) = true := by rw [hs]; simpa using h3
    have t2 : S.toList.isEmpty = true := by rw [hs, h3]; rfl
    clear hs h3
    go_enter Tryd.func8, Tryd.ntmps8
    go_wp2
    go_loopw [5] (fun i wr => i = .int .i64 0 ∧ One w wr (.string S) (.int .i64 v) (.slice o 0 c)) (fun _ _ => 0)
    case atStart => exact ⟨rfl, H1.out⟩
    case round =>
      obtain ⟨rfl, hone⟩ := hrel
      obtain ⟨a0, a1, a2⟩ := hone.box.cells
      have HG := Lib.hid (HF.out _ hone.bel)
      clear hone
      go_wp2
      go_ret
      exact HG.out
  · have t1 : (S.toList == []) = false := by rw [hs]; simpa using h3
    have t2 : S.toList.isEmpty = false := by rw [hs]; simpa using h3
    clear hs h3
    go_enter Tryd.func8, Tryd.ntmps8
    go_wp2
    go_loopw [5] (fun i wr => i = .int .i64 0 ∧ One w wr (.string S) (.int .i64 v) (.slice o 0 c)) (fun _ _ => 0)
    case atStart => exact ⟨rfl, H1.out⟩
    case round =>
      obtain ⟨rfl, hone⟩ := hrel
      obtain ⟨a0, a1, a2⟩ := hone.box.cells
      have HG := Lib.hid (HF.out _ hone.bel)
      clear hone
      go_wp2
      go_ret
      exact HG.out

set_option maxRecDepth 100000 in
set_option maxHeartbeats 16000000 in
/-- A type that is right itself, with kids: they are looked at. -/
theorem small_good (n d : Nat) (nm : List UInt8) (v : Int) (ks : List Ty) (S : ByteArray) (b off c : Nat) (w : World) (hs : S.toList = nm) (hbf : badT d nm ks.length = false) (hp : 0 < ks.length) (hks : TysV n w ks b off) (hb : b < n) (hn : n ≤ w.heap.size)
    (ih : ∀ t ∈ ks, ∀ (W : World) (c0 c1 c2 : Value), TyV n W t c0 c1 c2 → n ≤ W.heap.size → Calls Tryd.prog 8 #[.agg #[c0, c1, c2], .int .i64 ((d : Int) + 1)] W (BPost W (smT (d + 1) t))) :
    Calls Tryd.prog 8 #[.agg #[.string S, .int .i64 v, .slice (some ⟨b, off, none⟩) ks.length c], .int .i64 (d : Int)] w (BPost w (smT d (.mk nm v ks))) := by
  rw [smT_mk, hbf, Bool.not_false, Bool.true_and]
  have HKS := Lib.hid hks
  have HIH := Lib.hid ih
  have H1 := Lib.hid (One.new w (.string S) (.int .i64 v) (.slice (some ⟨b, off, none⟩) ks.length c))
  have HBP := Lib.hid (fun (e : Bool) wr (hb : Below w.heap.size w wr) => (show BPost w e (.returned (.bool e)) wr from ⟨rfl, hb⟩))
  obtain ⟨hd, hl6, h3, h4, h5⟩ := badT_false hbf
  have g3 : nm ≠ [] := fun e => by have := h3 e; omega
  have t1 : (S.toList == []) = false := by rw [hs]; simpa using g3
  have t2 : S.toList.isEmpty = false := by rw [hs]; simpa using g3
  clear hks ih hbf h3 g3
  have main : ∀ (b1 b2 : Bool), (S.toList == [45, 62]) = b1 → (S.toList == [42]) = b2 → (b1 = true → ks.length = 2) → (b2 = true → 2 ≤ ks.length) →
      Calls Tryd.prog 8 #[.agg #[.string S, .int .i64 v, .slice (some ⟨b, off, none⟩) ks.length c], .int .i64 (d : Int)] w (BPost w (smTs (d + 1) ks)) := by
    intro b1 b2 e1 e2 i1 i2
    clear h4 h5 hs
    have n1 : b1 = true → ((ks.length : Int) != 2) = false := fun h => by have := i1 h; simp; omega
    have n1' : b1 = true → ((ks.length : Int) == 2) = true := fun h => by have := i1 h; simp; omega
    have n2 : b2 = true → ¬ ((ks.length : Int) < 2) := fun h => by have := i2 h; omega
    clear i1 i2
    have HKL : Hid (∃ L, L = ks.length) := ⟨_, rfl⟩
    obtain ⟨L, hL⟩ := HKL.out
    have q1 : ¬ (8 < (d : Int)) := by omega
    have q2 : ¬ (6 < (L : Int)) := by omega
    have q3 : ¬ ((L : Int) < 0) := by omega
    have q4 : (0 < (L : Int)) := by omega
    have HL := Lib.hid hL
    rw [← hL] at n1 n1' n2 H1 ⊢
    clear hL hl6 hd hp
    rcases b1 with _ | _
    all_goals rcases b2 with _ | _
    all_goals
      (try have m1 := n1 rfl)
      (try have m1' := n1' rfl)
      (try have m2 := n2 rfl)
      clear n1 n1' n2
      go_enter Tryd.func8, Tryd.ntmps8
      go_wp2
      go_loopw [5] (fun i wr => ∃ k : Nat, k ≤ L ∧ i = .int .i64 k ∧ smTs (d + 1) (ks.take k) = true ∧ One w wr (.string S) (.int .i64 v) (.slice (some ⟨b, off, none⟩) L c)) (fun i _ => L - (intOf i).toNat)
      case atStart => exact ⟨0, Nat.zero_le _, rfl, rfl, H1.out⟩
      case round =>
        obtain ⟨k, hk, rfl, htk, hone⟩ := hrel
        obtain ⟨a0, a1, a2⟩ := hone.box.cells
        by_cases hlt : k < L
        · have hltk : k < ks.length := by rw [← HL.out]; exact hlt
          obtain ⟨q0, q1, q2, f0, f1, f2, hty⟩ := (TysV.below (hone.bel.mono hn) hb ks HKS.out).get k hltk
          have hcall := HIH.out ks[k] (List.getElem_mem _) wr q0 q1 q2 hty (Nat.le_trans hn hone.bel.size)
          have HFA := Lib.hid (fun h => smTs_false (d := d + 1) hltk h)
          have htn := smTs_take (d := d + 1) hltk
          rw [htk, Bool.true_and] at htn
          generalize ks[k] = t at *
          obtain ⟨n', v', k'⟩ := t
          obtain ⟨rfl, rfl, -, -, o', c', rfl, -⟩ := hty
          have HTN := Lib.hid htn
          have HC := Lib.hid hcall
          have HO := Lib.hid hone
          clear htk hone htn hcall hltk
          generalize (⟨n'.toArray⟩ : ByteArray) = S' at *
          generalize smT (d + 1) (.mk n' v' k') = B at *
          generalize k'.length = m' at *
          rcases B with _ | _
          · go_wp2_with (go_at_call 8; refine (HC.out).mono ?_; rintro e w2 ⟨rfl, hb⟩; have HB := Lib.hid hb; clear hb)
            go_ret
            rw [HFA.out (by first | trivial | rfl)]
            exact HBP.out false w2 (HO.out.bel.trans (HB.out.mono HO.out.bel.size))
          · go_wp2_with (go_at_call 8; refine (HC.out).mono ?_; rintro e w2 ⟨rfl, hb⟩; have HB := Lib.hid hb; clear hb)
            go_roundw
            case rel => exact ⟨k + 1, hlt, by go_num, HTN.out, HO.out.on HB.out⟩
            case measure => simp [intOf]; omega
        · obtain rfl : k = L := by omega
          rw [HL.out, List.take_length] at htk
          have HG := Lib.hid (HBP.out true wr hone.bel)
          have HTK := Lib.hid htk
          clear htk hone
          go_wp2
          go_ret
          rw [HTK.out]
          exact HG.out
  exact main _ _ rfl rfl (fun e => h4 (by rw [← hs]; simpa using e)) (fun e => h5 (by rw [← hs]; simpa using e))

theorem small_any (n : Nat) : ∀ (t : Ty) (d : Nat) (w : World) (c0 c1 c2 : Value), TyV n w t c0 c1 c2 → n ≤ w.heap.size → wT t ≤ 100000000000 → d ≤ 100 →
    Calls Tryd.prog 8 #[.agg #[c0, c1, c2], .int .i64 (d : Int)] w (BPost w (smT d t)) := by
  intro t
  induction t using Ty.rec' with
  | h nm v ks ih =>
    intro d w c0 c1 c2 hty hn hw hd
    obtain ⟨rfl, rfl, -, -, o, c, rfl, hk⟩ := hty
    have hl : ks.length ≤ 1000000000000 := by have := wTs_len ks; unfold wT at hw; omega
    cases hbf : badT d nm ks.length with
    | true =>
      rw [smT_mk, hbf]
      exact small_bad d nm v ks.length _ o c w (toList_mk nm) hd hl hbf
    | false =>
      have h8 := (badT_false hbf).1
      rcases hk with rfl | ⟨b, off, rfl, hb, _, _, hks⟩
      · rw [smT_mk, hbf]
        exact small_kidless d nm v _ o c w (toList_mk nm) hbf
      · rcases ks with _ | ⟨k0, ks⟩
        · rw [smT_mk, hbf]
          exact small_kidless d nm v _ _ c w (toList_mk nm) hbf
        · refine small_good n d nm v (k0 :: ks) _ b off c w (toList_mk nm) hbf (by simp) hks hb hn (fun t ht W q0 q1 q2 hq hnW => ?_)
          have h1 := wT_mem ht
          unfold wT at hw
          have := ih t ht (d + 1) W q0 q1 q2 hq hnW (by omega) (by omega)
          rwa [show ((d + 1 : Nat) : Int) = (d : Int) + 1 by omega] at this
end Go.Proofs.YtiimofdbconlhaaDoor
