/- The reference's text of a type of many. -/
import Derived.Test.YtiimofdbconlhaaDoorPriWp
namespace Go.Proofs.YtiimofdbconlhaaDoor
open Go.RowKit PriM

set_option maxRecDepth 100000 in
set_option maxHeartbeats 16000000 in
theorem rtype_many (n : Nat) (nm : List UInt8) (v : Int) (ks : List Ty) (how : Nat) (w : World) (c0 c1 c2 : Value) (hnm : nm ≠ []) (n2 : nm ≠ [45, 62]) (n3 : nm ≠ [42]) (hk2 : 2 ≤ ks.length) (h : RtC n w (.mk nm v ks) c0 c1 c2) (ih : ∀ t ∈ ks, RtIH n t) :
    Calls Tryd.prog 11 #[.agg #[c0, c1, c2], .int .i64 (how : Int)] w (TextPost w (rH how (.mk nm v ks))) := by
  have hty := h.ty
  have hok := h.ok
  have hln := h.len
  have hnl := h.nl
  have hlow := h.low
  obtain ⟨rfl, rfl, v0, v1, o, c, rfl, hk⟩ := hty
  rcases hk with hk | ⟨b, off, rfl, hb, _, _, hks⟩
  · rw [hk] at hk2; simp at hk2
  unfold okT at hok
  obtain ⟨-, h2, h3, hl6, hoks⟩ := hok
  rw [wN_mk] at hnl
  have er : rT vn (.mk nm v ks) = 40 :: (inter sComma (ks.map (rH 0)) ++ 41 :: 32 :: nm) := by
    unfold rT body
    rw [rTs_eq, if_neg hnm, if_neg (by simp [n2]), if_neg (by simp [n3]), if_neg (by simp; intro e; rw [e] at hk2; simp at hk2), if_neg (by simp; omega), List.map_map]
    have e0 : ks.map (rH 0) = ks.map (rT vn) := List.map_congr_left fun t _ => rH0 t
    first | (rw [e0]; done) | (rw [e0]; rfl)
  have ek : kd (.mk nm v ks) = 0 := by rw [kd_mk, if_neg (by simp [n2]), if_neg (by simp [n3])]
  rw [er] at hln
  obtain ⟨P, X, HX, hJ⟩ : ∃ P X, X = inter sComma (ks.map (rH 0)) ∧ Jn sComma 0 ks P X := ⟨_, _, rfl, Jn.new _ _ _⟩
  rw [← HX] at er hln
  simp only [List.length_cons, List.length_append] at hln
  have ep : rH how (.mk nm v ks) = (40 :: X ++ [41, 32]) ++ nm := by
    have : rH how (.mk nm v ks) = rT vn (.mk nm v ks) := by unfold rH; rw [ek]; simp [paren]
    rw [this, er]
    simp
  rw [ep]
  obtain ⟨X3, hX3⟩ : ∃ X3, X3 = 40 :: X := ⟨_, rfl⟩
  obtain ⟨X4, hX4⟩ : ∃ X4, X4 = X3 ++ [41, 32] := ⟨_, rfl⟩
  obtain ⟨X5, hX5⟩ : ∃ X5, X5 = X4 ++ nm := ⟨_, rfl⟩
  rw [← hX3, ← hX4, ← hX5]
  have hc3 : (⟨#[40]⟩ : ByteArray) ++ ⟨X.toArray⟩ = ⟨X3.toArray⟩ := by rw [hX3]; exact bytes_cat [40] X
  have hc4 : (⟨X3.toArray⟩ : ByteArray) ++ ⟨#[41, 32]⟩ = ⟨X4.toArray⟩ := by rw [hX4]; exact bytes_cat X3 [41, 32]
  have l3 : X3.length = X.length + 1 := by rw [hX3, List.length_cons]
  have l4 : X4.length = X3.length + 2 := by rw [hX4, List.length_append]; rfl
  have ho3 : ¬ 9223372036854775807 < 1 + X.length := by omega
  have ho4 : ¬ 9223372036854775807 < X3.length + 2 := by omega
  have ho5' : ¬ 9223372036854775807 < X4.length + nm.length := by omega
  clear l3 l4 hX3 hX4 ek ep
  have HIH := Lib.hid (fun t (ht : t ∈ ks) W q0 q1 q2 (hq : TyV n W t q0 q1 q2) (hn : n ≤ W.heap.size) =>
    ((ih t ht 0 W q0 q1 q2 (by omega) ⟨hq, okTs_mem hoks t ht, hn, by have := rH_le 0 t; have := hJ.kid t ht; omega, by have := wN_mem ht; omega⟩) :
      Calls Tryd.prog 11 #[.agg #[q0, q1, q2], .int .i64 0] W (TextPost W (rH 0 t))))
  have HKS := Lib.hid hks
  have HN := Lib.hid hlow
  have HJ := Lib.hid hJ
  have hXl : X.length ≤ 100000000000000 := by omega
  have HXL := Lib.hid hXl
  obtain ⟨S, hS⟩ : ∃ S : ByteArray, S = ⟨(nm : List UInt8).toArray⟩ := ⟨_, rfl⟩
  have hc5 : (⟨X4.toArray⟩ : ByteArray) ++ S = ⟨X5.toArray⟩ := by rw [hX5, hS]; exact bytes_cat X4 nm
  have ho5 : ¬ 9223372036854775807 < X4.length + S.size := by rw [show S.size = nm.length by rw [hS]; exact size_mk nm]; exact ho5'
  have t1' : (S.toList == []) = false := by rw [hS, toList_mk]; simpa using hnm
  have t2' : S.toList.isEmpty = false := by rw [hS, toList_mk]; simpa using hnm
  have t3' : (S.toList == [45, 62]) = false := by rw [hS, toList_mk]; simpa using n2
  have t4' : (S.toList == [42]) = false := by rw [hS, toList_mk]; simpa using n3
  clear ho5' hX5
  rw [← hS]
  have H1 := Lib.hid (One.new w (.string S) (.int .i64 v) (.slice (some ⟨b, off, none⟩) ks.length c))
  obtain ⟨L, hL⟩ : ∃ L, L = ks.length := ⟨_, rfl⟩
  have q3 : ¬ ((L : Int) < 0) := by omega
  have q4 : (0 < (L : Int)) := by omega
  have q5 : ((L : Int) == 0) = false := by simp; omega
  have q6 : ((L : Int) == 1) = false := by simp; omega
  have q7 : L ≤ 6 := by omega
  have HL := Lib.hid hL
  rw [← hL] at H1 ⊢
  clear hJ hks hlow hln hnl hoks h2 h3 hl6 h er HX ih hk2 hS hXl hL
  all_goals
    go_enter Tryd.func11, Tryd.ntmps11
    go_wp2_with fail
    go_loopw [5, 8] (fun s i wr => ∃ k : Nat, k ≤ L ∧ i = .int .i64 k ∧ s = .string ⟨(P k).toArray⟩ ∧ One w wr (.string S) (.int .i64 v) (.slice (some ⟨b, off, none⟩) L c)) (fun _ i _ => L - (intOf i).toNat)
    case atStart => exact ⟨0, Nat.zero_le _, rfl, by rw [HJ.out.zero], H1.out⟩
    case round =>
      obtain ⟨k, hk, rfl, rfl, hone⟩ := hrel
      obtain ⟨a0, a1, a2⟩ := hone.box.cells
      by_cases hlt : k < L
      · have hltk : k < ks.length := by rw [← HL.out]; exact hlt
        obtain ⟨q0, q1, q2, f0, f1, f2, hty⟩ := (TysV.below (hone.bel.mono HN.out) hb ks HKS.out).get k hltk
        have hcall := HIH.out ks[k] (List.getElem_mem _) wr q0 q1 q2 hty (Nat.le_trans HN.out hone.bel.size)
        have hnx := HJ.out.next k hltk
        have lT := HJ.out.le k
        have lA := HJ.out.kid ks[k] (List.getElem_mem _)
        have lX := HXL.out
        generalize rH 0 ks[k] = A at *
        generalize ks[k] = t at *
        obtain ⟨n', v', k'⟩ := t
        obtain ⟨rfl, rfl, -, -, o', c', rfl, -⟩ := hty
        have HC := Lib.hid hcall
        have HO := Lib.hid hone
        clear hone hcall hltk
        generalize (⟨n'.toArray⟩ : ByteArray) = S' at *
        generalize k'.length = m' at *
        obtain ⟨T, hT⟩ : ∃ T, T = P k := ⟨_, rfl⟩
        obtain ⟨T2, hT2⟩ : ∃ T2, T2 = P (k + 1) := ⟨_, rfl⟩
        rw [← hT] at lT ⊢
        rw [← hT, ← hT2] at hnx
        have HT2 := Lib.hid hT2.symm
        by_cases hk0 : 0 < k
        · have hki : (0 : Int) < (k : Int) := by omega
          rw [if_neg (by omega)] at hnx
          obtain ⟨T1, hT1⟩ : ∃ T1, T1 = T ++ sComma := ⟨_, rfl⟩
          rw [← hT1] at hnx
          have l1 : T1.length = T.length + 2 := by rw [hT1, List.length_append]; rfl
          have hc1 : (⟨T.toArray⟩ : ByteArray) ++ ⟨#[44, 32]⟩ = ⟨T1.toArray⟩ := by rw [hT1]; exact bytes_cat T sComma
          have hc2 : (⟨T1.toArray⟩ : ByteArray) ++ ⟨A.toArray⟩ = ⟨T2.toArray⟩ := by rw [hnx]; exact bytes_cat T1 A
          have ho1 : ¬ 9223372036854775807 < T.length + 2 := by omega
          have ho2 : ¬ 9223372036854775807 < T1.length + A.length := by omega
          clear hnx hT hT1 hT2 l1 lT lA lX
          go_wp2_with (go_at_call 11; refine (HC.out).mono ?_; rintro e w2 ⟨rfl, hb⟩; have HB := Lib.hid hb; clear hb)
          go_roundw
          case rel => exact ⟨k + 1, hlt, by go_num, by rw [HT2.out], HO.out.on HB.out⟩
          case measure => simp [intOf]; omega
        · have hki : ¬ (0 : Int) < (k : Int) := by omega
          obtain rfl : k = 0 := by omega
          rw [if_pos rfl] at hnx
          have hT0 : T = [] := by rw [hT, HJ.out.zero]
          have hc2 : (⟨T.toArray⟩ : ByteArray) ++ ⟨A.toArray⟩ = ⟨T2.toArray⟩ := by rw [hnx, hT0]; exact bytes_cat [] A
          have ho2 : ¬ 9223372036854775807 < T.length + A.length := by omega
          clear hnx hT hT2 hT0 lT lA lX hk0 hki
          rw [show ((0 : Nat) : Int) = 0 from rfl]
          rw [Nat.zero_mul, Nat.add_zero] at f0 f1 f2
          go_wp2_with (go_at_call 11; refine (HC.out).mono ?_; rintro e w2 ⟨rfl, hb⟩; have HB := Lib.hid hb; clear hb)
          go_roundw
          case rel => exact ⟨1, hlt, rfl, by rw [← HT2.out], HO.out.on HB.out⟩
          case measure => simp [intOf]; omega
      · obtain rfl : k = L := by omega
        have hlast := HJ.out.last
        rw [← HL.out] at hlast
        rw [hlast]
        have HG := Lib.hid hone.bel
        clear hone hlast
        go_wp2
        go_ret
        exact ⟨rfl, HG.out⟩

/-- The reference's text of a type. -/
theorem rtype_any (n : Nat) (t : Ty) : RtIH n t := by
  induction t using Ty.rec' with
  | h nm v ks ih =>
    intro how W c0 c1 c2 hq h
    by_cases hnm : nm = []
    · subst hnm
      exact rtype_var n v ks how W c0 c1 c2 h
    rcases ks with _ | ⟨k0, _ | ⟨k1, ks⟩⟩
    · exact rtype_leaf n nm v how W c0 c1 c2 h hnm
    · exact rtype_one n nm v k0 how W c0 c1 c2 hnm h (ih k0 (by simp))
    · by_cases n2 : nm = [45, 62]
      · have hok := h.ok
        unfold okT at hok
        have := hok.2.1 n2
        obtain rfl : ks = [] := by simpa using this
        subst n2
        exact rtype_fn n v k0 k1 how W c0 c1 c2 hq h (ih k0 (by simp)) (ih k1 (by simp))
      by_cases n3 : nm = [42]
      · subst n3
        exact rtype_pr n v _ how W c0 c1 c2 (by simp) hq h ih
      · exact rtype_many n nm v _ how W c0 c1 c2 hnm n2 n3 (by simp) h ih
end Go.Proofs.YtiimofdbconlhaaDoor
