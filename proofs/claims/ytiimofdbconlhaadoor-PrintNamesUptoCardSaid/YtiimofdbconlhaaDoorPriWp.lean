/- The reference's text of a product. -/
import Derived.Test.YtiimofdbconlhaaDoorPriWu
namespace Go.Proofs.YtiimofdbconlhaaDoor
open Go.RowKit PriM

/-- Texts joined, one after the other. -/
structure Jn (G : List UInt8) (q : Nat) (ks : List Ty) (P : Nat → List UInt8) (X : List UInt8) : Prop where
  zero : P 0 = []
  next : ∀ k (h : k < ks.length), P (k + 1) = if k = 0 then rH q ks[k] else P k ++ G ++ rH q ks[k]
  last : P ks.length = X
  le : ∀ k, (P k).length ≤ X.length
  kid : ∀ t ∈ ks, (rH q t).length ≤ X.length

theorem Jn.new (G : List UInt8) (q : Nat) (ks : List Ty) : Jn G q ks (fun k => inter G ((ks.map (rH q)).take k)) (inter G (ks.map (rH q))) where
  zero := by simp [inter]
  next k h := by
    show inter G ((ks.map (rH q)).take (k + 1)) = _
    rw [inter_take G _ k (by simpa using h)]
    simp
  last := by show inter G ((ks.map (rH q)).take ks.length) = _; rw [show ks.length = (ks.map (rH q)).length by simp, List.take_length]
  le k := inter_take_le G _ k
  kid t ht := inter_mem G _ _ (List.mem_map_of_mem ht)

theorem rH_le (q : Nat) (t : Ty) : (rT vn t).length ≤ (rH q t).length := (paren_len _ _).1

set_option maxRecDepth 100000 in
set_option maxHeartbeats 16000000 in
theorem rtype_pr (n : Nat) (v : Int) (ks : List Ty) (how : Nat) (w : World) (c0 c1 c2 : Value) (hk2 : 2 ≤ ks.length) (hq : how ≤ 2) (h : RtC n w (.mk [42] v ks) c0 c1 c2) (ih : ∀ t ∈ ks, RtIH n t) :
    Calls Tryd.prog 11 #[.agg #[c0, c1, c2], .int .i64 (how : Int)] w (TextPost w (rH how (.mk [42] v ks))) := by
  have hty := h.ty
  have hok := h.ok
  have hln := h.len
  have hnl := h.nl
  have hlow := h.low
  obtain ⟨rfl, rfl, v0, v1, o, c, rfl, hk⟩ := hty
  rcases hk with hk | ⟨b, off, rfl, hb, _, _, hks⟩
  · rw [hk] at hk2; simp at hk2
  unfold okT at hok
  obtain ⟨-, h2, h3, hl6, hoks⟩ := hok
  rw [wN_mk] at hnl
  have er : rT vn (.mk [42] v ks) = inter sStar (ks.map (rH 2)) := by
    unfold rT body
    rw [rTs_eq, if_neg (by simp), if_neg (by simp), if_pos ⟨rfl, by simpa using hk2⟩, List.map_map]
    congr 1
    apply List.map_congr_left
    intro t _
    rw [rH2]
    rfl
  have ek : kd (.mk [42] v ks) = 2 := by rw [kd_mk, if_neg (by simp), if_pos ⟨rfl, hk2⟩]
  rw [er] at hln
  obtain ⟨P, X, HX, hJ⟩ : ∃ P X, X = inter sStar (ks.map (rH 2)) ∧ Jn sStar 2 ks P X := ⟨_, _, rfl, Jn.new _ _ _⟩
  rw [← HX] at er hln
  have ep : 1 < how → rH how (.mk [42] v ks) = 40 :: X ++ [41] := by
    intro hp
    unfold rH
    rw [ek, er]
    simp [hp, paren]
  have en : ¬ 1 < how → rH how (.mk [42] v ks) = X := by
    intro hp
    unfold rH
    rw [ek, er]
    simp [hp, paren]
  obtain ⟨X3, hX3⟩ : ∃ X3, X3 = 40 :: X := ⟨_, rfl⟩
  obtain ⟨X4, hX4⟩ : ∃ X4, X4 = X3 ++ [41] := ⟨_, rfl⟩
  rw [← hX3, ← hX4] at ep
  have hc3 : (⟨#[40]⟩ : ByteArray) ++ ⟨X.toArray⟩ = ⟨X3.toArray⟩ := by rw [hX3]; exact bytes_cat [40] X
  have hc4 : (⟨X3.toArray⟩ : ByteArray) ++ ⟨#[41]⟩ = ⟨X4.toArray⟩ := by rw [hX4]; exact bytes_cat X3 [41]
  have l3 : X3.length = X.length + 1 := by rw [hX3, List.length_cons]
  have ho3 : ¬ 9223372036854775807 < 1 + X.length := by omega
  have ho4 : ¬ 9223372036854775807 < X3.length + 1 := by omega
  clear l3 hX3 hX4 ek
  have HIH := Lib.hid (fun t (ht : t ∈ ks) W q0 q1 q2 (hq : TyV n W t q0 q1 q2) (hn : n ≤ W.heap.size) =>
    ((ih t ht 2 W q0 q1 q2 (by omega) ⟨hq, okTs_mem hoks t ht, hn, by have := rH_le 2 t; have := hJ.kid t ht; omega, by have := wN_mem ht; omega⟩) :
      Calls Tryd.prog 11 #[.agg #[q0, q1, q2], .int .i64 2] W (TextPost W (rH 2 t))))
  have HKS := Lib.hid hks
  have HN := Lib.hid hlow
  have HJ := Lib.hid hJ
  have hXl : X.length ≤ 100000000000000 := by omega
  have HXL := Lib.hid hXl
  obtain ⟨S, hS⟩ : ∃ S : ByteArray, S = ⟨([42] : List UInt8).toArray⟩ := ⟨_, rfl⟩
  have t1' : (S.toList == []) = false := by rw [hS, toList_mk]; rfl
  have t2' : S.toList.isEmpty = false := by rw [hS, toList_mk]; rfl
  have t3' : (S.toList == [45, 62]) = false := by rw [hS, toList_mk]; rfl
  have t4' : (S.toList == [42]) = true := by rw [hS, toList_mk]; rfl
  rw [← hS]
  have H1 := Lib.hid (One.new w (.string S) (.int .i64 v) (.slice (some ⟨b, off, none⟩) ks.length c))
  obtain ⟨L, hL⟩ : ∃ L, L = ks.length := ⟨_, rfl⟩
  have q3 : ¬ ((L : Int) < 0) := by omega
  have q4 : (0 < (L : Int)) := by omega
  have q5 : ((L : Int) == 0) = false := by simp; omega
  have q6 : ((L : Int) == 1) = false := by simp; omega
  have q7 : L ≤ 6 := by omega
  have HL := Lib.hid hL
  rw [← hL] at H1 ⊢
  clear hJ hks hlow hln hnl hoks h2 h3 hl6 h er HX ih hk2 hS hXl hL
  by_cases hp : 1 < how
  all_goals
    first
    | (rw [ep hp]; have hpi : (1 : Int) < (how : Int) := by omega)
    | (rw [en hp]; have hpi : ¬ (1 : Int) < (how : Int) := by omega)
    clear ep en hp
    go_enter Tryd.func11, Tryd.ntmps11
    go_wp2_with fail
    go_loopw [5, 7] (fun s i wr => ∃ k : Nat, k ≤ L ∧ i = .int .i64 k ∧ s = .string ⟨(P k).toArray⟩ ∧ One w wr (.string S) (.int .i64 v) (.slice (some ⟨b, off, none⟩) L c)) (fun _ i _ => L - (intOf i).toNat)
    case atStart => exact ⟨0, Nat.zero_le _, rfl, by rw [HJ.out.zero], H1.out⟩
    case round =>
      obtain ⟨k, hk, rfl, rfl, hone⟩ := hrel
      obtain ⟨a0, a1, a2⟩ := hone.box.cells
      by_cases hlt : k < L
      · have hltk : k < ks.length := by rw [← HL.out]; exact hlt
        obtain ⟨q0, q1, q2, f0, f1, f2, hty⟩ := (TysV.below (hone.bel.mono HN.out) hb ks HKS.out).get k hltk
        have hcall := HIH.out ks[k] (List.getElem_mem _) wr q0 q1 q2 hty (Nat.le_trans HN.out hone.bel.size)
        have hnx := HJ.out.next k hltk
        have lT := HJ.out.le k
        have lA := HJ.out.kid ks[k] (List.getElem_mem _)
        have lX := HXL.out
        generalize rH 2 ks[k] = A at *
        generalize ks[k] = t at *
        obtain ⟨n', v', k'⟩ := t
        obtain ⟨rfl, rfl, -, -, o', c', rfl, -⟩ := hty
        have HC := Lib.hid hcall
        have HO := Lib.hid hone
        clear hone hcall hltk
        generalize (⟨n'.toArray⟩ : ByteArray) = S' at *
        generalize k'.length = m' at *
        obtain ⟨T, hT⟩ : ∃ T, T = P k := ⟨_, rfl⟩
        obtain ⟨T2, hT2⟩ : ∃ T2, T2 = P (k + 1) := ⟨_, rfl⟩
        rw [← hT] at lT ⊢
        rw [← hT, ← hT2] at hnx
        have HT2 := Lib.hid hT2.symm
        by_cases hk0 : 0 < k
        · have hki : (0 : Int) < (k : Int) := by omega
          rw [if_neg (by omega)] at hnx
          obtain ⟨T1, hT1⟩ : ∃ T1, T1 = T ++ sStar := ⟨_, rfl⟩
          rw [← hT1] at hnx
          have l1 : T1.length = T.length + 3 := by rw [hT1, List.length_append]; rfl
          have hc1 : (⟨T.toArray⟩ : ByteArray) ++ ⟨#[32, 42, 32]⟩ = ⟨T1.toArray⟩ := by rw [hT1]; exact bytes_cat T sStar
          have hc2 : (⟨T1.toArray⟩ : ByteArray) ++ ⟨A.toArray⟩ = ⟨T2.toArray⟩ := by rw [hnx]; exact bytes_cat T1 A
          have ho1 : ¬ 9223372036854775807 < T.length + 3 := by omega
          have ho2 : ¬ 9223372036854775807 < T1.length + A.length := by omega
          clear hnx hT hT1 hT2 l1 lT lA lX
          go_wp2_with (go_at_call 11; refine (HC.out).mono ?_; rintro e w2 ⟨rfl, hb⟩; have HB := Lib.hid hb; clear hb)
          go_roundw
          case rel => exact ⟨k + 1, hlt, by go_num, by rw [HT2.out], HO.out.on HB.out⟩
          case measure => simp [intOf]; omega
        · have hki : ¬ (0 : Int) < (k : Int) := by omega
          obtain rfl : k = 0 := by omega
          rw [if_pos rfl] at hnx
          have hT0 : T = [] := by rw [hT, HJ.out.zero]
          have hc2 : (⟨T.toArray⟩ : ByteArray) ++ ⟨A.toArray⟩ = ⟨T2.toArray⟩ := by rw [hnx, hT0]; exact bytes_cat [] A
          have ho2 : ¬ 9223372036854775807 < T.length + A.length := by omega
          clear hnx hT hT2 hT0 lT lA lX hk0 hki
          rw [show ((0 : Nat) : Int) = 0 from rfl]
          rw [Nat.zero_mul, Nat.add_zero] at f0 f1 f2
          go_wp2_with (go_at_call 11; refine (HC.out).mono ?_; rintro e w2 ⟨rfl, hb⟩; have HB := Lib.hid hb; clear hb)
          go_roundw
          case rel => exact ⟨1, hlt, rfl, by rw [← HT2.out], HO.out.on HB.out⟩
          case measure => simp [intOf]; omega
      · obtain rfl : k = L := by omega
        have hlast := HJ.out.last
        rw [← HL.out] at hlast
        rw [hlast]
        have HG := Lib.hid hone.bel
        clear hone hlast
        go_wp2
        go_ret
        exact ⟨rfl, HG.out⟩
end Go.Proofs.YtiimofdbconlhaaDoor
