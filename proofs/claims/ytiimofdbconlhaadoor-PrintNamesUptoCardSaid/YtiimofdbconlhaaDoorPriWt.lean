/- The reference's text of a function. -/
import Derived.Test.YtiimofdbconlhaaDoorPriWn
namespace Go.Proofs.YtiimofdbconlhaaDoor
open Go.RowKit PriM

/-- What is known of a kid. -/
abbrev RtIH (n : Nat) (t : Ty) : Prop := ∀ (how : Nat) (W : World) (c0 c1 c2 : Value), how ≤ 2 → RtC n W t c0 c1 c2 → Calls Tryd.prog 11 #[.agg #[c0, c1, c2], .int .i64 (how : Int)] W (TextPost W (rH how t))

set_option maxRecDepth 100000 in
set_option maxHeartbeats 8000000 in
theorem rtype_fn (n : Nat) (v : Int) (t0 t1 : Ty) (how : Nat) (w : World) (c0 c1 c2 : Value) (hq : how ≤ 2) (h : RtC n w (.mk [45, 62] v [t0, t1]) c0 c1 c2) (ih0 : RtIH n t0) (ih1 : RtIH n t1) :
    Calls Tryd.prog 11 #[.agg #[c0, c1, c2], .int .i64 (how : Int)] w (TextPost w (rH how (.mk [45, 62] v [t0, t1]))) := by
  have hty := h.ty
  have hok := h.ok
  have hln := h.len
  have hnl := h.nl
  have hlow := h.low
  obtain ⟨rfl, rfl, v0, v1, o, c, rfl, hk⟩ := hty
  rcases hk with hk | ⟨b, off, rfl, hb, _, _, hks⟩
  · cases hk
  obtain ⟨⟨p0, p1, p2, e0, e1, e2, hty0⟩, ⟨q0, q1, q2, g0, g1, g2, hty1⟩, -⟩ := hks
  unfold okT at hok
  obtain ⟨-, -, -, -, hok0, hok1, -⟩ := hok
  rw [wN_mk] at hnl
  simp only [wNs] at hnl
  have er : rT vn (.mk [45, 62] v [t0, t1]) = rH 1 t0 ++ sArrow ++ rH 0 t1 := by rw [rH0, rH1]; rfl
  have ek : kd (.mk [45, 62] v [t0, t1]) = 1 := by rw [kd_mk]; simp
  rw [er] at hln
  have la : (rT vn t0).length ≤ (rH 1 t0).length := by rw [rH1]; exact (paren_len _ _).1
  have lb : (rT vn t1).length ≤ (rH 0 t1).length := by rw [rH0]; exact Nat.le_refl _
  have ls : sArrow.length = 4 := rfl
  simp only [List.length_append, ls] at hln
  have hA : ∀ W, Below w.heap.size w W → Calls Tryd.prog 11 #[.agg #[p0, p1, p2], .int .i64 1] W (TextPost W (rH 1 t0)) := fun W hW =>
    ih0 1 W p0 p1 p2 (by omega) ⟨TyV.below (hW.mono hlow) _ hty0, hok0, Nat.le_trans hlow hW.size, by omega, by omega⟩
  have hB : ∀ W, Below w.heap.size w W → Calls Tryd.prog 11 #[.agg #[q0, q1, q2], .int .i64 0] W (TextPost W (rH 0 t1)) := fun W hW =>
    ih1 0 W q0 q1 q2 (by omega) ⟨TyV.below (hW.mono hlow) _ hty1, hok1, Nat.le_trans hlow hW.size, by omega, by omega⟩
  have ep : 0 < how → rH how (.mk [45, 62] v [t0, t1]) = 40 :: (rH 1 t0 ++ sArrow ++ rH 0 t1) ++ [41] := by
    intro hp
    unfold rH
    rw [ek, er]
    simp [hp, paren, rH]
  have en : ¬ 0 < how → rH how (.mk [45, 62] v [t0, t1]) = rH 1 t0 ++ sArrow ++ rH 0 t1 := by
    intro hp
    have : how = 0 := by omega
    subst this
    rw [rH0, er]
  have HA := Lib.hid hA
  have HB := Lib.hid hB
  clear hA hB la lb er ek ih0 ih1 hnl hok0 hok1 h
  generalize rH 1 t0 = A at *
  generalize rH 0 t1 = B at *
  obtain ⟨X1, hX1⟩ : ∃ X1, X1 = A ++ sArrow := ⟨_, rfl⟩
  obtain ⟨X2, hX2⟩ : ∃ X2, X2 = X1 ++ B := ⟨_, rfl⟩
  obtain ⟨X3, hX3⟩ : ∃ X3, X3 = 40 :: X2 := ⟨_, rfl⟩
  obtain ⟨X4, hX4⟩ : ∃ X4, X4 = X3 ++ [41] := ⟨_, rfl⟩
  rw [← hX1, ← hX2] at ep en
  rw [← hX3, ← hX4] at ep
  have hc1 : (⟨A.toArray⟩ : ByteArray) ++ ⟨#[32, 45, 62, 32]⟩ = ⟨X1.toArray⟩ := by rw [hX1]; exact bytes_cat A sArrow
  have hc2 : (⟨X1.toArray⟩ : ByteArray) ++ ⟨B.toArray⟩ = ⟨X2.toArray⟩ := by rw [hX2]; exact bytes_cat X1 B
  have hc3 : (⟨#[40]⟩ : ByteArray) ++ ⟨X2.toArray⟩ = ⟨X3.toArray⟩ := by rw [hX3]; exact bytes_cat [40] X2
  have hc4 : (⟨X3.toArray⟩ : ByteArray) ++ ⟨#[41]⟩ = ⟨X4.toArray⟩ := by rw [hX4]; exact bytes_cat X3 [41]
  have l1 : X1.length = A.length + 4 := by rw [hX1, List.length_append, ls]
  have l2 : X2.length = X1.length + B.length := by rw [hX2, List.length_append]
  have l3 : X3.length = X2.length + 1 := by rw [hX3, List.length_cons]
  have ho1 : ¬ 9223372036854775807 < A.length + 4 := by omega
  have ho2 : ¬ 9223372036854775807 < X1.length + B.length := by omega
  have ho3 : ¬ 9223372036854775807 < 1 + X2.length := by omega
  have ho4 : ¬ 9223372036854775807 < X3.length + 1 := by omega
  clear l1 l2 l3 ls hX1 hX2 hX3 hX4 hln
  have hbw : b < w.heap.size := Nat.lt_of_lt_of_le hb hlow
  have hsf : ∀ W, Below w.heap.size w W →
      (W.cell? ⟨b, off, none⟩ = some p0 ∧ W.cell? ⟨b, off + 1, none⟩ = some p1 ∧ W.cell? ⟨b, off + 2, none⟩ = some p2 ∧
        W.cell? ⟨b, off + 3, none⟩ = some q0 ∧ W.cell? ⟨b, off + 3 + 1, none⟩ = some q1 ∧ W.cell? ⟨b, off + 3 + 2, none⟩ = some q2) := fun W hW =>
    ⟨(hW.cell hbw).trans e0, (hW.cell hbw).trans e1, (hW.cell hbw).trans e2, (hW.cell hbw).trans g0, (hW.cell hbw).trans g1, (hW.cell hbw).trans g2⟩
  obtain ⟨n0, w0, ks0⟩ := t0
  obtain ⟨n1, w1, ks1⟩ := t1
  obtain ⟨rfl, rfl, _, _, o0, c0, rfl, _⟩ := hty0
  obtain ⟨rfl, rfl, _, _, o1, c1, rfl, _⟩ := hty1
  have HSF := Lib.hid hsf
  clear hsf e0 e1 e2 g0 g1 g2 hb hbw
  generalize (⟨n0.toArray⟩ : ByteArray) = S0 at *
  generalize (⟨n1.toArray⟩ : ByteArray) = S1 at *
  generalize ks0.length = m0 at *
  generalize ks1.length = m1 at *
  obtain ⟨S, hS⟩ : ∃ S : ByteArray, S = ⟨([45, 62] : List UInt8).toArray⟩ := ⟨_, rfl⟩
  have t1' : (S.toList == []) = false := by rw [hS, toList_mk]; rfl
  have t2' : S.toList.isEmpty = false := by rw [hS, toList_mk]; rfl
  have t3' : (S.toList == [45, 62]) = true := by rw [hS, toList_mk]; rfl
  rw [← hS]
  clear hS
  have H1 := Lib.hid (One.new w (.string S) (.int .i64 v) (.slice (some ⟨b, off, none⟩) 2 c))
  rw [show ([(.mk n0 w0 ks0 : Ty), .mk n1 w1 ks1] : List Ty).length = 2 from rfl]
  by_cases hp : 0 < how
  all_goals
    first
    | (rw [ep hp]; have hpi : (0 : Int) < (how : Int) := by omega)
    | (rw [en hp]; have hpi : ¬ (0 : Int) < (how : Int) := by omega)
    clear ep en hp
    go_enter Tryd.func11, Tryd.ntmps11
    go_wp2_with fail
    refine wp_region_held_drew (S := fun w' => w'.cell? ⟨b, off, none⟩ = some (.string S0) ∧ w'.cell? ⟨b, off + 1, none⟩ = some (.int .i64 w0) ∧ w'.cell? ⟨b, off + 2, none⟩ = some (.slice o0 m0 c0) ∧
        w'.cell? ⟨b, off + 3, none⟩ = some (.string S1) ∧ w'.cell? ⟨b, off + 3 + 1, none⟩ = some (.int .i64 w1) ∧ w'.cell? ⟨b, off + 3 + 2, none⟩ = some (.slice o1 m1 c1)) (by kernel_rfl) (HSF.out _ H1.out.bel.drew) ?_
    intro hHeld
    refine wpAnyH_take (i := 0) (v := ?_) (by simp only [List.getElem?_toArray, List.getElem?_cons_zero]; rfl) (by kernel_rfl) (by kernel_rfl) (by kernel_rfl) (by intro _ _ _ h; exact h) (Or.inl ⟨by rfl, ?_⟩) (by assumption) ?_
    rotate_left
    · (intro w hSw; (try dsimp only at hSw); go_simp; try with_reducible rfl)
    try simp only [Act.put, List.setIfInBounds_toArray, List.set_cons_zero, List.set_cons_succ]
    refine wpAnyH_take (i := 1) (v := ?_) (by simp only [List.getElem?_toArray, List.getElem?_cons_succ, List.getElem?_cons_zero]; rfl) (by kernel_rfl) (by kernel_rfl) (by kernel_rfl) (by intro _ _ _ h; exact h) (Or.inl ⟨by rfl, ?_⟩) (by assumption) ?_
    rotate_left
    · (intro w hSw; (try dsimp only at hSw); go_simp; try with_reducible rfl)
    try simp only [Act.put, List.setIfInBounds_toArray, List.set_cons_zero, List.set_cons_succ]
    refine wpAnyH_take (i := 2) (v := ?_) (by simp only [List.getElem?_toArray, List.getElem?_cons_succ, List.getElem?_cons_zero]; rfl) (by kernel_rfl) (by kernel_rfl) (by kernel_rfl) (by intro _ _ _ h; exact h) (Or.inl ⟨by rfl, ?_⟩) (by assumption) ?_
    rotate_left
    · (intro w hSw; (try dsimp only at hSw); go_simp; try with_reducible rfl)
    try simp only [Act.put, List.setIfInBounds_toArray, List.set_cons_zero, List.set_cons_succ]
    refine wpAnyH_take (i := 5) (v := ?_) (by simp only [List.getElem?_toArray, List.getElem?_cons_succ, List.getElem?_cons_zero]; rfl) (by kernel_rfl) (by kernel_rfl) (by kernel_rfl) (by intro _ _ _ h; exact h) (Or.inl ⟨by rfl, ?_⟩) (by assumption) ?_
    rotate_left
    · (intro w hSw; (try dsimp only at hSw); go_simp; try with_reducible rfl)
    try simp only [Act.put, List.setIfInBounds_toArray, List.set_cons_zero, List.set_cons_succ]
    refine wpAnyH_take (i := 6) (v := ?_) (by simp only [List.getElem?_toArray, List.getElem?_cons_succ, List.getElem?_cons_zero]; rfl) (by kernel_rfl) (by kernel_rfl) (by kernel_rfl) (by intro _ _ _ h; exact h) (Or.inl ⟨by rfl, ?_⟩) (by assumption) ?_
    rotate_left
    · (intro w hSw; (try dsimp only at hSw); go_simp; try with_reducible rfl)
    try simp only [Act.put, List.setIfInBounds_toArray, List.set_cons_zero, List.set_cons_succ]
    refine wpAnyH_take (i := 7) (v := ?_) (by simp only [List.getElem?_toArray, List.getElem?_cons_succ, List.getElem?_cons_zero]; rfl) (by kernel_rfl) (by kernel_rfl) (by kernel_rfl) (by intro _ _ _ h; exact h) (Or.inl ⟨by rfl, ?_⟩) (by assumption) ?_
    rotate_left
    · (intro w hSw; (try dsimp only at hSw); go_simp; try with_reducible rfl)
    try simp only [Act.put, List.setIfInBounds_toArray, List.set_cons_zero, List.set_cons_succ]
    refine wpAnyH_ready (rs := [3]) (by kernel_rfl) (by simp) ?_
    refine AllReadyH.cons (by simp only [List.getElem?_toArray, List.getElem?_cons_succ, List.getElem?_cons_zero]; rfl) (fun K hK => ?_) AllReadyH.nil
    go_simp
    refine (HA.out _ H1.out.bel.drew).mono ?_
    rintro e wB ⟨rfl, hb⟩
    have h2 := (H1.out.on (Below.drew (Below.refl _ _))).on hb
    have H2 := Lib.hid h2
    have HS := HSF.out _ h2.bel
    clear hb h2
    refine hK.out _ _ HS (fun hHeld => ?_)
    clear hK K
    try simp only [Act.put, List.setIfInBounds_toArray, List.set_cons_zero, List.set_cons_succ]
    refine wpAnyH_take (i := 4) (v := ?_) (by simp only [List.getElem?_toArray, List.getElem?_cons_succ, List.getElem?_cons_zero]; rfl) (by kernel_rfl) (by kernel_rfl) (by kernel_rfl) (by intro _ _ _ h; exact h) (Or.inl ⟨by rfl, ?_⟩) (by assumption) ?_
    rotate_left
    · (intro w hSw; (try dsimp only at hSw); go_simp; try with_reducible rfl)
    try simp only [Act.put, List.setIfInBounds_toArray, List.set_cons_zero, List.set_cons_succ]
    refine wpAnyH_ready (rs := [8]) (by kernel_rfl) (by simp) ?_
    refine AllReadyH.cons (by simp only [List.getElem?_toArray, List.getElem?_cons_succ, List.getElem?_cons_zero]; rfl) (fun K hK => ?_) AllReadyH.nil
    go_simp
    refine (HB.out _ H2.out.bel).mono ?_
    rintro e wC ⟨rfl, hb⟩
    have h3 := H2.out.on hb
    have H3 := Lib.hid h3
    have HS := HSF.out _ h3.bel
    clear hb h3
    refine hK.out _ _ HS (fun hHeld => ?_)
    clear hK K
    try simp only [Act.put, List.setIfInBounds_toArray, List.set_cons_zero, List.set_cons_succ]
    refine wpAnyH_take (i := 9) (v := ?_) (by simp only [List.getElem?_toArray, List.getElem?_cons_succ, List.getElem?_cons_zero]; rfl) (by kernel_rfl) (by kernel_rfl) (by kernel_rfl) (by intro _ _ _ h; exact h) (Or.inl ⟨by rfl, ?_⟩) (by assumption) ?_
    rotate_left
    · (intro w hSw; (try dsimp only at hSw); go_simp; try with_reducible rfl)
    try simp only [Act.put, List.setIfInBounds_toArray, List.set_cons_zero, List.set_cons_succ]
    refine wpAnyH_take (i := 10) (v := ?_) (by simp only [List.getElem?_toArray, List.getElem?_cons_succ, List.getElem?_cons_zero]; rfl) (by kernel_rfl) (by kernel_rfl) (by kernel_rfl) (by intro _ _ _ h; exact h) (Or.inl ⟨by rfl, ?_⟩) (by assumption) ?_
    rotate_left
    · (intro w hSw; (try dsimp only at hSw); go_simp; try with_reducible rfl)
    try simp only [Act.put, List.setIfInBounds_toArray, List.set_cons_zero, List.set_cons_succ]
    refine wpAnyH_done (by kernel_rfl) ?_ _
    go_wp2
    go_ret
    exact ⟨rfl, H3.out.bel⟩
end Go.Proofs.YtiimofdbconlhaaDoor
