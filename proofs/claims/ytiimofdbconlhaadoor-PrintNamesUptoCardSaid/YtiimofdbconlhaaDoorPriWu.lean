/- The reference's text of a type of one. -/
import Derived.Test.YtiimofdbconlhaaDoorPriWt
namespace Go.Proofs.YtiimofdbconlhaaDoor
open Go.RowKit PriM

set_option maxRecDepth 100000 in
set_option maxHeartbeats 8000000 in
theorem rtype_one (n : Nat) (nm : List UInt8) (v : Int) (t0 : Ty) (how : Nat) (w : World) (c0 c1 c2 : Value) (hnm : nm ≠ []) (h : RtC n w (.mk nm v [t0]) c0 c1 c2) (ih0 : RtIH n t0) :
    Calls Tryd.prog 11 #[.agg #[c0, c1, c2], .int .i64 (how : Int)] w (TextPost w (rH how (.mk nm v [t0]))) := by
  have hty := h.ty
  have hok := h.ok
  have hln := h.len
  have hnl := h.nl
  have hlow := h.low
  obtain ⟨rfl, rfl, v0, v1, o, c, rfl, hk⟩ := hty
  rcases hk with hk | ⟨b, off, rfl, hb, _, _, hks⟩
  · cases hk
  obtain ⟨⟨p0, p1, p2, e0, e1, e2, hty0⟩, -⟩ := hks
  unfold okT at hok
  obtain ⟨-, h2, h3, -, hok0, -⟩ := hok
  have n2 : nm ≠ [45, 62] := fun e => by have := h2 e; simp at this
  have n3 : nm ≠ [42] := fun e => by have := h3 e; simp at this
  rw [wN_mk] at hnl
  simp only [wNs] at hnl
  have er : rT vn (.mk nm v [t0]) = rH 2 t0 ++ 32 :: nm := by rw [rH2]; simp [rT, rTs, body, hnm]
  have ek : kd (.mk nm v [t0]) = 0 := by rw [kd_mk]; simp
  rw [er] at hln
  have la : (rT vn t0).length ≤ (rH 2 t0).length := by rw [rH2]; exact (paren_len _ _).1
  simp only [List.length_append, List.length_cons] at hln
  have hA : ∀ W, Below w.heap.size w W → Calls Tryd.prog 11 #[.agg #[p0, p1, p2], .int .i64 2] W (TextPost W (rH 2 t0)) := fun W hW =>
    ih0 2 W p0 p1 p2 (by omega) ⟨TyV.below (hW.mono hlow) _ hty0, hok0, Nat.le_trans hlow hW.size, by omega, by omega⟩
  have ep : rH how (.mk nm v [t0]) = rH 2 t0 ++ [32] ++ nm := by
    have : rH how (.mk nm v [t0]) = rT vn (.mk nm v [t0]) := by unfold rH; rw [ek]; simp [paren]
    rw [this, er]
    simp
  rw [ep]
  have HA := Lib.hid hA
  clear hA la er ek ih0 hnl hok0 h h2 h3 ep
  generalize rH 2 t0 = A at *
  obtain ⟨X1, hX1⟩ : ∃ X1, X1 = A ++ [32] := ⟨_, rfl⟩
  obtain ⟨X2, hX2⟩ : ∃ X2, X2 = X1 ++ nm := ⟨_, rfl⟩
  rw [← hX1, ← hX2]
  obtain ⟨S, hS⟩ : ∃ S : ByteArray, S = ⟨nm.toArray⟩ := ⟨_, rfl⟩
  have hz : S.size = nm.length := by rw [hS]; exact size_mk nm
  have hc1 : (⟨A.toArray⟩ : ByteArray) ++ ⟨#[32]⟩ = ⟨X1.toArray⟩ := by rw [hX1]; exact bytes_cat A [32]
  have hc2 : (⟨X1.toArray⟩ : ByteArray) ++ S = ⟨X2.toArray⟩ := by rw [hX2, hS]; exact bytes_cat X1 nm
  have l1 : X1.length = A.length + 1 := by rw [hX1, List.length_append]; rfl
  have ho1 : ¬ 9223372036854775807 < A.length + 1 := by omega
  have ho2 : ¬ 9223372036854775807 < X1.length + S.size := by omega
  clear l1 hX1 hX2 hln hz
  have hbw : b < w.heap.size := Nat.lt_of_lt_of_le hb hlow
  have t1' : (S.toList == []) = false := by rw [hS, toList_mk]; simpa using hnm
  have t2' : S.toList.isEmpty = false := by rw [hS, toList_mk]; simpa using hnm
  have t3' : (S.toList == [45, 62]) = false := by rw [hS, toList_mk]; simpa using n2
  have t4' : (S.toList == [42]) = false := by rw [hS, toList_mk]; simpa using n3
  rw [← hS, show ([t0] : List Ty).length = 1 from rfl]
  have hsf : ∀ W, One w W (.string S) (.int .i64 v) (.slice (some ⟨b, off, none⟩) 1 c) →
      (W.cell? ⟨w.heap.size, 0, none⟩ = some (.string S) ∧ W.cell? ⟨b, off, none⟩ = some p0 ∧ W.cell? ⟨b, off + 1, none⟩ = some p1 ∧ W.cell? ⟨b, off + 2, none⟩ = some p2) := fun W hW =>
    ⟨hW.box.cells.1, (hW.bel.cell hbw).trans e0, (hW.bel.cell hbw).trans e1, (hW.bel.cell hbw).trans e2⟩
  obtain ⟨n0, w0, ks0⟩ := t0
  obtain ⟨rfl, rfl, _, _, o0, c0, rfl, _⟩ := hty0
  have HSF := Lib.hid hsf
  clear hsf e0 e1 e2 hb hbw hS n2 n3 hnm
  generalize (⟨n0.toArray⟩ : ByteArray) = S0 at *
  generalize ks0.length = m0 at *
  have H1 := Lib.hid (One.new w (.string S) (.int .i64 v) (.slice (some ⟨b, off, none⟩) 1 c))
  go_enter Tryd.func11, Tryd.ntmps11
  go_wp2_with fail
  refine wp_region_held_drew (S := fun w' => w'.cell? ⟨w.heap.size, 0, none⟩ = some (.string S) ∧ w'.cell? ⟨b, off, none⟩ = some (.string S0) ∧ w'.cell? ⟨b, off + 1, none⟩ = some (.int .i64 w0) ∧ w'.cell? ⟨b, off + 2, none⟩ = some (.slice o0 m0 c0)) (by kernel_rfl) (HSF.out _ (H1.out.on (Below.drew (Below.refl _ _)))) ?_
  intro hHeld
  refine wpAnyH_take (i := 0) (v := ?_) (by simp only [List.getElem?_toArray, List.getElem?_cons_zero]; rfl) (by kernel_rfl) (by kernel_rfl) (by kernel_rfl) (by intro _ _ _ h; exact h) (Or.inl ⟨by rfl, ?_⟩) (by assumption) ?_
  rotate_left
  · (intro w hSw; (try dsimp only at hSw); go_simp; try with_reducible rfl)
  try simp only [Act.put, List.setIfInBounds_toArray, List.set_cons_zero, List.set_cons_succ]
  refine wpAnyH_take (i := 1) (v := ?_) (by simp only [List.getElem?_toArray, List.getElem?_cons_succ, List.getElem?_cons_zero]; rfl) (by kernel_rfl) (by kernel_rfl) (by kernel_rfl) (by intro _ _ _ h; exact h) (Or.inl ⟨by rfl, ?_⟩) (by assumption) ?_
  rotate_left
  · (intro w hSw; (try dsimp only at hSw); go_simp; try with_reducible rfl)
  try simp only [Act.put, List.setIfInBounds_toArray, List.set_cons_zero, List.set_cons_succ]
  refine wpAnyH_take (i := 2) (v := ?_) (by simp only [List.getElem?_toArray, List.getElem?_cons_succ, List.getElem?_cons_zero]; rfl) (by kernel_rfl) (by kernel_rfl) (by kernel_rfl) (by intro _ _ _ h; exact h) (Or.inl ⟨by rfl, ?_⟩) (by assumption) ?_
  rotate_left
  · (intro w hSw; (try dsimp only at hSw); go_simp; try with_reducible rfl)
  try simp only [Act.put, List.setIfInBounds_toArray, List.set_cons_zero, List.set_cons_succ]
  refine wpAnyH_take (i := 5) (v := ?_) (by simp only [List.getElem?_toArray, List.getElem?_cons_succ, List.getElem?_cons_zero]; rfl) (by kernel_rfl) (by kernel_rfl) (by kernel_rfl) (by intro _ _ _ h; exact h) (Or.inl ⟨by rfl, ?_⟩) (by assumption) ?_
  rotate_left
  · (intro w hSw; (try dsimp only at hSw); go_simp; try with_reducible rfl)
  try simp only [Act.put, List.setIfInBounds_toArray, List.set_cons_zero, List.set_cons_succ]
  refine wpAnyH_take (i := 6) (v := ?_) (by simp only [List.getElem?_toArray, List.getElem?_cons_succ, List.getElem?_cons_zero]; rfl) (by kernel_rfl) (by kernel_rfl) (by kernel_rfl) (by intro _ _ _ h; exact h) (Or.inl ⟨by rfl, ?_⟩) (by assumption) ?_
  rotate_left
  · (intro w hSw; (try dsimp only at hSw); go_simp; try with_reducible rfl)
  try simp only [Act.put, List.setIfInBounds_toArray, List.set_cons_zero, List.set_cons_succ]
  refine wpAnyH_ready (rs := [3]) (by kernel_rfl) (by simp) ?_
  refine AllReadyH.cons (by simp only [List.getElem?_toArray, List.getElem?_cons_succ, List.getElem?_cons_zero]; rfl) (fun K hK => ?_) AllReadyH.nil
  go_simp
  refine (HA.out _ H1.out.bel.drew).mono ?_
  rintro e wB ⟨rfl, hb⟩
  have h2 := (H1.out.on (Below.drew (Below.refl _ _))).on hb
  have H2 := Lib.hid h2
  have HS := HSF.out _ h2
  clear hb h2
  refine hK.out _ _ HS (fun hHeld => ?_)
  clear hK K
  try simp only [Act.put, List.setIfInBounds_toArray, List.set_cons_zero, List.set_cons_succ]
  refine wpAnyH_take (i := 4) (v := ?_) (by simp only [List.getElem?_toArray, List.getElem?_cons_succ, List.getElem?_cons_zero]; rfl) (by kernel_rfl) (by kernel_rfl) (by kernel_rfl) (by intro _ _ _ h; exact h) (Or.inl ⟨by rfl, ?_⟩) (by assumption) ?_
  rotate_left
  · (intro w hSw; (try dsimp only at hSw); go_simp; try with_reducible rfl)
  try simp only [Act.put, List.setIfInBounds_toArray, List.set_cons_zero, List.set_cons_succ]
  refine wpAnyH_take (i := 7) (v := ?_) (by simp only [List.getElem?_toArray, List.getElem?_cons_succ, List.getElem?_cons_zero]; rfl) (by kernel_rfl) (by kernel_rfl) (by kernel_rfl) (by intro _ _ _ h; exact h) (Or.inl ⟨by rfl, ?_⟩) (by assumption) ?_
  rotate_left
  · (intro w hSw; (try dsimp only at hSw); go_simp; try with_reducible rfl)
  try simp only [Act.put, List.setIfInBounds_toArray, List.set_cons_zero, List.set_cons_succ]
  refine wpAnyH_take (i := 8) (v := ?_) (by simp only [List.getElem?_toArray, List.getElem?_cons_succ, List.getElem?_cons_zero]; rfl) (by kernel_rfl) (by kernel_rfl) (by kernel_rfl) (by intro _ _ _ h; exact h) (Or.inl ⟨by rfl, ?_⟩) (by assumption) ?_
  rotate_left
  · (intro w hSw; (try dsimp only at hSw); go_simp; try with_reducible rfl)
  try simp only [Act.put, List.setIfInBounds_toArray, List.set_cons_zero, List.set_cons_succ]
  refine wpAnyH_done (by kernel_rfl) ?_ _
  go_wp2
  go_ret
  exact ⟨rfl, H2.out.bel⟩
end Go.Proofs.YtiimofdbconlhaaDoor
