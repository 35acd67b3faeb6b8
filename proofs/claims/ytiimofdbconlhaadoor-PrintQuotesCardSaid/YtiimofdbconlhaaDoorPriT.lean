/- The parts of a function's type. -/
import Derived.Test.YtiimofdbconlhaaDoorPriQ
namespace Go.Proofs.YtiimofdbconlhaaDoor
open Go.RowKit PriM

theorem fn_row {n : Nat} {w w1 : World} {c0 c1 c2 : Value} {t0 t1 : Ty} {k0 k1 b0 b1 : Nat} (h : One w w1 c0 c1 c2) (h0 : ItP n w1 (.ty t0 k0) ⟨⟨#[]⟩, some (fnOf k0, b0)⟩) (h1 : ItP n w1 (.ty t1 k1) ⟨⟨#[]⟩, some (fnOf k1, b1)⟩) (hn : n ≤ w.heap.size) :
    JPost n w [.ty t0 k0, .txt sArrow, .ty t1 k1] (.returned (.slice (some ⟨w1.heap.size, 0, none⟩) 3 3))
      (w1.alloc (.cells #[.string ⟨#[]⟩, .func (.func (fnOf k0)) #[] #[.pointer (some ⟨b0, 0, none⟩)], .string ⟨#[32, 45, 62, 32]⟩, .nilFunc, .string ⟨#[]⟩, .func (.func (fnOf k1)) #[] #[.pointer (some ⟨b1, 0, none⟩)]] 51)) := by
  have hs := h.size
  have hk : KeepT n w1 (w1.alloc (.cells #[.string ⟨#[]⟩, .func (.func (fnOf k0)) #[] #[.pointer (some ⟨b0, 0, none⟩)], .string ⟨#[32, 45, 62, 32]⟩, .nilFunc, .string ⟨#[]⟩, .func (.func (fnOf k1)) #[] #[.pointer (some ⟨b1, 0, none⟩)]] 51)) := (KeepT.refl n w1).alloc (by omega) _
  exact ⟨_, rfl, ⟨[⟨⟨#[]⟩, some (fnOf k0, b0)⟩, pT sArrow, ⟨⟨#[]⟩, some (fnOf k1, b1)⟩], own_lit (l := [⟨⟨#[]⟩, some (fnOf k0, b0)⟩, pT sArrow, ⟨⟨#[]⟩, some (fnOf k1, b1)⟩]) (heap_alloc_new w1 _) (by omega) (by simp), ⟨h0.kept hk, rfl, h1.kept hk, trivial⟩⟩, h.bel.alloc (by omega) _⟩

set_option maxRecDepth 100000 in
set_option maxHeartbeats 8000000 in
theorem tparts_fn (n : Nat) (v : Int) (t0 t1 : Ty) (S : ByteArray) (o : Option Addr) (c : Nat) (w : World) (h : TyC n w [45, 62] v [t0, t1] S o c) :
    Calls Tryd.prog 33 #[.agg #[.string S, .int .i64 v, .slice o 2 c]] w (JPost n w (tp vn (.mk [45, 62] v [t0, t1]))) := by
  have e : tp vn (.mk [45, 62] v [t0, t1]) = [.ty t0 (if kd t0 = 1 then 1 else 0), .txt sArrow, .ty t1 0] := rfl
  rw [e]
  have hl := h.lens
  have hlen := h.len
  have t1' : (S.toList == []) = false := by rw [hl.2.1]; rfl
  have t2' : S.toList.isEmpty = false := by rw [hl.2.1]; rfl
  have HI := Lib.hid (fun W => (show isFn [45, 62] 2 = true from rfl) ▸ isFunction_any S [45, 62] hl.2.1 v o 2 c W (by omega))
  obtain ⟨_, _, _, _, o', c', e', hk'⟩ := h.ty
  cases e'
  rcases hk' with hk' | ⟨b, off, rfl, hb, _, _, hks⟩
  · cases hk'
  obtain ⟨⟨p0, p1, p2, e0, e1, e2, hty0⟩, ⟨q0, q1, q2, g0, g1, g2, hty1⟩, -⟩ := hks
  have hl0 : t0.kids.length ≤ 1000000000000 := by have := kids_le t0; have := wT_mem (t := t0) (ks := [t0, t1]) (by simp); unfold wT at hlen; omega
  have hl1 : t1.kids.length ≤ 1000000000000 := by have := kids_le t1; have := wT_mem (t := t1) (ks := [t0, t1]) (by simp); unfold wT at hlen; omega
  have H1 := Lib.hid (One.new w (.string S) (.int .i64 v) (.slice (some ⟨b, off, none⟩) 2 c))
  have HN := Lib.hid h.low
  have HTY0 := Lib.hid (fun W (hW : Below w.heap.size w W) => TyV.below (hW.mono h.low) _ hty0)
  have HTY1 := Lib.hid (fun W (hW : Below w.heap.size w W) => TyV.below (hW.mono h.low) _ hty1)
  have hbw : b < w.heap.size := Nat.lt_of_lt_of_le hb h.low
  have hsf : ∀ W, One w W (.string S) (.int .i64 v) (.slice (some ⟨b, off, none⟩) 2 c) →
      (W.cell? ⟨w.heap.size, 2, none⟩ = some (.slice (some ⟨b, off, none⟩) 2 c) ∧ W.cell? ⟨b, off, none⟩ = some p0 ∧ W.cell? ⟨b, off + 1, none⟩ = some p1 ∧ W.cell? ⟨b, off + 2, none⟩ = some p2 ∧
        W.cell? ⟨b, off + 3, none⟩ = some q0 ∧ W.cell? ⟨b, off + 3 + 1, none⟩ = some q1 ∧ W.cell? ⟨b, off + 3 + 2, none⟩ = some q2) := fun W hW =>
    ⟨hW.box.cells.2.2, (hW.bel.cell hbw).trans e0, (hW.bel.cell hbw).trans e1, (hW.bel.cell hbw).trans e2, (hW.bel.cell hbw).trans g0, (hW.bel.cell hbw).trans g1, (hW.bel.cell hbw).trans g2⟩
  obtain ⟨n0, v0, ks0⟩ := t0
  obtain ⟨n1, v1, ks1⟩ := t1
  obtain ⟨rfl, rfl, _, _, o0, c0, rfl, _⟩ := hty0
  obtain ⟨rfl, rfl, _, _, o1, c1, rfl, _⟩ := hty1
  have HL := Lib.hid (fun W => left_one n0 v0 ks0 o0 c0 W hl0)
  have HT := Lib.hid (fun W => typ_one n1 v1 ks1 o1 c1 W hl1)
  have HSF := Lib.hid hsf
  clear hsf h e hl hlen e0 e1 e2 g0 g1 g2 hl0 hl1 hb
  generalize (if kd (.mk n0 v0 ks0) = 1 then 1 else 0) = K0 at *
  generalize (⟨n0.toArray⟩ : ByteArray) = S0 at *
  generalize (⟨n1.toArray⟩ : ByteArray) = S1 at *
  go_enter Tryd.func33, Tryd.ntmps33
  go_wp2_with fail
  go_at_call 45
  refine (HI.out _).mono ?_
  rintro e w1 ⟨rfl, hb⟩
  have h1 := H1.out.on hb
  obtain ⟨a0, a1, a2⟩ := h1.box.cells
  have H2 := Lib.hid h1
  have HS := HSF.out _ h1
  have HN2 := Lib.hid (Nat.le_trans HN.out h1.bel.size)
  clear hb h1 H1
  go_wp2_with fail
  refine wp_region_held_drew (S := fun w' => w'.cell? ⟨w.heap.size, 2, none⟩ = some (.slice (some ⟨b, off, none⟩) 2 c) ∧ w'.cell? ⟨b, off, none⟩ = some (.string S0) ∧ w'.cell? ⟨b, off + 1, none⟩ = some (.int .i64 v0) ∧ w'.cell? ⟨b, off + 2, none⟩ = some (.slice o0 ks0.length c0) ∧
        w'.cell? ⟨b, off + 3, none⟩ = some (.string S1) ∧ w'.cell? ⟨b, off + 3 + 1, none⟩ = some (.int .i64 v1) ∧ w'.cell? ⟨b, off + 3 + 2, none⟩ = some (.slice o1 ks1.length c1)) (by kernel_rfl) HS ?_
  intro hHeld
  clear HS a0 a1 a2
  refine wpAnyH_take (i := 0) (v := ?_) (by simp only [List.getElem?_toArray, List.getElem?_cons_zero]; rfl) (by kernel_rfl) (by kernel_rfl) (by kernel_rfl) (by intro _ _ _ h; exact h) (Or.inl ⟨by rfl, ?_⟩) (by assumption) ?_
  rotate_left
  · (intro w hSw; (try dsimp only at hSw); go_simp; try with_reducible rfl)
  try simp only [Act.put, List.setIfInBounds_toArray, List.set_cons_zero, List.set_cons_succ]
  refine wpAnyH_take (i := 1) (v := ?_) (by simp only [List.getElem?_toArray, List.getElem?_cons_succ, List.getElem?_cons_zero]; rfl) (by kernel_rfl) (by kernel_rfl) (by kernel_rfl) (by intro _ _ _ h; exact h) (Or.inl ⟨by rfl, ?_⟩) (by assumption) ?_
  rotate_left
  · (intro w hSw; (try dsimp only at hSw); go_simp; try with_reducible rfl)
  try simp only [Act.put, List.setIfInBounds_toArray, List.set_cons_zero, List.set_cons_succ]
  refine wpAnyH_take (i := 2) (v := ?_) (by simp only [List.getElem?_toArray, List.getElem?_cons_succ, List.getElem?_cons_zero]; rfl) (by kernel_rfl) (by kernel_rfl) (by kernel_rfl) (by intro _ _ _ h; exact h) (Or.inl ⟨by rfl, ?_⟩) (by assumption) ?_
  rotate_left
  · (intro w hSw; (try dsimp only at hSw); go_simp; try with_reducible rfl)
  try simp only [Act.put, List.setIfInBounds_toArray, List.set_cons_zero, List.set_cons_succ]
  refine wpAnyH_take (i := 3) (v := ?_) (by simp only [List.getElem?_toArray, List.getElem?_cons_succ, List.getElem?_cons_zero]; rfl) (by kernel_rfl) (by kernel_rfl) (by kernel_rfl) (by intro _ _ _ h; exact h) (Or.inl ⟨by rfl, ?_⟩) (by assumption) ?_
  rotate_left
  · (intro w hSw; (try dsimp only at hSw); go_simp; try with_reducible rfl)
  try simp only [Act.put, List.setIfInBounds_toArray, List.set_cons_zero, List.set_cons_succ]
  refine wpAnyH_take (i := 5) (v := ?_) (by simp only [List.getElem?_toArray, List.getElem?_cons_succ, List.getElem?_cons_zero]; rfl) (by kernel_rfl) (by kernel_rfl) (by kernel_rfl) (by intro _ _ _ h; exact h) (Or.inl ⟨by rfl, ?_⟩) (by assumption) ?_
  rotate_left
  · (intro w hSw; (try dsimp only at hSw); go_simp; try with_reducible rfl)
  try simp only [Act.put, List.setIfInBounds_toArray, List.set_cons_zero, List.set_cons_succ]
  refine wpAnyH_take (i := 6) (v := ?_) (by simp only [List.getElem?_toArray, List.getElem?_cons_succ, List.getElem?_cons_zero]; rfl) (by kernel_rfl) (by kernel_rfl) (by kernel_rfl) (by intro _ _ _ h; exact h) (Or.inl ⟨by rfl, ?_⟩) (by assumption) ?_
  rotate_left
  · (intro w hSw; (try dsimp only at hSw); go_simp; try with_reducible rfl)
  try simp only [Act.put, List.setIfInBounds_toArray, List.set_cons_zero, List.set_cons_succ]
  refine wpAnyH_take (i := 7) (v := ?_) (by simp only [List.getElem?_toArray, List.getElem?_cons_succ, List.getElem?_cons_zero]; rfl) (by kernel_rfl) (by kernel_rfl) (by kernel_rfl) (by intro _ _ _ h; exact h) (Or.inl ⟨by rfl, ?_⟩) (by assumption) ?_
  rotate_left
  · (intro w hSw; (try dsimp only at hSw); go_simp; try with_reducible rfl)
  try simp only [Act.put, List.setIfInBounds_toArray, List.set_cons_zero, List.set_cons_succ]
  refine wpAnyH_take (i := 8) (v := ?_) (by simp only [List.getElem?_toArray, List.getElem?_cons_succ, List.getElem?_cons_zero]; rfl) (by kernel_rfl) (by kernel_rfl) (by kernel_rfl) (by intro _ _ _ h; exact h) (Or.inl ⟨by rfl, ?_⟩) (by assumption) ?_
  rotate_left
  · (intro w hSw; (try dsimp only at hSw); go_simp; try with_reducible rfl)
  try simp only [Act.put, List.setIfInBounds_toArray, List.set_cons_zero, List.set_cons_succ]
  refine wpAnyH_take (i := 9) (v := ?_) (by simp only [List.getElem?_toArray, List.getElem?_cons_succ, List.getElem?_cons_zero]; rfl) (by kernel_rfl) (by kernel_rfl) (by kernel_rfl) (by intro _ _ _ h; exact h) (Or.inl ⟨by rfl, ?_⟩) (by assumption) ?_
  rotate_left
  · (intro w hSw; (try dsimp only at hSw); go_simp; try with_reducible rfl)
  try simp only [Act.put, List.setIfInBounds_toArray, List.set_cons_zero, List.set_cons_succ]
  refine wpAnyH_ready (rs := [4]) (by kernel_rfl) (by simp) ?_
  refine AllReadyH.cons (by simp only [List.getElem?_toArray, List.getElem?_cons_succ, List.getElem?_cons_zero]; rfl) (fun K hK => ?_) AllReadyH.nil
  go_simp
  refine (HL.out _).mono ?_
  intro e wB hp
  obtain ⟨bl, rfl, hil, hb⟩ := PartR.itP hp (HTY0.out _ H2.out.bel.drew) (HN2.out)
  have h3 := ((H2.out.on (Below.drew (Below.refl _ _)))).on hb
  have H3 := Lib.hid h3
  have HIL := Lib.hid hil
  have HS := HSF.out _ h3
  clear hp hil
  clear hb h3
  refine hK.out _ _ HS (fun hHeld => ?_)
  clear hK K
  try simp only [Act.put, List.setIfInBounds_toArray, List.set_cons_zero, List.set_cons_succ]
  refine wpAnyH_ready (rs := [10]) (by kernel_rfl) (by simp) ?_
  refine AllReadyH.cons (by simp only [List.getElem?_toArray, List.getElem?_cons_succ, List.getElem?_cons_zero]; rfl) (fun K hK => ?_) AllReadyH.nil
  go_simp
  refine (HT.out _).mono ?_
  intro e wC hp
  obtain ⟨br, rfl, hir, hb⟩ := PartR.itP hp (HTY1.out _ H3.out.bel) (Nat.le_trans HN.out H3.out.bel.size)
  have h3 := (H3.out).on hb
  have H4 := Lib.hid h3
  have HIR := Lib.hid hir
  have HS := HSF.out _ h3
  clear hp hir
  have HIL := Lib.hid (ItP.kept (KeepT.of_below hb (Nat.le_trans HN.out H3.out.bel.size)) HIL.out)
  clear hb h3
  refine hK.out _ _ HS (fun hHeld => ?_)
  clear hK K
  try simp only [Act.put, List.setIfInBounds_toArray, List.set_cons_zero, List.set_cons_succ]
  have HF := Lib.hid (fn_row H4.out HIL.out HIR.out HN.out)
  refine wpAnyH_ready (rs := [11]) (by kernel_rfl) (by simp) ?_
  refine AllReadyH.cons (by simp only [List.getElem?_toArray, List.getElem?_cons_succ, List.getElem?_cons_zero]; rfl) (fun K hK => ?_) AllReadyH.nil
  go_simp
  refine hK.out _ _ (HSF.out _ (H4.out.on ((Below.refl _ _).alloc (Nat.le_refl _) _))) (fun hHeld => ?_)
  clear hK K
  try simp only [Act.put, List.setIfInBounds_toArray, List.set_cons_zero, List.set_cons_succ]
  refine wpAnyH_take (i := 12) (v := ?_) (by simp only [List.getElem?_toArray, List.getElem?_cons_succ, List.getElem?_cons_zero]; rfl) (by kernel_rfl) (by kernel_rfl) (by kernel_rfl) (by intro _ _ _ h; exact h) (Or.inl ⟨by rfl, ?_⟩) (by assumption) ?_
  rotate_left
  · (intro w hSw; (try dsimp only at hSw); go_simp; try with_reducible rfl)
  try simp only [Act.put, List.setIfInBounds_toArray, List.set_cons_zero, List.set_cons_succ]
  refine wpAnyH_done (by kernel_rfl) ?_ _
  go_wp2
  go_ret
  exact HF.out
end Go.Proofs.YtiimofdbconlhaaDoor
