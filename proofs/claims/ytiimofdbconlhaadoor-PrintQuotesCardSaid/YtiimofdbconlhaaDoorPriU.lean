/- The parts of a type of one. -/
import Derived.Test.YtiimofdbconlhaaDoorPriT
namespace Go.Proofs.YtiimofdbconlhaaDoor
open Go.RowKit PriM

theorem cat_blank (l : List UInt8) : (⟨#[32]⟩ : ByteArray) ++ ⟨l.toArray⟩ = ⟨(32 :: l).toArray⟩ := bytes_cat [32] l

theorem one_row {n : Nat} {w w1 : World} {c0 c1 c2 : Value} {t0 : Ty} {k0 b0 : Nat} {s : List UInt8} (h : One w w1 c0 c1 c2) (h0 : ItP n w1 (.ty t0 k0) ⟨⟨#[]⟩, some (fnOf k0, b0)⟩) (hn : n ≤ w.heap.size) :
    JPost n w [.ty t0 k0, .txt s] (.returned (.slice (some ⟨w1.heap.size, 0, none⟩) 2 2))
      (w1.alloc (.cells #[.string ⟨#[]⟩, .func (.func (fnOf k0)) #[] #[.pointer (some ⟨b0, 0, none⟩)], .string ⟨s.toArray⟩, .nilFunc] 51)) := by
  have hs := h.size
  have hk : KeepT n w1 (w1.alloc (.cells #[.string ⟨#[]⟩, .func (.func (fnOf k0)) #[] #[.pointer (some ⟨b0, 0, none⟩)], .string ⟨s.toArray⟩, .nilFunc] 51)) := (KeepT.refl n w1).alloc (by omega) _
  exact ⟨_, rfl, ⟨[⟨⟨#[]⟩, some (fnOf k0, b0)⟩, pT s], own_lit (l := [⟨⟨#[]⟩, some (fnOf k0, b0)⟩, pT s]) (heap_alloc_new w1 _) (by omega) (by simp), ⟨h0.kept hk, rfl, trivial⟩⟩, h.bel.alloc (by omega) _⟩

set_option maxRecDepth 100000 in
set_option maxHeartbeats 8000000 in
theorem tparts_one (n : Nat) (nm : List UInt8) (v : Int) (t0 : Ty) (S : ByteArray) (o : Option Addr) (c : Nat) (w : World) (h : TyC n w nm v [t0] S o c) (h0 : nm ≠ []) :
    Calls Tryd.prog 33 #[.agg #[.string S, .int .i64 v, .slice o 1 c]] w (JPost n w (tp vn (.mk nm v [t0]))) := by
  have h1' : ¬ (nm = [45, 62] ∧ [t0].length = 2) := by simp
  have h2' : ¬ (nm = [42] ∧ 2 ≤ [t0].length) := by simp
  have e : tp vn (.mk nm v [t0]) = [.ty t0 (if kd t0 ≠ 0 then 2 else 0), .txt (32 :: nm)] := by
    show (if nm = [] then _ else _) = _
    rw [if_neg h0, if_neg h1', if_neg h2', if_neg (by simp), if_pos (by simp)]
    rfl
  rw [e]
  have hl := h.lens
  have hlen := h.len
  obtain ⟨f1, f2⟩ := neither h1' h2'
  have t1' : (S.toList == []) = false := by rw [hl.2.1]; simpa using h0
  have t2' : S.toList.isEmpty = false := by rw [hl.2.1]; simpa using h0
  have HI := Lib.hid (fun W => f1 ▸ isFunction_any S nm hl.2.1 v o 1 c W (by omega))
  have HP := Lib.hid (fun W => f2 ▸ isProduct_any S nm hl.2.1 v o 1 c W (by omega))
  obtain ⟨-, -, -, -, o', c', e', hk'⟩ := h.ty
  cases e'
  rcases hk' with hk' | ⟨b, off, rfl, hb, _, _, hks⟩
  · cases hk'
  obtain ⟨⟨p0, p1, p2, e0, e1, e2, hty0⟩, -⟩ := hks
  have hl0 : t0.kids.length ≤ 1000000000000 := by have := kids_le t0; have := wT_mem (t := t0) (ks := [t0]) (by simp); unfold wT at hlen; omega
  have H1 := Lib.hid (One.new w (.string S) (.int .i64 v) (.slice (some ⟨b, off, none⟩) 1 c))
  have HN := Lib.hid h.low
  have HTY0 := Lib.hid (fun W (hW : Below w.heap.size w W) => TyV.below (hW.mono h.low) _ hty0)
  have hbw : b < w.heap.size := Nat.lt_of_lt_of_le hb h.low
  have hsf : ∀ W, One w W (.string S) (.int .i64 v) (.slice (some ⟨b, off, none⟩) 1 c) →
      (W.cell? ⟨w.heap.size, 0, none⟩ = some (.string S) ∧ W.cell? ⟨w.heap.size, 2, none⟩ = some (.slice (some ⟨b, off, none⟩) 1 c) ∧ W.cell? ⟨b, off, none⟩ = some p0 ∧ W.cell? ⟨b, off + 1, none⟩ = some p1 ∧ W.cell? ⟨b, off + 2, none⟩ = some p2) := fun W hW =>
    ⟨hW.box.cells.1, hW.box.cells.2.2, (hW.bel.cell hbw).trans e0, (hW.bel.cell hbw).trans e1, (hW.bel.cell hbw).trans e2⟩
  obtain ⟨n0, v0, ks0⟩ := t0
  obtain ⟨rfl, rfl, _, _, o0, c0, rfl, _⟩ := hty0
  have HL := Lib.hid (fun W => tight_one n0 v0 ks0 o0 c0 W hl0)
  have HSF := Lib.hid hsf
  have hov : ¬ 9223372036854775807 < 1 + S.size := by have := hl.2.2.2; omega
  have hcat : (⟨#[32]⟩ : ByteArray) ++ S = ⟨(32 :: nm).toArray⟩ := by rw [h.str]; exact cat_blank nm
  clear hsf h e hl hlen e0 e1 e2 hl0 hb f1 f2 h0 h1' h2'
  generalize (if kd (.mk n0 v0 ks0) ≠ 0 then 2 else 0) = K0 at *
  generalize (⟨n0.toArray⟩ : ByteArray) = S0 at *
  obtain ⟨SC, hSC⟩ : ∃ SC : ByteArray, SC = ⟨(32 :: nm).toArray⟩ := ⟨_, rfl⟩
  rw [← hSC] at hcat
  have HSC := Lib.hid hSC
  clear hSC
  go_enter Tryd.func33, Tryd.ntmps33
  go_wp2_with fail
  go_at_call 45
  refine (HI.out _).mono ?_
  rintro e w0 ⟨rfl, hb⟩
  have h1 := H1.out.on hb
  obtain ⟨a0, a1, a2⟩ := h1.box.cells
  have H0 := Lib.hid h1
  clear hb h1 H1
  go_wp2_with fail
  go_at_call 47
  refine (HP.out _).mono ?_
  rintro e w1 ⟨rfl, hb⟩
  have h1 := H0.out.on hb
  obtain ⟨a0, a1, a2⟩ := h1.box.cells
  have H2 := Lib.hid h1
  have HS := HSF.out _ h1
  have HN2 := Lib.hid (Nat.le_trans HN.out h1.bel.size)
  clear hb h1 H0
  go_wp2_with fail
  refine wp_region_held_drew (S := fun w' => w'.cell? ⟨w.heap.size, 0, none⟩ = some (.string S) ∧ w'.cell? ⟨w.heap.size, 2, none⟩ = some (.slice (some ⟨b, off, none⟩) 1 c) ∧ w'.cell? ⟨b, off, none⟩ = some (.string S0) ∧ w'.cell? ⟨b, off + 1, none⟩ = some (.int .i64 v0) ∧ w'.cell? ⟨b, off + 2, none⟩ = some (.slice o0 ks0.length c0)) (by kernel_rfl) HS ?_
  intro hHeld
  clear HS a0 a1 a2
  refine wpAnyH_take (i := 0) (v := ?_) (by simp only [List.getElem?_toArray, List.getElem?_cons_zero]; rfl) (by kernel_rfl) (by kernel_rfl) (by kernel_rfl) (by intro _ _ _ h; exact h) (Or.inl ⟨by rfl, ?_⟩) (by assumption) ?_
  rotate_left
  · (intro w hSw; (try dsimp only at hSw); go_simp; try with_reducible rfl)
  try simp only [Act.put, List.setIfInBounds_toArray, List.set_cons_zero, List.set_cons_succ]
  refine wpAnyH_take (i := 1) (v := ?_) (by simp only [List.getElem?_toArray, List.getElem?_cons_succ, List.getElem?_cons_zero]; rfl) (by kernel_rfl) (by kernel_rfl) (by kernel_rfl) (by intro _ _ _ h; exact h) (Or.inl ⟨by rfl, ?_⟩) (by assumption) ?_
  rotate_left
  · (intro w hSw; (try dsimp only at hSw); go_simp; try with_reducible rfl)
  try simp only [Act.put, List.setIfInBounds_toArray, List.set_cons_zero, List.set_cons_succ]
  refine wpAnyH_take (i := 2) (v := ?_) (by simp only [List.getElem?_toArray, List.getElem?_cons_succ, List.getElem?_cons_zero]; rfl) (by kernel_rfl) (by kernel_rfl) (by kernel_rfl) (by intro _ _ _ h; exact h) (Or.inl ⟨by rfl, ?_⟩) (by assumption) ?_
  rotate_left
  · (intro w hSw; (try dsimp only at hSw); go_simp; try with_reducible rfl)
  try simp only [Act.put, List.setIfInBounds_toArray, List.set_cons_zero, List.set_cons_succ]
  refine wpAnyH_take (i := 3) (v := ?_) (by simp only [List.getElem?_toArray, List.getElem?_cons_succ, List.getElem?_cons_zero]; rfl) (by kernel_rfl) (by kernel_rfl) (by kernel_rfl) (by intro _ _ _ h; exact h) (Or.inl ⟨by rfl, ?_⟩) (by assumption) ?_
  rotate_left
  · (intro w hSw; (try dsimp only at hSw); go_simp; try with_reducible rfl)
  try simp only [Act.put, List.setIfInBounds_toArray, List.set_cons_zero, List.set_cons_succ]
  refine wpAnyH_take (i := 5) (v := ?_) (by simp only [List.getElem?_toArray, List.getElem?_cons_succ, List.getElem?_cons_zero]; rfl) (by kernel_rfl) (by kernel_rfl) (by kernel_rfl) (by intro _ _ _ h; exact h) (Or.inl ⟨by rfl, ?_⟩) (by assumption) ?_
  rotate_left
  · (intro w hSw; (try dsimp only at hSw); go_simp; try with_reducible rfl)
  try simp only [Act.put, List.setIfInBounds_toArray, List.set_cons_zero, List.set_cons_succ]
  refine wpAnyH_take (i := 6) (v := ?_) (by simp only [List.getElem?_toArray, List.getElem?_cons_succ, List.getElem?_cons_zero]; rfl) (by kernel_rfl) (by kernel_rfl) (by kernel_rfl) (by intro _ _ _ h; exact h) (Or.inl ⟨by rfl, ?_⟩) (by assumption) ?_
  rotate_left
  · (intro w hSw; (try dsimp only at hSw); go_simp; try with_reducible rfl)
  try simp only [Act.put, List.setIfInBounds_toArray, List.set_cons_zero, List.set_cons_succ]
  refine wpAnyH_take (i := 7) (v := ?_) (by simp only [List.getElem?_toArray, List.getElem?_cons_succ, List.getElem?_cons_zero]; rfl) (by kernel_rfl) (by kernel_rfl) (by kernel_rfl) (by intro _ _ _ h; exact h) (Or.inl ⟨by rfl, ?_⟩) (by assumption) ?_
  rotate_left
  · (intro w hSw; (try dsimp only at hSw); go_simp; try with_reducible rfl)
  try simp only [Act.put, List.setIfInBounds_toArray, List.set_cons_zero, List.set_cons_succ]
  refine wpAnyH_take (i := 8) (v := ?_) (by simp only [List.getElem?_toArray, List.getElem?_cons_succ, List.getElem?_cons_zero]; rfl) (by kernel_rfl) (by kernel_rfl) (by kernel_rfl) (by intro _ _ _ h; exact h) (Or.inl ⟨by rfl, ?_⟩) (by assumption) ?_
  rotate_left
  · (intro w hSw; (try dsimp only at hSw); go_simp; try with_reducible rfl)
  try simp only [Act.put, List.setIfInBounds_toArray, List.set_cons_zero, List.set_cons_succ]
  refine wpAnyH_ready (rs := [4]) (by kernel_rfl) (by simp) ?_
  refine AllReadyH.cons (by simp only [List.getElem?_toArray, List.getElem?_cons_succ, List.getElem?_cons_zero]; rfl) (fun K hK => ?_) AllReadyH.nil
  go_simp
  refine (HL.out _).mono ?_
  intro e wB hp
  obtain ⟨bl, rfl, hil, hb⟩ := PartR.itP hp (HTY0.out _ H2.out.bel.drew) (HN2.out)
  have h3 := ((H2.out.on (Below.drew (Below.refl _ _)))).on hb
  have H3 := Lib.hid h3
  have HIL := Lib.hid hil
  have HS := HSF.out _ h3
  clear hp hil
  clear hb h3
  refine hK.out _ _ HS (fun hHeld => ?_)
  clear hK K
  try simp only [Act.put, List.setIfInBounds_toArray, List.set_cons_zero, List.set_cons_succ]
  have HF := Lib.hid (one_row (s := 32 :: nm) H3.out HIL.out HN.out)
  rw [← HSC.out] at HF
  refine wpAnyH_ready (rs := [9]) (by kernel_rfl) (by simp) ?_
  refine AllReadyH.cons (by simp only [List.getElem?_toArray, List.getElem?_cons_succ, List.getElem?_cons_zero]; rfl) (fun K hK => ?_) AllReadyH.nil
  go_simp
  refine hK.out _ _ (HSF.out _ (H3.out.on ((Below.refl _ _).alloc (Nat.le_refl _) _))) (fun hHeld => ?_)
  clear hK K
  try simp only [Act.put, List.setIfInBounds_toArray, List.set_cons_zero, List.set_cons_succ]
  refine wpAnyH_take (i := 10) (v := ?_) (by simp only [List.getElem?_toArray, List.getElem?_cons_succ, List.getElem?_cons_zero]; rfl) (by kernel_rfl) (by kernel_rfl) (by kernel_rfl) (by intro _ _ _ h; exact h) (Or.inl ⟨by rfl, ?_⟩) (by assumption) ?_
  rotate_left
  · (intro w hSw; (try dsimp only at hSw); go_simp; try with_reducible rfl)
  try simp only [Act.put, List.setIfInBounds_toArray, List.set_cons_zero, List.set_cons_succ]
  refine wpAnyH_done (by kernel_rfl) ?_ _
  go_wp2
  go_ret
  exact HF.out
end Go.Proofs.YtiimofdbconlhaaDoor
