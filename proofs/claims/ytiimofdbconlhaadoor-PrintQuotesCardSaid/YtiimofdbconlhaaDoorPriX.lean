/- The parts of a type of several. -/
import Derived.Test.YtiimofdbconlhaaDoorPriU
import Derived.Deep.RegionLaw
namespace Go.Proofs.YtiimofdbconlhaaDoor
open Go.RowKit PriM

theorem own_shape {w : World} {base : Nat} {v : Value} {l : List Pv} (h : OwnP w base v l) (hl : 0 < l.length) : ∃ g cap, v = .slice (some ⟨g, 0, none⟩) l.length cap ∧ CellsP w g 0 l ∧ g < w.heap.size := by
  have hlt := World.ownsRow.lt h
  rcases h.rd with ⟨o, c, e, h0⟩ | ⟨b, off, c, e, hn, _, _, hc⟩
  · rw [h0] at hl; simp at hl
  · rcases h.2 with ⟨h1, _⟩ | ⟨g, cap, cur, h1, _⟩
    · rw [h1] at e; cases e
    · rw [h1] at e
      injection e with e1 e2 e3
      injection e1 with e1
      injection e1 with e1 e4 _
      subst e1 e4
      exact ⟨g, cap, h1, hc, (hlt g (by rw [h1]; rfl)).2⟩

/-- The row in brackets. -/
theorem enc_its {n : Nat} {w : World} {its : List It} {l : List Pv} (h : ItsP n w its l) : ItsP n w (.txt [40] :: (its ++ [.txt [41]])) (pT [40] :: (l ++ [pT [41]])) :=
  ⟨rfl, ItsP.append (b := [.txt [41]]) (y := [pT [41]]) h ⟨rfl, trivial⟩⟩

/-- A name behind it. -/
theorem many_fin {n base : Nat} {w w3 w4 : World} {v2 : Value} {c0 c1 c2 : Value} {its : List It} {l : List Pv} {s : List UInt8} {SC : ByteArray} {g cap m : Nat} (h1 : One w w3 c0 c1 c2) (h : w3.ownsRow base 51 2 v2 m (Cs l)) (hi : ItsP n w3 its l) (hn : n ≤ w.heap.size) (hb : w.heap.size ≤ base) (hm : m = l.length) (hSC : SC = ⟨s.toArray⟩)
    (hown : w4.ownsRow base 51 2 (.slice (some ⟨g, 0, none⟩) (m + 1) cap) (m + 1) (Cs l ++ [.string SC, .nilFunc])) (hg : w3.grownBy w4 v2.ownBlock) :
    JPost n w (its ++ [.txt s]) (.returned (.slice (some ⟨g, 0, none⟩) (m + 1) cap)) w4 := by
  subst hm hSC
  have hs := h1.bel.size
  have hlt := World.ownsRow.lt h
  have hk : KeepT n w3 w4 := (KeepT.refl n w3).grown (by omega) hg h (by omega) (.inl rfl)
  refine ⟨_, rfl, ⟨l ++ [pT s], own_baseP (b := base) ?_ hb, (hi.append (b := [.txt s]) (y := [pT s]) ⟨rfl, trivial⟩).kept hk⟩, h1.bel.grown hg (by omega) (fun g e => Nat.le_trans hb (hlt g e).1)⟩
  unfold OwnP
  rw [List.length_append, Cs_append]
  exact hown

theorem One.on4 {w w3 w4 : World} {c0 c1 c2 : Value} {v2 : Value} {base k : Nat} {xs : List Value} (h1 : One w w3 c0 c1 c2) (hg : w3.grownBy w4 v2.ownBlock) (h : w3.ownsRow base 51 2 v2 k xs) (hb : w.heap.size ≤ base) : One w w4 c0 c1 c2 := by
  have hs := h1.size
  refine ⟨(hg.block _ (by omega) (fun e => ?_)).trans h1.box, h1.bel.grown hg h1.bel.size (fun g e => Nat.le_trans hb (h.lt g e).1), Nat.le_trans hs hg.size⟩
  obtain ⟨cur, hc⟩ := own_type h e.symm
  rw [show w3.heap[w.heap.size]? = _ from h1.box] at hc
  injection hc with hc
  injection hc with _ hT _
  cases hT

theorem news_two {w0 w : World} {b : Nat} {SC : ByteArray} (hb : w0.heap[b]? = some (.cells #[.string SC, .nilFunc] 51 (0, 0))) (h : Below w0.heap.size w0 w) : ∀ j u, [Value.string SC, .nilFunc][j]? = some u → w.cell? ((⟨b, 0, none⟩ : Addr).add j) = some u := fun j u hj => by
  have := World.news_of_block hb j u (by simpa using hj)
  rw [add_none] at this ⊢
  exact (h.cell (Array.getElem?_eq_some_iff.1 hb).1).trans this

set_option maxRecDepth 100000 in
set_option maxHeartbeats 16000000 in
theorem tparts_many (n : Nat) (nm : List UInt8) (v : Int) (ks : List Ty) (S : ByteArray) (o : Option Addr) (c : Nat) (w : World) (h : TyC n w nm v ks S o c) (h0 : nm ≠ []) (h1' : ¬ (nm = [45, 62] ∧ ks.length = 2)) (h2' : ¬ (nm = [42] ∧ 2 ≤ ks.length)) (hk : 2 ≤ ks.length) :
    Calls Tryd.prog 33 #[.agg #[.string S, .int .i64 v, .slice o ks.length c]] w (JPost n w (tp vn (.mk nm v ks))) := by
  obtain ⟨i0, hi0, hz0, hz1, hz2⟩ := info_parts partInfo
  have e : tp vn (.mk nm v ks) = (.txt [40] :: (joinI sComma (ks.map fun t => It.ty t 0) ++ [.txt [41]])) ++ [.txt (32 :: nm)] := by
    show (if nm = [] then _ else _) = _
    rw [if_neg h0, if_neg h1', if_neg h2', if_neg (by omega), if_neg (by omega)]
    simp
  rw [e]
  have hl := h.lens
  obtain ⟨f1, f2⟩ := neither h1' h2'
  have t1' : (S.toList == []) = false := by rw [hl.2.1]; simpa using h0
  have t2' : S.toList.isEmpty = false := by rw [hl.2.1]; simpa using h0
  have k0 : ((ks.length : Int) == 0) = false := by simp; intro h; rw [h] at hk; simp at hk
  have k1 : ((ks.length : Int) == 1) = false := by simp; omega
  have HI := Lib.hid (fun W => f1 ▸ isFunction_any S nm hl.2.1 v o ks.length c W (by omega))
  have HP := Lib.hid (fun W => f2 ▸ isProduct_any S nm hl.2.1 v o ks.length c W (by omega))
  have H1 := Lib.hid (One.new w (.string S) (.int .i64 v) (.slice o ks.length c))
  have HN := Lib.hid h.low
  have HJ := Lib.hid (joined_kids 21 (fun _ => 0) (enters_of Tryd.func21 (by kernel_rfl) rfl) typ_one sComma h (by omega))
  have HSF := Lib.hid (fun W (hW : One w W (.string S) (.int .i64 v) (.slice o ks.length c)) => And.intro hW.box.cells.1 hW.box.cells.2.2)
  have hjl := joinI_len sComma (ks.map fun t => It.ty t 0)
  rw [List.length_map] at hjl
  have hjp : 0 < (joinI sComma (ks.map fun t => It.ty t 0)).length := by
    rcases ks with _ | ⟨a, _ | ⟨b, ks⟩⟩
    · simp at hk
    · simp at hk
    · simp [joinI]
  have hlk := hl.1
  have hov : ¬ 9223372036854775807 < 1 + S.size := by have := hl.2.2.2; omega
  have hcat : (⟨#[32]⟩ : ByteArray) ++ S = ⟨(32 :: nm).toArray⟩ := by rw [h.str]; exact cat_blank nm
  clear h e hl f1 f2 h0 h1' h2'
  generalize joinI sComma (ks.map fun t => It.ty t 0) = its at *
  generalize hkl : ks.length = kl at *
  clear hkl
  obtain ⟨SC, hSC⟩ : ∃ SC : ByteArray, SC = ⟨(32 :: nm).toArray⟩ := ⟨_, rfl⟩
  rw [← hSC] at hcat
  have HSC := Lib.hid hSC
  clear hSC
  go_enter Tryd.func33, Tryd.ntmps33
  go_wp2_with fail
  go_at_call 45
  refine (HI.out _).mono ?_
  rintro e w0 ⟨rfl, hb⟩
  have h1 := H1.out.on hb
  obtain ⟨a0, a1, a2⟩ := h1.box.cells
  have H0 := Lib.hid h1
  clear hb h1 H1
  go_wp2_with fail
  go_at_call 47
  refine (HP.out _).mono ?_
  rintro e w1 ⟨rfl, hb⟩
  have h1 := H0.out.on hb
  obtain ⟨a0, a1, a2⟩ := h1.box.cells
  have H2 := Lib.hid (h1.on (Below.drew (Below.refl _ _)))
  have HS := HSF.out _ h1
  clear hb h1 H0
  go_wp2_with fail
  refine wp_region_held_drew (S := fun w' => w'.cell? ⟨w.heap.size, 0, none⟩ = some (.string S) ∧ w'.cell? ⟨w.heap.size, 2, none⟩ = some (.slice o kl c)) (by kernel_rfl) HS ?_
  intro hHeld
  clear HS a0 a1 a2
  refine wpAnyH_take (i := 0) (v := ?_) (by simp only [List.getElem?_toArray, List.getElem?_cons_zero]; rfl) (by kernel_rfl) (by kernel_rfl) (by kernel_rfl) (by intro _ _ _ h; exact h) (Or.inl ⟨by rfl, ?_⟩) (by assumption) ?_
  rotate_left
  · (intro w hSw; (try dsimp only at hSw); go_simp; try with_reducible rfl)
  try simp only [Act.put, List.setIfInBounds_toArray, List.set_cons_zero, List.set_cons_succ]
  refine wpAnyH_take (i := 1) (v := ?_) (by simp only [List.getElem?_toArray, List.getElem?_cons_succ, List.getElem?_cons_zero]; rfl) (by kernel_rfl) (by kernel_rfl) (by kernel_rfl) (by intro _ _ _ h; exact h) (Or.inl ⟨by rfl, ?_⟩) (by assumption) ?_
  rotate_left
  · (intro w hSw; (try dsimp only at hSw); go_simp; try with_reducible rfl)
  try simp only [Act.put, List.setIfInBounds_toArray, List.set_cons_zero, List.set_cons_succ]
  refine wpAnyH_take (i := 4) (v := ?_) (by simp only [List.getElem?_toArray, List.getElem?_cons_succ, List.getElem?_cons_zero]; rfl) (by kernel_rfl) (by kernel_rfl) (by kernel_rfl) (by intro _ _ _ h; exact h) (Or.inl ⟨by rfl, ?_⟩) (by assumption) ?_
  rotate_left
  · (intro w hSw; (try dsimp only at hSw); go_simp; try with_reducible rfl)
  try simp only [Act.put, List.setIfInBounds_toArray, List.set_cons_zero, List.set_cons_succ]
  refine wpAnyH_take (i := 5) (v := ?_) (by simp only [List.getElem?_toArray, List.getElem?_cons_succ, List.getElem?_cons_zero]; rfl) (by kernel_rfl) (by kernel_rfl) (by kernel_rfl) (by intro _ _ _ h; exact h) (Or.inl ⟨by rfl, ?_⟩) (by assumption) ?_
  rotate_left
  · (intro w hSw; (try dsimp only at hSw); go_simp; try with_reducible rfl)
  try simp only [Act.put, List.setIfInBounds_toArray, List.set_cons_zero, List.set_cons_succ]
  refine wpAnyH_take (i := 6) (v := ?_) (by simp only [List.getElem?_toArray, List.getElem?_cons_succ, List.getElem?_cons_zero]; rfl) (by kernel_rfl) (by kernel_rfl) (by kernel_rfl) (by intro _ _ _ h; exact h) (Or.inl ⟨by rfl, ?_⟩) (by assumption) ?_
  rotate_left
  · (intro w hSw; (try dsimp only at hSw); go_simp; try with_reducible rfl)
  try simp only [Act.put, List.setIfInBounds_toArray, List.set_cons_zero, List.set_cons_succ]
  refine wpAnyH_take (i := 7) (v := ?_) (by simp only [List.getElem?_toArray, List.getElem?_cons_succ, List.getElem?_cons_zero]; rfl) (by kernel_rfl) (by kernel_rfl) (by kernel_rfl) (by intro _ _ _ h; exact h) (Or.inl ⟨by rfl, ?_⟩) (by assumption) ?_
  rotate_left
  · (intro w hSw; (try dsimp only at hSw); go_simp; try with_reducible rfl)
  try simp only [Act.put, List.setIfInBounds_toArray, List.set_cons_zero, List.set_cons_succ]
  refine wpAnyH_ready (rs := [2, 8]) (by kernel_rfl) (by simp) ?_
  refine AllReadyH.cons (by simp only [List.getElem?_toArray, List.getElem?_cons_succ, List.getElem?_cons_zero]; rfl) (fun K hK => ?_) (AllReadyH.cons (by simp only [List.getElem?_toArray, List.getElem?_cons_succ, List.getElem?_cons_zero]; rfl) (fun K hK => ?_) AllReadyH.nil)
  · go_simp
    refine (HJ.out _ H2.out.bel).mono ?_
    rintro e wB ⟨vj, rfl, ⟨l, hol, hil⟩, hb⟩
    have hll := hil.len
    obtain ⟨g, cap, rfl, hcl, hgl⟩ := own_shape hol (by omega)
    have hlle := Nat.le_of_eq hll
    have hllp : 0 < l.length := by omega
    clear hll
    have h3 := H2.out.on hb
    have H3 := Lib.hid h3
    have HIL := Lib.hid hil
    have HCL := Lib.hid hcl
    have HBJ := Lib.hid hb
    have HS := HSF.out _ h3
    clear hol hil hcl hb h3
    refine hK.out _ _ HS (fun hHeld => ?_)
    clear hK K
    try simp only [Act.put, List.setIfInBounds_toArray, List.set_cons_zero, List.set_cons_succ]
    refine wpAnyH_ready (rs := [3, 8]) (by kernel_rfl) (by simp) ?_
    refine AllReadyH.cons (by simp only [List.getElem?_toArray, List.getElem?_cons_succ, List.getElem?_cons_zero]; rfl) (fun K hK => ?_) (AllReadyH.cons (by simp only [List.getElem?_toArray, List.getElem?_cons_succ, List.getElem?_cons_zero]; rfl) (fun K hK => ?_) AllReadyH.nil)
    · go_simp
      refine (enclosed_any g 0 cap l _ HCL.out hgl (by omega)).mono ?_
      rintro e wC ⟨v2, rfl, hov2, hb⟩
      obtain ⟨g2, cap2, ev2, _, _⟩ := own_shape hov2 (by simp)
      obtain ⟨M, hM⟩ : ∃ M, M = (pT [40] :: (l ++ [pT [41]])).length := ⟨_, rfl⟩
      unfold OwnP at hov2
      rw [← hM] at ev2 hov2
      subst ev2
      have hMle : M ≤ 1000000000000 := by rw [hM]; simp; omega
      have HM := Lib.hid hM
      clear hM
      have h3 := H3.out.on hb
      have H4 := Lib.hid h3
      have HIE := Lib.hid (enc_its (ItsP.kept (KeepT.of_below hb (Nat.le_trans HN.out H3.out.bel.size)) HIL.out))
      have HOV := Lib.hid hov2
      have HBE := Lib.hid hb
      have HBS := Lib.hid H3.out.bel.size
      have HS := HSF.out _ h3
      clear hov2 hb h3
      refine hK.out _ _ HS (fun hHeld => ?_)
      clear hK K
      try simp only [Act.put, List.setIfInBounds_toArray, List.set_cons_zero, List.set_cons_succ]
      refine wpAnyH_ready (rs := [8]) (by kernel_rfl) (by simp) ?_
      refine AllReadyH.cons (by simp only [List.getElem?_toArray, List.getElem?_cons_succ, List.getElem?_cons_zero]; rfl) (fun K hK => ?_) AllReadyH.nil
      go_simp
      refine hK.out _ _ (HSF.out _ (H4.out.on ((Below.refl _ _).alloc (Nat.le_refl _) _))) (fun hHeld => ?_)
      clear hK K
      try simp only [Act.put, List.setIfInBounds_toArray, List.set_cons_zero, List.set_cons_succ]
      refine wpAnyH_ready (rs := [9]) (by kernel_rfl) (by simp) ?_
      refine AllReadyH.cons (by simp only [List.getElem?_toArray, List.getElem?_cons_succ, List.getElem?_cons_zero]; rfl) (fun K hK => ?_) AllReadyH.nil
      refine step_append_lies _ (by rfl) (.tmp 58) (.tmp 63) _ (by rfl) _ 51 i0 _ 2 24 Tryd.underlying53 hi0 hz0 hz1 hz2 rfl (by omega) _ _ _ (by rfl) (World.ownsRow.alloc HOV.out _) ⟨wC.heap.size, 0, none⟩ 1 1 [.string SC, .nilFunc] (by rfl) (by rfl) (cells_two_new _ _ _ _) (by simp [Value.oneCell']) (by omega) (by unfold maxLen; omega) (by omega) (by have := HBE.out.size; simp; omega) _ rfl ?_
      intro g3 cap3 w4 hown hg _ _
      have hf := many_fin (H4.out.on ((Below.refl _ _).alloc (Nat.le_refl _) _)) (World.ownsRow.alloc HOV.out _) (ItsP.kept (KeepT.of_below ((Below.refl _ _).alloc (Nat.le_refl _) _) (Nat.le_trans HN.out H4.out.bel.size)) HIE.out) HN.out (Nat.le_trans HBS.out (Nat.le_refl _)) HM.out HSC.out hown hg
      have HF := Lib.hid hf
      have HS := HSF.out _ (One.on4 (H4.out.on ((Below.refl _ _).alloc (Nat.le_refl _) _)) hg (World.ownsRow.alloc HOV.out _) (Nat.le_trans HBS.out (Nat.le_refl _)))
      clear hown hg hf
      refine hK.out _ _ HS (fun hHeld => ?_)
      clear hK K
      try simp only [Act.put, List.setIfInBounds_toArray, List.set_cons_zero, List.set_cons_succ]
      refine wpAnyH_take (i := 10) (v := ?_) (by simp only [List.getElem?_toArray, List.getElem?_cons_succ, List.getElem?_cons_zero]; rfl) (by kernel_rfl) (by kernel_rfl) (by kernel_rfl) (by intro _ _ _ h; exact h) (Or.inl ⟨by rfl, ?_⟩) (by assumption) ?_
      rotate_left
      · (intro w hSw; (try dsimp only at hSw); go_simp; try with_reducible rfl)
      try simp only [Act.put, List.setIfInBounds_toArray, List.set_cons_zero, List.set_cons_succ]
      refine wpAnyH_done (by kernel_rfl) ?_ _
      go_wp2
      go_ret
      exact HF.out
    · go_simp
      refine hK.out _ _ (HSF.out _ (H3.out.on ((Below.refl _ _).alloc (Nat.le_refl _) _))) (fun hHeld => ?_)
      clear hK K
      try simp only [Act.put, List.setIfInBounds_toArray, List.set_cons_zero, List.set_cons_succ]
      have H3a := Lib.hid (H3.out.on (w2 := wB.alloc (.cells #[.string SC, .nilFunc] 51)) ((Below.refl _ _).alloc (Nat.le_refl _) _))
      refine wpAnyH_ready (rs := [3]) (by kernel_rfl) (by simp) ?_
      refine AllReadyH.cons (by simp only [List.getElem?_toArray, List.getElem?_cons_succ, List.getElem?_cons_zero]; rfl) (fun K hK => ?_) AllReadyH.nil
      go_simp
      refine (enclosed_any g 0 cap l _ (HCL.out.below ((Below.refl _ _).alloc (Nat.le_refl _) _) hgl) (by simp; omega) (by omega)).mono ?_
      rintro e wC ⟨v2, rfl, hov2, hb⟩
      obtain ⟨g2, cap2, ev2, _, _⟩ := own_shape hov2 (by simp)
      obtain ⟨M, hM⟩ : ∃ M, M = (pT [40] :: (l ++ [pT [41]])).length := ⟨_, rfl⟩
      unfold OwnP at hov2
      rw [← hM] at ev2 hov2
      subst ev2
      have hMle : M ≤ 1000000000000 := by rw [hM]; simp; omega
      have HM := Lib.hid hM
      clear hM
      have h3 := H3a.out.on hb
      have H4 := Lib.hid h3
      have HIE := Lib.hid (enc_its (ItsP.kept (KeepT.of_below hb (Nat.le_trans HN.out H3a.out.bel.size)) (ItsP.kept (KeepT.of_below ((Below.refl _ _).alloc (Nat.le_refl _) _) (Nat.le_trans HN.out H3.out.bel.size)) HIL.out)))
      have HOV := Lib.hid hov2
      have HBE := Lib.hid hb
      have HBS := Lib.hid H3a.out.bel.size
      have HS := HSF.out _ h3
      clear hov2 hb h3
      refine hK.out _ _ HS (fun hHeld => ?_)
      clear hK K
      try simp only [Act.put, List.setIfInBounds_toArray, List.set_cons_zero, List.set_cons_succ]
      refine wpAnyH_ready (rs := [9]) (by kernel_rfl) (by simp) ?_
      refine AllReadyH.cons (by simp only [List.getElem?_toArray, List.getElem?_cons_succ, List.getElem?_cons_zero]; rfl) (fun K hK => ?_) AllReadyH.nil
      refine step_append_lies _ (by rfl) (.tmp 58) (.tmp 63) _ (by rfl) _ 51 i0 _ 2 24 Tryd.underlying53 hi0 hz0 hz1 hz2 rfl (by omega) _ _ _ (by rfl) HOV.out ⟨wB.heap.size, 0, none⟩ 1 1 [.string SC, .nilFunc] (by rfl) (by rfl) (news_two (heap_alloc_new wB _) HBE.out) (by simp [Value.oneCell']) (by omega) (by unfold maxLen; omega) (by omega) HBE.out.size _ rfl ?_
      intro g3 cap3 w4 hown hg _ _
      have hf := many_fin H4.out HOV.out HIE.out HN.out (Nat.le_trans HBS.out (Nat.le_refl _)) HM.out HSC.out hown hg
      have HF := Lib.hid hf
      have HS := HSF.out _ (One.on4 H4.out hg HOV.out (Nat.le_trans HBS.out (Nat.le_refl _)))
      clear hown hg hf
      refine hK.out _ _ HS (fun hHeld => ?_)
      clear hK K
      try simp only [Act.put, List.setIfInBounds_toArray, List.set_cons_zero, List.set_cons_succ]
      refine wpAnyH_take (i := 10) (v := ?_) (by simp only [List.getElem?_toArray, List.getElem?_cons_succ, List.getElem?_cons_zero]; rfl) (by kernel_rfl) (by kernel_rfl) (by kernel_rfl) (by intro _ _ _ h; exact h) (Or.inl ⟨by rfl, ?_⟩) (by assumption) ?_
      rotate_left
      · (intro w hSw; (try dsimp only at hSw); go_simp; try with_reducible rfl)
      try simp only [Act.put, List.setIfInBounds_toArray, List.set_cons_zero, List.set_cons_succ]
      refine wpAnyH_done (by kernel_rfl) ?_ _
      go_wp2
      go_ret
      exact HF.out
  · go_simp
    refine hK.out _ _ (HSF.out _ (H2.out.on ((Below.refl _ _).alloc (Nat.le_refl _) _))) (fun hHeld => ?_)
    clear hK K
    try simp only [Act.put, List.setIfInBounds_toArray, List.set_cons_zero, List.set_cons_succ]
    have H2a := Lib.hid (H2.out.on (w2 := w1.drew.alloc (.cells #[.string SC, .nilFunc] 51)) ((Below.refl _ _).alloc (Nat.le_refl _) _))
    refine wpAnyH_ready (rs := [2]) (by kernel_rfl) (by simp) ?_
    refine AllReadyH.cons (by simp only [List.getElem?_toArray, List.getElem?_cons_succ, List.getElem?_cons_zero]; rfl) (fun K hK => ?_) AllReadyH.nil
    go_simp
    refine (HJ.out _ H2a.out.bel).mono ?_
    rintro e wB ⟨vj, rfl, ⟨l, hol, hil⟩, hb⟩
    have hll := hil.len
    obtain ⟨g, cap, rfl, hcl, hgl⟩ := own_shape hol (by omega)
    have hlle := Nat.le_of_eq hll
    have hllp : 0 < l.length := by omega
    clear hll
    have h3 := H2a.out.on hb
    have H3 := Lib.hid h3
    have HIL := Lib.hid hil
    have HCL := Lib.hid hcl
    have HBJ := Lib.hid hb
    have HS := HSF.out _ h3
    clear hol hil hcl hb h3
    refine hK.out _ _ HS (fun hHeld => ?_)
    clear hK K
    try simp only [Act.put, List.setIfInBounds_toArray, List.set_cons_zero, List.set_cons_succ]
    refine wpAnyH_ready (rs := [3]) (by kernel_rfl) (by simp) ?_
    refine AllReadyH.cons (by simp only [List.getElem?_toArray, List.getElem?_cons_succ, List.getElem?_cons_zero]; rfl) (fun K hK => ?_) AllReadyH.nil
    go_simp
    refine (enclosed_any g 0 cap l _ HCL.out hgl (by omega)).mono ?_
    rintro e wC ⟨v2, rfl, hov2, hb⟩
    obtain ⟨g2, cap2, ev2, _, _⟩ := own_shape hov2 (by simp)
    obtain ⟨M, hM⟩ : ∃ M, M = (pT [40] :: (l ++ [pT [41]])).length := ⟨_, rfl⟩
    unfold OwnP at hov2
    rw [← hM] at ev2 hov2
    subst ev2
    have hMle : M ≤ 1000000000000 := by rw [hM]; simp; omega
    have HM := Lib.hid hM
    clear hM
    have h3 := H3.out.on hb
    have H4 := Lib.hid h3
    have HIE := Lib.hid (enc_its (ItsP.kept (KeepT.of_below hb (Nat.le_trans HN.out H3.out.bel.size)) HIL.out))
    have HOV := Lib.hid hov2
    have HBE := Lib.hid hb
    have HBS := Lib.hid H3.out.bel.size
    have HS := HSF.out _ h3
    clear hov2 hb h3
    refine hK.out _ _ HS (fun hHeld => ?_)
    clear hK K
    try simp only [Act.put, List.setIfInBounds_toArray, List.set_cons_zero, List.set_cons_succ]
    refine wpAnyH_ready (rs := [9]) (by kernel_rfl) (by simp) ?_
    refine AllReadyH.cons (by simp only [List.getElem?_toArray, List.getElem?_cons_succ, List.getElem?_cons_zero]; rfl) (fun K hK => ?_) AllReadyH.nil
    refine step_append_lies _ (by rfl) (.tmp 58) (.tmp 63) _ (by rfl) _ 51 i0 _ 2 24 Tryd.underlying53 hi0 hz0 hz1 hz2 rfl (by omega) _ _ _ (by rfl) HOV.out ⟨w1.heap.size, 0, none⟩ 1 1 [.string SC, .nilFunc] (by rfl) (by rfl) (news_two (w0 := w1.drew.alloc (.cells #[.string SC, .nilFunc] 51)) (heap_alloc_new w1.drew _) (HBJ.out.trans (HBE.out.mono HBJ.out.size))) (by simp [Value.oneCell']) (by omega) (by unfold maxLen; omega) (by omega) HBE.out.size _ rfl ?_
    intro g3 cap3 w4 hown hg _ _
    have hf := many_fin H4.out HOV.out HIE.out HN.out (Nat.le_trans HBS.out (Nat.le_refl _)) HM.out HSC.out hown hg
    have HF := Lib.hid hf
    have HS := HSF.out _ (One.on4 H4.out hg HOV.out (Nat.le_trans HBS.out (Nat.le_refl _)))
    clear hown hg hf
    refine hK.out _ _ HS (fun hHeld => ?_)
    clear hK K
    try simp only [Act.put, List.setIfInBounds_toArray, List.set_cons_zero, List.set_cons_succ]
    refine wpAnyH_take (i := 10) (v := ?_) (by simp only [List.getElem?_toArray, List.getElem?_cons_succ, List.getElem?_cons_zero]; rfl) (by kernel_rfl) (by kernel_rfl) (by kernel_rfl) (by intro _ _ _ h; exact h) (Or.inl ⟨by rfl, ?_⟩) (by assumption) ?_
    rotate_left
    · (intro w hSw; (try dsimp only at hSw); go_simp; try with_reducible rfl)
    try simp only [Act.put, List.setIfInBounds_toArray, List.set_cons_zero, List.set_cons_succ]
    refine wpAnyH_done (by kernel_rfl) ?_ _
    go_wp2
    go_ret
    exact HF.out
end Go.Proofs.YtiimofdbconlhaaDoor
