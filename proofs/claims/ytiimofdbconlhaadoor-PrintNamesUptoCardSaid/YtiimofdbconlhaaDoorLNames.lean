/- Types of one name: the walk. -/
import Derived.Test.YtiimofdbconlhaaDoorPriNn
import Derived.Test.YtiimofdbconlhaaDoorPriWx
import Derived.OrdersHeld
import Derived.Deep.RegionHeld3
namespace Go.Proofs.YtiimofdbconlhaaDoor
open Go.RowKit PriM

theorem text_eq (t u : Ty) (h1 : smT 0 t = true) (h2 : smT 0 u = true) (h3 : nmT t = true) (h4 : nmT u = true) : (rT vn t == rT vn u) = tyEq t u := by
  by_cases h : t = u
  · rw [(tyEq_iff t u).2 h, h]; simp
  · have e1 : tyEq t u = false := by
      cases e : tyEq t u with
      | false => rfl
      | true => exact absurd ((tyEq_iff t u).1 e) h
    rw [e1, beq_eq_false_iff_ne]
    intro e
    exact h (text_inj (f := vn) (fun v a b => by unfold vn; rw [if_pos ⟨a, b⟩]) t u (okT_of h1) h3 (okT_of h2) h4 e)

set_option maxRecDepth 100000 in
set_option maxHeartbeats 4000000 in
theorem names_walk (t u : Ty) (c0 c1 c2 d0 d1 d2 : Value) (w : World) (ht : Tab w) (hty : TyV w.heap.size w t c0 c1 c2) (huy : TyV w.heap.size w u d0 d1 d2) (hw : wT t ≤ 100000000000) (hn : wN t ≤ 100000000000) (hw' : wT u ≤ 100000000000) (hn' : wN u ≤ 100000000000) :
    Calls Tryd.prog 7 #[.agg #[c0, c1, c2], .agg #[d0, d1, d2]] w fun e w' => e = .returned (.bool true) ∧ Below w.heap.size w w' := by
  have HTB := Lib.hid (tabN_of ht)
  have HS := Lib.hid (fun W (hb : Below w.heap.size w W) => small_any w.heap.size t 0 W c0 c1 c2 (TyV.below hb t hty) hb.size hw (by omega))
  have HT := Lib.hid (fun W (hb : Below w.heap.size w W) => small_any w.heap.size u 0 W d0 d1 d2 (TyV.below hb u huy) hb.size hw' (by omega))
  have HM := Lib.hid (fun W (hb : Below w.heap.size w W) => named_any w.heap.size t W c0 c1 c2 (TyV.below hb t hty) hb.size hw hn)
  have HK := Lib.hid (fun W (hb : Below w.heap.size w W) => named_any w.heap.size u W d0 d1 d2 (TyV.below hb u huy) hb.size hw' hn')
  have HA := Lib.hid (fun W (hb : Below w.heap.size w W) => awake W (HTB.out W hb))
  have HE := Lib.hid (fun W (hb : Below w.heap.size w W) => same_any w.heap.size t u W c0 c1 c2 d0 d1 d2 (TyV.below hb t hty) (TyV.below hb u huy) hb.size hw)
  have HQ := Lib.hid (text_eq t u)
  have hlen := rT_len t hty
  have hlen' := rT_len u huy
  have h1 := hty
  have h2 := huy
  obtain ⟨nm, v, ks⟩ := t
  obtain ⟨nm', v', ls⟩ := u
  obtain ⟨rfl, rfl, v0, v1, o, c, rfl, -⟩ := h1
  obtain ⟨rfl, rfl, v0', v1', o', c', rfl, -⟩ := h2
  have HP := Lib.hid (fun W (hb : Below w.heap.size w W) => type_any w.heap.size (.mk nm v ks) _ v o ks.length c W ⟨TyV.below hb _ hty, hb.size, HTB.out.on hb, hw, by omega⟩ (by omega))
  have HP' := Lib.hid (fun W (hb : Below w.heap.size w W) => type_any w.heap.size (.mk nm' v' ls) _ v' o' ls.length c' W ⟨TyV.below hb _ huy, hb.size, HTB.out.on hb, hw', by omega⟩ (by omega))
  have H1 := Lib.hid (Bx2.new w (.string ⟨nm.toArray⟩) (.int .i64 v) (.slice o ks.length c) (.string ⟨nm'.toArray⟩) (.int .i64 v') (.slice o' ls.length c'))
  have HY := Lib.hid (str_eq (rT vn (.mk nm v ks)) (rT vn (.mk nm' v' ls)))
  clear hty huy hlen hlen' hw hn hw' hn' v0 v1 v0' v1' ht HTB
  generalize smT 0 (.mk nm v ks) = q1 at *
  generalize smT 0 (.mk nm' v' ls) = q2 at *
  generalize nmT (.mk nm v ks) = q3 at *
  generalize nmT (.mk nm' v' ls) = q4 at *
  generalize rT vn (.mk nm v ks) = X at *
  generalize rT vn (.mk nm' v' ls) = Y at *
  generalize tyEq (.mk nm v ks) (.mk nm' v' ls) = E at *
  generalize (⟨nm.toArray⟩ : ByteArray) = S at *
  generalize (⟨nm'.toArray⟩ : ByteArray) = S' at *
  generalize ks.length = L at *
  generalize ls.length = L' at *
  rcases q1 with _ | _
  · go_enter Tryd.func7, Tryd.ntmps7
    obtain ⟨a0, a1, a2⟩ := H1.out.a.cells
    obtain ⟨b0, b1, b2⟩ := H1.out.b.cells
    go_wp2_with fail
    go_at_call 8
    refine (HS.out _ H1.out.bel).mono ?_
    rintro e w1 ⟨rfl, hb⟩
    have B1 := Lib.hid (H1.out.on hb)
    clear hb a0 a1 a2 b0 b1 b2
    obtain ⟨a0, a1, a2⟩ := B1.out.a.cells
    obtain ⟨b0, b1, b2⟩ := B1.out.b.cells
    go_wp2_with fail
    go_at_call 9
    refine (HA.out _ B1.out.bel).mono ?_
    rintro e w2 ⟨rfl, hb⟩
    have B2 := Lib.hid (B1.out.on hb)
    clear hb a0 a1 a2 b0 b1 b2
    go_wp2_with fail
    go_ret
    exact ⟨rfl, B2.out.bel⟩
  rcases q2 with _ | _
  · go_enter Tryd.func7, Tryd.ntmps7
    obtain ⟨a0, a1, a2⟩ := H1.out.a.cells
    obtain ⟨b0, b1, b2⟩ := H1.out.b.cells
    go_wp2_with fail
    go_at_call 8
    refine (HS.out _ H1.out.bel).mono ?_
    rintro e w1 ⟨rfl, hb⟩
    have B1 := Lib.hid (H1.out.on hb)
    clear hb a0 a1 a2 b0 b1 b2
    obtain ⟨a0, a1, a2⟩ := B1.out.a.cells
    obtain ⟨b0, b1, b2⟩ := B1.out.b.cells
    go_wp2_with fail
    go_at_call 8
    refine (HT.out _ B1.out.bel).mono ?_
    rintro e w2 ⟨rfl, hb⟩
    have B2 := Lib.hid (B1.out.on hb)
    clear hb a0 a1 a2 b0 b1 b2
    obtain ⟨a0, a1, a2⟩ := B2.out.a.cells
    obtain ⟨b0, b1, b2⟩ := B2.out.b.cells
    go_wp2_with fail
    go_at_call 9
    refine (HA.out _ B2.out.bel).mono ?_
    rintro e w3 ⟨rfl, hb⟩
    have B3 := Lib.hid (B2.out.on hb)
    clear hb a0 a1 a2 b0 b1 b2
    go_wp2_with fail
    go_ret
    exact ⟨rfl, B3.out.bel⟩
  rcases q3 with _ | _
  · go_enter Tryd.func7, Tryd.ntmps7
    obtain ⟨a0, a1, a2⟩ := H1.out.a.cells
    obtain ⟨b0, b1, b2⟩ := H1.out.b.cells
    go_wp2_with fail
    go_at_call 8
    refine (HS.out _ H1.out.bel).mono ?_
    rintro e w1 ⟨rfl, hb⟩
    have B1 := Lib.hid (H1.out.on hb)
    clear hb a0 a1 a2 b0 b1 b2
    obtain ⟨a0, a1, a2⟩ := B1.out.a.cells
    obtain ⟨b0, b1, b2⟩ := B1.out.b.cells
    go_wp2_with fail
    go_at_call 8
    refine (HT.out _ B1.out.bel).mono ?_
    rintro e w2 ⟨rfl, hb⟩
    have B2 := Lib.hid (B1.out.on hb)
    clear hb a0 a1 a2 b0 b1 b2
    obtain ⟨a0, a1, a2⟩ := B2.out.a.cells
    obtain ⟨b0, b1, b2⟩ := B2.out.b.cells
    go_wp2_with fail
    go_at_call 18
    refine (HM.out _ B2.out.bel).mono ?_
    rintro e w3 ⟨rfl, hb⟩
    have B3 := Lib.hid (B2.out.on hb)
    clear hb a0 a1 a2 b0 b1 b2
    obtain ⟨a0, a1, a2⟩ := B3.out.a.cells
    obtain ⟨b0, b1, b2⟩ := B3.out.b.cells
    go_wp2_with fail
    go_at_call 9
    refine (HA.out _ B3.out.bel).mono ?_
    rintro e w4 ⟨rfl, hb⟩
    have B4 := Lib.hid (B3.out.on hb)
    clear hb a0 a1 a2 b0 b1 b2
    go_wp2_with fail
    go_ret
    exact ⟨rfl, B4.out.bel⟩
  rcases q4 with _ | _
  · go_enter Tryd.func7, Tryd.ntmps7
    obtain ⟨a0, a1, a2⟩ := H1.out.a.cells
    obtain ⟨b0, b1, b2⟩ := H1.out.b.cells
    go_wp2_with fail
    go_at_call 8
    refine (HS.out _ H1.out.bel).mono ?_
    rintro e w1 ⟨rfl, hb⟩
    have B1 := Lib.hid (H1.out.on hb)
    clear hb a0 a1 a2 b0 b1 b2
    obtain ⟨a0, a1, a2⟩ := B1.out.a.cells
    obtain ⟨b0, b1, b2⟩ := B1.out.b.cells
    go_wp2_with fail
    go_at_call 8
    refine (HT.out _ B1.out.bel).mono ?_
    rintro e w2 ⟨rfl, hb⟩
    have B2 := Lib.hid (B1.out.on hb)
    clear hb a0 a1 a2 b0 b1 b2
    obtain ⟨a0, a1, a2⟩ := B2.out.a.cells
    obtain ⟨b0, b1, b2⟩ := B2.out.b.cells
    go_wp2_with fail
    go_at_call 18
    refine (HM.out _ B2.out.bel).mono ?_
    rintro e w3 ⟨rfl, hb⟩
    have B3 := Lib.hid (B2.out.on hb)
    clear hb a0 a1 a2 b0 b1 b2
    obtain ⟨a0, a1, a2⟩ := B3.out.a.cells
    obtain ⟨b0, b1, b2⟩ := B3.out.b.cells
    go_wp2_with fail
    go_at_call 18
    refine (HK.out _ B3.out.bel).mono ?_
    rintro e w4 ⟨rfl, hb⟩
    have B4 := Lib.hid (B3.out.on hb)
    clear hb a0 a1 a2 b0 b1 b2
    obtain ⟨a0, a1, a2⟩ := B4.out.a.cells
    obtain ⟨b0, b1, b2⟩ := B4.out.b.cells
    go_wp2_with fail
    go_at_call 9
    refine (HA.out _ B4.out.bel).mono ?_
    rintro e w5 ⟨rfl, hb⟩
    have B5 := Lib.hid (B4.out.on hb)
    clear hb a0 a1 a2 b0 b1 b2
    go_wp2_with fail
    go_ret
    exact ⟨rfl, B5.out.bel⟩
  have hq := HQ.out rfl rfl rfl rfl
  clear HQ HY
  rcases E with _ | _
  · go_enter Tryd.func7, Tryd.ntmps7
    obtain ⟨a0, a1, a2⟩ := H1.out.a.cells
    obtain ⟨b0, b1, b2⟩ := H1.out.b.cells
    go_wp2_with fail
    go_at_call 8
    refine (HS.out _ H1.out.bel).mono ?_
    rintro e w1 ⟨rfl, hb⟩
    have B1 := Lib.hid (H1.out.on hb)
    clear hb a0 a1 a2 b0 b1 b2
    obtain ⟨a0, a1, a2⟩ := B1.out.a.cells
    obtain ⟨b0, b1, b2⟩ := B1.out.b.cells
    go_wp2_with fail
    go_at_call 8
    refine (HT.out _ B1.out.bel).mono ?_
    rintro e w2 ⟨rfl, hb⟩
    have B2 := Lib.hid (B1.out.on hb)
    clear hb a0 a1 a2 b0 b1 b2
    obtain ⟨a0, a1, a2⟩ := B2.out.a.cells
    obtain ⟨b0, b1, b2⟩ := B2.out.b.cells
    go_wp2_with fail
    go_at_call 18
    refine (HM.out _ B2.out.bel).mono ?_
    rintro e w3 ⟨rfl, hb⟩
    have B3 := Lib.hid (B2.out.on hb)
    clear hb a0 a1 a2 b0 b1 b2
    obtain ⟨a0, a1, a2⟩ := B3.out.a.cells
    obtain ⟨b0, b1, b2⟩ := B3.out.b.cells
    go_wp2_with fail
    go_at_call 18
    refine (HK.out _ B3.out.bel).mono ?_
    rintro e w4 ⟨rfl, hb⟩
    have B4 := Lib.hid (B3.out.on hb)
    clear hb a0 a1 a2 b0 b1 b2
    obtain ⟨a0, a1, a2⟩ := B4.out.a.cells
    obtain ⟨b0, b1, b2⟩ := B4.out.b.cells
    go_wp2_with fail
    clear a0 a1 a2 b0 b1 b2
    have B5 := Lib.hid (B4.out.on (Below.drew (Below.refl _ _)))
    have HSF : Hid (∀ W, Bx2 w W (.string S) (.int .i64 v) (.slice o L c) (.string S') (.int .i64 v') (.slice o' L' c') → W.cell? ⟨w.heap.size, 0, none⟩ = some (.string S) ∧ W.cell? ⟨w.heap.size, 1, none⟩ = some (.int .i64 v) ∧ W.cell? ⟨w.heap.size, 2, none⟩ = some (.slice o L c) ∧
      W.cell? ⟨w.heap.size + 1, 0, none⟩ = some (.string S') ∧ W.cell? ⟨w.heap.size + 1, 1, none⟩ = some (.int .i64 v') ∧ W.cell? ⟨w.heap.size + 1, 2, none⟩ = some (.slice o' L' c')) := Lib.hid (fun W h => ⟨h.a.cells.1, h.a.cells.2.1, h.a.cells.2.2, h.b.cells⟩)
    refine wp_region_held_drew (S := fun W => W.cell? ⟨w.heap.size, 0, none⟩ = some (.string S) ∧ W.cell? ⟨w.heap.size, 1, none⟩ = some (.int .i64 v) ∧ W.cell? ⟨w.heap.size, 2, none⟩ = some (.slice o L c) ∧
      W.cell? ⟨w.heap.size + 1, 0, none⟩ = some (.string S') ∧ W.cell? ⟨w.heap.size + 1, 1, none⟩ = some (.int .i64 v') ∧ W.cell? ⟨w.heap.size + 1, 2, none⟩ = some (.slice o' L' c')) (by kernel_rfl) (HSF.out _ B5.out) ?_
    intro hHeld
    refine wpAnyH_ready (rs := [0]) (by kernel_rfl) (by simp) ?_
    refine AllReadyH.cons (by simp only [List.getElem?_toArray, List.getElem?_cons_zero]; rfl) (fun K hK => ?_) AllReadyH.nil
    go_simp
    refine (HA.out _ B5.out.bel).mono ?_
    rintro e w6 ⟨rfl, hb⟩
    have B6 := Lib.hid (B5.out.on hb)
    clear hb
    refine hK.out _ _ (HSF.out _ B6.out) (fun hHeld => ?_)
    clear hK K
    try simp only [Act.put, List.setIfInBounds_toArray, List.set_cons_zero, List.set_cons_succ]
    refine wpAnyH_take (i := 1) (v := ?_) (by simp only [List.getElem?_toArray, List.getElem?_cons_succ, List.getElem?_cons_zero]; rfl) (by kernel_rfl) (by kernel_rfl) (by kernel_rfl) (by intro _ _ _ h; exact h) (Or.inl ⟨by rfl, ?_⟩) (by assumption) ?_
    rotate_left
    · (intro w hSw; (try dsimp only at hSw); go_simp; try with_reducible rfl)
    try simp only [Act.put, List.setIfInBounds_toArray, List.set_cons_zero, List.set_cons_succ]
    refine wpAnyH_take (i := 2) (v := ?_) (by simp only [List.getElem?_toArray, List.getElem?_cons_succ, List.getElem?_cons_zero]; rfl) (by kernel_rfl) (by kernel_rfl) (by kernel_rfl) (by intro _ _ _ h; exact h) (Or.inl ⟨by rfl, ?_⟩) (by assumption) ?_
    rotate_left
    · (intro w hSw; (try dsimp only at hSw); go_simp; try with_reducible rfl)
    try simp only [Act.put, List.setIfInBounds_toArray, List.set_cons_zero, List.set_cons_succ]
    refine wpAnyH_take (i := 4) (v := ?_) (by simp only [List.getElem?_toArray, List.getElem?_cons_succ, List.getElem?_cons_zero]; rfl) (by kernel_rfl) (by kernel_rfl) (by kernel_rfl) (by intro _ _ _ h; exact h) (Or.inl ⟨by rfl, ?_⟩) (by assumption) ?_
    rotate_left
    · (intro w hSw; (try dsimp only at hSw); go_simp; try with_reducible rfl)
    try simp only [Act.put, List.setIfInBounds_toArray, List.set_cons_zero, List.set_cons_succ]
    refine wpAnyH_take (i := 7) (v := ?_) (by simp only [List.getElem?_toArray, List.getElem?_cons_succ, List.getElem?_cons_zero]; rfl) (by kernel_rfl) (by kernel_rfl) (by kernel_rfl) (by intro _ _ _ h; exact h) (Or.inl ⟨by rfl, ?_⟩) (by assumption) ?_
    rotate_left
    · (intro w hSw; (try dsimp only at hSw); go_simp; try with_reducible rfl)
    try simp only [Act.put, List.setIfInBounds_toArray, List.set_cons_zero, List.set_cons_succ]
    refine wpAnyH_take (i := 8) (v := ?_) (by simp only [List.getElem?_toArray, List.getElem?_cons_succ, List.getElem?_cons_zero]; rfl) (by kernel_rfl) (by kernel_rfl) (by kernel_rfl) (by intro _ _ _ h; exact h) (Or.inl ⟨by rfl, ?_⟩) (by assumption) ?_
    rotate_left
    · (intro w hSw; (try dsimp only at hSw); go_simp; try with_reducible rfl)
    try simp only [Act.put, List.setIfInBounds_toArray, List.set_cons_zero, List.set_cons_succ]
    refine wpAnyH_ready (rs := [3]) (by kernel_rfl) (by simp) ?_
    refine AllReadyH.cons (by simp only [List.getElem?_toArray, List.getElem?_cons_succ, List.getElem?_cons_zero]; rfl) (fun K hK => ?_) AllReadyH.nil
    go_simp
    refine (HP.out _ B6.out.bel).mono ?_
    rintro e w7 ⟨rfl, hb⟩
    have B7 := Lib.hid (B6.out.on hb)
    clear hb
    refine hK.out _ _ (HSF.out _ B7.out) (fun hHeld => ?_)
    clear hK K
    try simp only [Act.put, List.setIfInBounds_toArray, List.set_cons_zero, List.set_cons_succ]
    refine wpAnyH_ready (rs := [5]) (by kernel_rfl) (by simp) ?_
    refine AllReadyH.cons (by simp only [List.getElem?_toArray, List.getElem?_cons_succ, List.getElem?_cons_zero]; rfl) (fun K hK => ?_) AllReadyH.nil
    go_simp
    refine (HP'.out _ B7.out.bel).mono ?_
    rintro e w8 ⟨rfl, hb⟩
    have B8 := Lib.hid (B7.out.on hb)
    clear hb
    refine hK.out _ _ (HSF.out _ B8.out) (fun hHeld => ?_)
    clear hK K
    try simp only [Act.put, List.setIfInBounds_toArray, List.set_cons_zero, List.set_cons_succ]
    refine wpAnyH_take (i := 6) (v := ?_) (by simp only [List.getElem?_toArray, List.getElem?_cons_succ, List.getElem?_cons_zero]; rfl) (by kernel_rfl) (by kernel_rfl) (by kernel_rfl) (by intro _ _ _ h; exact h) (Or.inl ⟨by rfl, ?_⟩) (by assumption) ?_
    rotate_left
    · (intro w hSw; (try dsimp only at hSw); go_simp; try with_reducible rfl)
    try simp only [Act.put, List.setIfInBounds_toArray, List.set_cons_zero, List.set_cons_succ]
    refine wpAnyH_ready (rs := [9]) (by kernel_rfl) (by simp) ?_
    refine AllReadyH.cons (by simp only [List.getElem?_toArray, List.getElem?_cons_succ, List.getElem?_cons_zero]; rfl) (fun K hK => ?_) AllReadyH.nil
    go_simp
    refine (HE.out _ B8.out.bel).mono ?_
    rintro e w9 ⟨rfl, hb⟩
    have B9 := Lib.hid (B8.out.on hb)
    clear hb
    refine hK.out _ _ (HSF.out _ B9.out) (fun hHeld => ?_)
    clear hK K
    try simp only [Act.put, List.setIfInBounds_toArray, List.set_cons_zero, List.set_cons_succ]
    refine wpAnyH_take (i := 10) (v := ?_) (by simp only [List.getElem?_toArray, List.getElem?_cons_succ, List.getElem?_cons_zero]; rfl) (by kernel_rfl) (by kernel_rfl) (by kernel_rfl) (by intro _ _ _ h; exact h) (Or.inl ⟨by rfl, ?_⟩) (by assumption) ?_
    rotate_left
    · (intro w hSw; (try dsimp only at hSw); go_simp; try with_reducible rfl)
    try simp only [Act.put, List.setIfInBounds_toArray, List.set_cons_zero, List.set_cons_succ]
    refine wpAnyH_take (i := 11) (v := ?_) (by simp only [List.getElem?_toArray, List.getElem?_cons_succ, List.getElem?_cons_zero]; rfl) (by kernel_rfl) (by kernel_rfl) (by kernel_rfl) (by intro _ _ _ h; exact h) (Or.inl ⟨by rfl, ?_⟩) (by assumption) ?_
    rotate_left
    · (intro w hSw; (try dsimp only at hSw); go_simp; try with_reducible rfl)
    try simp only [Act.put, List.setIfInBounds_toArray, List.set_cons_zero, List.set_cons_succ]
    refine wpAnyH_take (i := 12) (v := ?_) (by simp only [List.getElem?_toArray, List.getElem?_cons_succ, List.getElem?_cons_zero]; rfl) (by kernel_rfl) (by kernel_rfl) (by kernel_rfl) (by intro _ _ _ h; exact h) (Or.inl ⟨by rfl, ?_⟩) (by assumption) ?_
    rotate_left
    · (intro w hSw; (try dsimp only at hSw); go_simp; try with_reducible rfl)
    try simp only [Act.put, List.setIfInBounds_toArray, List.set_cons_zero, List.set_cons_succ]
    refine wpAnyH_done (by kernel_rfl) ?_ _
    go_wp2
    go_ret
    exact ⟨rfl, B9.out.bel⟩
  · go_enter Tryd.func7, Tryd.ntmps7
    obtain ⟨a0, a1, a2⟩ := H1.out.a.cells
    obtain ⟨b0, b1, b2⟩ := H1.out.b.cells
    go_wp2_with fail
    go_at_call 8
    refine (HS.out _ H1.out.bel).mono ?_
    rintro e w1 ⟨rfl, hb⟩
    have B1 := Lib.hid (H1.out.on hb)
    clear hb a0 a1 a2 b0 b1 b2
    obtain ⟨a0, a1, a2⟩ := B1.out.a.cells
    obtain ⟨b0, b1, b2⟩ := B1.out.b.cells
    go_wp2_with fail
    go_at_call 8
    refine (HT.out _ B1.out.bel).mono ?_
    rintro e w2 ⟨rfl, hb⟩
    have B2 := Lib.hid (B1.out.on hb)
    clear hb a0 a1 a2 b0 b1 b2
    obtain ⟨a0, a1, a2⟩ := B2.out.a.cells
    obtain ⟨b0, b1, b2⟩ := B2.out.b.cells
    go_wp2_with fail
    go_at_call 18
    refine (HM.out _ B2.out.bel).mono ?_
    rintro e w3 ⟨rfl, hb⟩
    have B3 := Lib.hid (B2.out.on hb)
    clear hb a0 a1 a2 b0 b1 b2
    obtain ⟨a0, a1, a2⟩ := B3.out.a.cells
    obtain ⟨b0, b1, b2⟩ := B3.out.b.cells
    go_wp2_with fail
    go_at_call 18
    refine (HK.out _ B3.out.bel).mono ?_
    rintro e w4 ⟨rfl, hb⟩
    have B4 := Lib.hid (B3.out.on hb)
    clear hb a0 a1 a2 b0 b1 b2
    obtain ⟨a0, a1, a2⟩ := B4.out.a.cells
    obtain ⟨b0, b1, b2⟩ := B4.out.b.cells
    go_wp2_with fail
    clear a0 a1 a2 b0 b1 b2
    have B5 := Lib.hid (B4.out.on (Below.drew (Below.refl _ _)))
    have HSF : Hid (∀ W, Bx2 w W (.string S) (.int .i64 v) (.slice o L c) (.string S') (.int .i64 v') (.slice o' L' c') → W.cell? ⟨w.heap.size, 0, none⟩ = some (.string S) ∧ W.cell? ⟨w.heap.size, 1, none⟩ = some (.int .i64 v) ∧ W.cell? ⟨w.heap.size, 2, none⟩ = some (.slice o L c) ∧
      W.cell? ⟨w.heap.size + 1, 0, none⟩ = some (.string S') ∧ W.cell? ⟨w.heap.size + 1, 1, none⟩ = some (.int .i64 v') ∧ W.cell? ⟨w.heap.size + 1, 2, none⟩ = some (.slice o' L' c')) := Lib.hid (fun W h => ⟨h.a.cells.1, h.a.cells.2.1, h.a.cells.2.2, h.b.cells⟩)
    refine wp_region_held_drew (S := fun W => W.cell? ⟨w.heap.size, 0, none⟩ = some (.string S) ∧ W.cell? ⟨w.heap.size, 1, none⟩ = some (.int .i64 v) ∧ W.cell? ⟨w.heap.size, 2, none⟩ = some (.slice o L c) ∧
      W.cell? ⟨w.heap.size + 1, 0, none⟩ = some (.string S') ∧ W.cell? ⟨w.heap.size + 1, 1, none⟩ = some (.int .i64 v') ∧ W.cell? ⟨w.heap.size + 1, 2, none⟩ = some (.slice o' L' c')) (by kernel_rfl) (HSF.out _ B5.out) ?_
    intro hHeld
    refine wpAnyH_ready (rs := [0]) (by kernel_rfl) (by simp) ?_
    refine AllReadyH.cons (by simp only [List.getElem?_toArray, List.getElem?_cons_zero]; rfl) (fun K hK => ?_) AllReadyH.nil
    go_simp
    refine (HA.out _ B5.out.bel).mono ?_
    rintro e w6 ⟨rfl, hb⟩
    have B6 := Lib.hid (B5.out.on hb)
    clear hb
    refine hK.out _ _ (HSF.out _ B6.out) (fun hHeld => ?_)
    clear hK K
    try simp only [Act.put, List.setIfInBounds_toArray, List.set_cons_zero, List.set_cons_succ]
    refine wpAnyH_take (i := 1) (v := ?_) (by simp only [List.getElem?_toArray, List.getElem?_cons_succ, List.getElem?_cons_zero]; rfl) (by kernel_rfl) (by kernel_rfl) (by kernel_rfl) (by intro _ _ _ h; exact h) (Or.inl ⟨by rfl, ?_⟩) (by assumption) ?_
    rotate_left
    · (intro w hSw; (try dsimp only at hSw); go_simp; try with_reducible rfl)
    try simp only [Act.put, List.setIfInBounds_toArray, List.set_cons_zero, List.set_cons_succ]
    refine wpAnyH_take (i := 2) (v := ?_) (by simp only [List.getElem?_toArray, List.getElem?_cons_succ, List.getElem?_cons_zero]; rfl) (by kernel_rfl) (by kernel_rfl) (by kernel_rfl) (by intro _ _ _ h; exact h) (Or.inl ⟨by rfl, ?_⟩) (by assumption) ?_
    rotate_left
    · (intro w hSw; (try dsimp only at hSw); go_simp; try with_reducible rfl)
    try simp only [Act.put, List.setIfInBounds_toArray, List.set_cons_zero, List.set_cons_succ]
    refine wpAnyH_take (i := 4) (v := ?_) (by simp only [List.getElem?_toArray, List.getElem?_cons_succ, List.getElem?_cons_zero]; rfl) (by kernel_rfl) (by kernel_rfl) (by kernel_rfl) (by intro _ _ _ h; exact h) (Or.inl ⟨by rfl, ?_⟩) (by assumption) ?_
    rotate_left
    · (intro w hSw; (try dsimp only at hSw); go_simp; try with_reducible rfl)
    try simp only [Act.put, List.setIfInBounds_toArray, List.set_cons_zero, List.set_cons_succ]
    refine wpAnyH_take (i := 7) (v := ?_) (by simp only [List.getElem?_toArray, List.getElem?_cons_succ, List.getElem?_cons_zero]; rfl) (by kernel_rfl) (by kernel_rfl) (by kernel_rfl) (by intro _ _ _ h; exact h) (Or.inl ⟨by rfl, ?_⟩) (by assumption) ?_
    rotate_left
    · (intro w hSw; (try dsimp only at hSw); go_simp; try with_reducible rfl)
    try simp only [Act.put, List.setIfInBounds_toArray, List.set_cons_zero, List.set_cons_succ]
    refine wpAnyH_take (i := 8) (v := ?_) (by simp only [List.getElem?_toArray, List.getElem?_cons_succ, List.getElem?_cons_zero]; rfl) (by kernel_rfl) (by kernel_rfl) (by kernel_rfl) (by intro _ _ _ h; exact h) (Or.inl ⟨by rfl, ?_⟩) (by assumption) ?_
    rotate_left
    · (intro w hSw; (try dsimp only at hSw); go_simp; try with_reducible rfl)
    try simp only [Act.put, List.setIfInBounds_toArray, List.set_cons_zero, List.set_cons_succ]
    refine wpAnyH_ready (rs := [3]) (by kernel_rfl) (by simp) ?_
    refine AllReadyH.cons (by simp only [List.getElem?_toArray, List.getElem?_cons_succ, List.getElem?_cons_zero]; rfl) (fun K hK => ?_) AllReadyH.nil
    go_simp
    refine (HP.out _ B6.out.bel).mono ?_
    rintro e w7 ⟨rfl, hb⟩
    have B7 := Lib.hid (B6.out.on hb)
    clear hb
    refine hK.out _ _ (HSF.out _ B7.out) (fun hHeld => ?_)
    clear hK K
    try simp only [Act.put, List.setIfInBounds_toArray, List.set_cons_zero, List.set_cons_succ]
    refine wpAnyH_ready (rs := [5]) (by kernel_rfl) (by simp) ?_
    refine AllReadyH.cons (by simp only [List.getElem?_toArray, List.getElem?_cons_succ, List.getElem?_cons_zero]; rfl) (fun K hK => ?_) AllReadyH.nil
    go_simp
    refine (HP'.out _ B7.out.bel).mono ?_
    rintro e w8 ⟨rfl, hb⟩
    have B8 := Lib.hid (B7.out.on hb)
    clear hb
    refine hK.out _ _ (HSF.out _ B8.out) (fun hHeld => ?_)
    clear hK K
    try simp only [Act.put, List.setIfInBounds_toArray, List.set_cons_zero, List.set_cons_succ]
    refine wpAnyH_take (i := 6) (v := ?_) (by simp only [List.getElem?_toArray, List.getElem?_cons_succ, List.getElem?_cons_zero]; rfl) (by kernel_rfl) (by kernel_rfl) (by kernel_rfl) (by intro _ _ _ h; exact h) (Or.inl ⟨by rfl, ?_⟩) (by assumption) ?_
    rotate_left
    · (intro w hSw; (try dsimp only at hSw); go_simp; try with_reducible rfl)
    try simp only [Act.put, List.setIfInBounds_toArray, List.set_cons_zero, List.set_cons_succ]
    refine wpAnyH_ready (rs := [9]) (by kernel_rfl) (by simp) ?_
    refine AllReadyH.cons (by simp only [List.getElem?_toArray, List.getElem?_cons_succ, List.getElem?_cons_zero]; rfl) (fun K hK => ?_) AllReadyH.nil
    go_simp
    refine (HE.out _ B8.out.bel).mono ?_
    rintro e w9 ⟨rfl, hb⟩
    have B9 := Lib.hid (B8.out.on hb)
    clear hb
    refine hK.out _ _ (HSF.out _ B9.out) (fun hHeld => ?_)
    clear hK K
    try simp only [Act.put, List.setIfInBounds_toArray, List.set_cons_zero, List.set_cons_succ]
    refine wpAnyH_take (i := 10) (v := ?_) (by simp only [List.getElem?_toArray, List.getElem?_cons_succ, List.getElem?_cons_zero]; rfl) (by kernel_rfl) (by kernel_rfl) (by kernel_rfl) (by intro _ _ _ h; exact h) (Or.inl ⟨by rfl, ?_⟩) (by assumption) ?_
    rotate_left
    · (intro w hSw; (try dsimp only at hSw); go_simp; try with_reducible rfl)
    try simp only [Act.put, List.setIfInBounds_toArray, List.set_cons_zero, List.set_cons_succ]
    refine wpAnyH_take (i := 11) (v := ?_) (by simp only [List.getElem?_toArray, List.getElem?_cons_succ, List.getElem?_cons_zero]; rfl) (by kernel_rfl) (by kernel_rfl) (by kernel_rfl) (by intro _ _ _ h; exact h) (Or.inl ⟨by rfl, ?_⟩) (by assumption) ?_
    rotate_left
    · (intro w hSw; (try dsimp only at hSw); go_simp; try with_reducible rfl)
    try simp only [Act.put, List.setIfInBounds_toArray, List.set_cons_zero, List.set_cons_succ]
    refine wpAnyH_take (i := 12) (v := ?_) (by simp only [List.getElem?_toArray, List.getElem?_cons_succ, List.getElem?_cons_zero]; rfl) (by kernel_rfl) (by kernel_rfl) (by kernel_rfl) (by intro _ _ _ h; exact h) (Or.inl ⟨by rfl, ?_⟩) (by assumption) ?_
    rotate_left
    · (intro w hSw; (try dsimp only at hSw); go_simp; try with_reducible rfl)
    try simp only [Act.put, List.setIfInBounds_toArray, List.set_cons_zero, List.set_cons_succ]
    refine wpAnyH_done (by kernel_rfl) ?_ _
    go_wp2
    go_ret
    exact ⟨rfl, B9.out.bel⟩
end Go.Proofs.YtiimofdbconlhaaDoor
