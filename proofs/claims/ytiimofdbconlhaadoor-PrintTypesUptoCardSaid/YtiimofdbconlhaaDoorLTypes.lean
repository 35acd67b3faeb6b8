/- Any type as a text: the walk. -/
import Derived.Test.YtiimofdbconlhaaDoorPriWx
import Derived.OrdersHeld
import Derived.Deep.RegionHeld3
namespace Go.Proofs.YtiimofdbconlhaaDoor
open Go.RowKit PriM

set_option maxRecDepth 100000 in
set_option maxHeartbeats 2000000 in
theorem types_walk (t : Ty) (c0 c1 c2 : Value) (w : World) (ht : Tab w) (hty : TyV w.heap.size w t c0 c1 c2) (hw : wT t ≤ 100000000000) (hn : wN t ≤ 100000000000) :
    Calls Tryd.prog 3 #[.agg #[c0, c1, c2]] w fun e w' => e = .returned (.bool true) ∧ Below w.heap.size w w' := by
  have HT := Lib.hid (tabN_of ht)
  have HS := Lib.hid (fun W (hb : Below w.heap.size w W) => small_any w.heap.size t 0 W c0 c1 c2 (TyV.below hb t hty) hb.size hw (by omega))
  have HA := Lib.hid (fun W (hb : Below w.heap.size w W) => awake W (HT.out W hb))
  have hlen := rT_len t hty
  have h1 := hty
  obtain ⟨nm, v, ks⟩ := t
  obtain ⟨rfl, rfl, v0, v1, o, c, rfl, -⟩ := h1
  have HP := Lib.hid (fun W (hb : Below w.heap.size w W) => type_any w.heap.size (.mk nm v ks) _ v o ks.length c W ⟨TyV.below hb _ hty, hb.size, HT.out.on hb, hw, by omega⟩ (by omega))
  have HR := Lib.hid (fun W (hb : Below w.heap.size w W) (hok : okT (.mk nm v ks)) => rtype_any w.heap.size (.mk nm v ks) 0 W _ _ _ (by omega) ⟨TyV.below hb _ hty, hok, hb.size, by omega, by omega⟩)
  have H1 := Lib.hid (One.new w (.string ⟨nm.toArray⟩) (.int .i64 v) (.slice o ks.length c))
  have HO := Lib.hid (fun (h : smT 0 (.mk nm v ks) = true) => okT_of h)
  have HE := Lib.hid (rH0 (.mk nm v ks))
  clear hty hlen hw hn v0 v1 ht HT
  generalize rH 0 (.mk nm v ks) = X at *
  generalize smT 0 (.mk nm v ks) = b at *
  generalize okT (.mk nm v ks) = OK at *
  generalize rT vn (.mk nm v ks) = Y at *
  generalize (⟨nm.toArray⟩ : ByteArray) = S at *
  generalize ks.length = L at *
  cases b with
  | false =>
    go_enter Tryd.func3, Tryd.ntmps3
    go_wp2_with fail
    go_at_call 8
    refine (HS.out _ H1.out.bel).mono ?_
    rintro e w1 ⟨rfl, hb⟩
    have B1 := Lib.hid (H1.out.on hb)
    clear hb
    go_wp2_with fail
    go_at_call 9
    refine (HA.out w1 B1.out.bel).mono ?_
    rintro e w2 ⟨rfl, hb⟩
    have B2 := Lib.hid (B1.out.on hb)
    clear hb
    go_wp2_with fail
    go_ret
    exact ⟨rfl, B2.out.bel⟩
  | true =>
    have q : (Y == X) = true := by rw [HE.out]; simp
    clear HE
    go_enter Tryd.func3, Tryd.ntmps3
    go_wp2_with fail
    go_at_call 8
    refine (HS.out _ H1.out.bel).mono ?_
    rintro e w1 ⟨rfl, hb⟩
    have B1 := Lib.hid (H1.out.on hb)
    clear hb
    go_wp2_with fail
    have B1d := Lib.hid (B1.out.on (Below.drew (Below.refl _ _)))
    refine wp_region_held_drew (S := fun w' => w'.cell? ⟨w.heap.size, 0, none⟩ = some (.string S) ∧ w'.cell? ⟨w.heap.size, 1, none⟩ = some (.int .i64 v) ∧ w'.cell? ⟨w.heap.size, 2, none⟩ = some (.slice o L c)) (by kernel_rfl) B1d.out.box.cells ?_
    intro hHeld
    refine wpAnyH_ready (rs := [0]) (by kernel_rfl) (by simp) ?_
    refine AllReadyH.cons (by simp only [List.getElem?_toArray, List.getElem?_cons_zero]; rfl) (fun K hK => ?_) AllReadyH.nil
    go_simp
    refine (HA.out _ B1d.out.bel).mono ?_
    rintro e w2 ⟨rfl, hb⟩
    have B2 := Lib.hid (B1d.out.on hb)
    clear hb
    refine hK.out _ _ B2.out.box.cells (fun hHeld => ?_)
    clear hK K
    try simp only [Act.put, List.setIfInBounds_toArray, List.set_cons_zero, List.set_cons_succ]
    refine wpAnyH_take (i := 1) (v := ?_) (by simp only [List.getElem?_toArray, List.getElem?_cons_succ, List.getElem?_cons_zero]; rfl) (by kernel_rfl) (by kernel_rfl) (by kernel_rfl) (by intro _ _ _ h; exact h) (Or.inl ⟨by rfl, ?_⟩) (by assumption) ?_
    rotate_left
    · (intro w hSw; (try dsimp only at hSw); go_simp; try with_reducible rfl)
    try simp only [Act.put, List.setIfInBounds_toArray, List.set_cons_zero, List.set_cons_succ]
    refine wpAnyH_take (i := 2) (v := ?_) (by simp only [List.getElem?_toArray, List.getElem?_cons_succ, List.getElem?_cons_zero]; rfl) (by kernel_rfl) (by kernel_rfl) (by kernel_rfl) (by intro _ _ _ h; exact h) (Or.inl ⟨by rfl, ?_⟩) (by assumption) ?_
    rotate_left
    · (intro w hSw; (try dsimp only at hSw); go_simp; try with_reducible rfl)
    try simp only [Act.put, List.setIfInBounds_toArray, List.set_cons_zero, List.set_cons_succ]
    refine wpAnyH_take (i := 4) (v := ?_) (by simp only [List.getElem?_toArray, List.getElem?_cons_succ, List.getElem?_cons_zero]; rfl) (by kernel_rfl) (by kernel_rfl) (by kernel_rfl) (by intro _ _ _ h; exact h) (Or.inl ⟨by rfl, ?_⟩) (by assumption) ?_
    rotate_left
    · (intro w hSw; (try dsimp only at hSw); go_simp; try with_reducible rfl)
    try simp only [Act.put, List.setIfInBounds_toArray, List.set_cons_zero, List.set_cons_succ]
    refine wpAnyH_ready (rs := [3]) (by kernel_rfl) (by simp) ?_
    refine AllReadyH.cons (by simp only [List.getElem?_toArray, List.getElem?_cons_succ, List.getElem?_cons_zero]; rfl) (fun K hK => ?_) AllReadyH.nil
    go_simp
    refine (HP.out w2 B2.out.bel).mono ?_
    rintro e w3 ⟨rfl, hb⟩
    have B3 := Lib.hid (B2.out.on hb)
    clear hb
    refine hK.out _ _ B3.out.box.cells (fun hHeld => ?_)
    clear hK K
    try simp only [Act.put, List.setIfInBounds_toArray, List.set_cons_zero, List.set_cons_succ]
    refine wpAnyH_ready (rs := [5]) (by kernel_rfl) (by simp) ?_
    refine AllReadyH.cons (by simp only [List.getElem?_toArray, List.getElem?_cons_succ, List.getElem?_cons_zero]; rfl) (fun K hK => ?_) AllReadyH.nil
    go_simp
    refine (HR.out w3 B3.out.bel (HO.out (by first | rfl | trivial))).mono ?_
    rintro e w4 ⟨rfl, hb⟩
    have B4 := Lib.hid (B3.out.on hb)
    clear hb
    refine hK.out _ _ B4.out.box.cells (fun hHeld => ?_)
    clear hK K
    try simp only [Act.put, List.setIfInBounds_toArray, List.set_cons_zero, List.set_cons_succ]
    refine wpAnyH_take (i := 6) (v := ?_) (by simp only [List.getElem?_toArray, List.getElem?_cons_succ, List.getElem?_cons_zero]; rfl) (by kernel_rfl) (by kernel_rfl) (by kernel_rfl) (by intro _ _ _ h; exact h) (Or.inl ⟨by rfl, ?_⟩) (by assumption) ?_
    rotate_left
    · (intro w hSw; (try dsimp only at hSw); go_simp; try with_reducible rfl)
    try simp only [Act.put, List.setIfInBounds_toArray, List.set_cons_zero, List.set_cons_succ]
    refine wpAnyH_take (i := 7) (v := ?_) (by simp only [List.getElem?_toArray, List.getElem?_cons_succ, List.getElem?_cons_zero]; rfl) (by kernel_rfl) (by kernel_rfl) (by kernel_rfl) (by intro _ _ _ h; exact h) (Or.inl ⟨by rfl, ?_⟩) (by assumption) ?_
    rotate_left
    · (intro w hSw; (try dsimp only at hSw); go_simp; try with_reducible rfl)
    try simp only [Act.put, List.setIfInBounds_toArray, List.set_cons_zero, List.set_cons_succ]
    refine wpAnyH_take (i := 8) (v := ?_) (by simp only [List.getElem?_toArray, List.getElem?_cons_succ, List.getElem?_cons_zero]; rfl) (by kernel_rfl) (by kernel_rfl) (by kernel_rfl) (by intro _ _ _ h; exact h) (Or.inl ⟨by rfl, ?_⟩) (by assumption) ?_
    rotate_left
    · (intro w hSw; (try dsimp only at hSw); go_simp; try with_reducible rfl)
    try simp only [Act.put, List.setIfInBounds_toArray, List.set_cons_zero, List.set_cons_succ]
    refine wpAnyH_done (by kernel_rfl) ?_ _
    go_wp2
    go_ret
    exact ⟨rfl, B4.out.bel⟩
end Go.Proofs.YtiimofdbconlhaaDoor
