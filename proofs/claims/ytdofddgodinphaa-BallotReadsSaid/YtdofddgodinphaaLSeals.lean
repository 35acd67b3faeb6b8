/- The law of seals: any bytes sealed, and back; any bytes as sealed ones. -/
import Derived.Test.YtdofddgodinphaaOctH
import Derived.Test.YtdofddgodinphaaOctT
namespace Go.Proofs.Ytdofddgodinphaa
open Go.RowKit OctM

theorem openS_sealed (l : List UInt8) : openS (sealed l) = (l, 0) := by
  have h := sealed_length l
  have e : (sealed l).take ((sealed l).length - 4) = l := by
    rw [h, Nat.add_sub_cancel]
    exact List.take_left
  unfold openS
  rw [if_neg (by omega), e, if_pos rfl]

set_option maxHeartbeats 4000000 in
set_option maxRecDepth 100000 in
theorem refopen (p : Value) (l : List UInt8) (w : World) (h : Rd w p l) (hl : l.length ≤ 140737488351232) :
    Calls Try.prog 33 #[p] w fun e w' => OPost w w' (openS l) e := by
  have h0 : (0 : Int) ≤ (l.length : Int) := by omega
  have h1 : (l.length : Int) ≤ 140737488351232 := by omega
  by_cases h4 : l.length < 4
  · obtain ⟨o, c, rfl⟩ : ∃ o c, p = .slice o l.length c := by
      rcases h with ⟨rfl, rfl⟩ | ⟨_, c, rfl, _⟩ <;> exact ⟨_, _, rfl⟩
    have hd : (l.length : Int) < 4 := by omega
    have HO : Hid (openS l = ([], 3)) := if_pos h4
    clear h h4
    go_enter Try.func33, Try.ntmps33
    go_wp2_with fail
    go_ret2
    rw [HO.out]
    exact ⟨⟨_, rfl, .inl ⟨rfl, rfl⟩⟩, Below.refl _ _⟩
  · obtain ⟨a, c, rfl, hc⟩ : ∃ a c, p = .slice (some a) l.length c ∧ l.length ≤ c ∧ c ≤ maxLen := by
      rcases h with ⟨rfl, rfl⟩ | ⟨a, c, rfl, h1, h2, _⟩
      · simp at h4
      · exact ⟨_, _, rfl, h1, h2⟩
    obtain ⟨n, hn⟩ : ∃ n : Nat, l.length = n + 4 := ⟨l.length - 4, by omega⟩
    have hn0 : (0 : Int) ≤ (n : Int) := by omega
    have hnc : (n : Int) ≤ (c : Int) := by omega
    have hrt := h.take n (by omega)
    have HS := Lib.hid (refseal (.slice (some a) n c) (l.take n) w.drew (hrt.below (Below.refl _ _).drew) (by rw [List.length_take]; omega))
    have hm := hc.2
    unfold maxLen at hm
    have hcm : (c : Int) ≤ 9223372036854775807 := by omega
    have hcp := fun (w' : World) (hb : Below w.heap.size w w') => toStr (h.below hb)
    unfold S at hcp
    have HO : Hid (openS l = if sealed (l.take n) = l then (l.take n, 0) else ([], 14)) := by
      show openS l = _
      unfold openS
      rw [if_neg h4, show l.length - 4 = n by omega]
    have HRT := Lib.hid hrt
    have hl4 : ¬ (l.length : Int) < 4 := by omega
    have hsub : (l.length : Int) - 4 = (n : Int) := by omega
    have HCP := Lib.hid hcp
    have hc0 := hcp w.drew (Below.refl _ _).drew
    clear h hc hm h4 hrt hcp
    rw [hn] at *
    have hsub2 : ((n + 4 : Nat) : Int) - 4 = (n : Int) := by omega
    clear hsub hn
    by_cases he : sealed (l.take n) = l
    · have hb : (sealed (l.take n) == l) = true := by rw [he]; simp
      have HO' : Hid (openS l = (l.take n, 0)) := HO.out.trans (if_pos he)
      clear he
      go_enter Try.func33, Try.ntmps33
      go_wp2_with fail
      refine wp_region_held_drew (S := fun w' => (convert 24 9 (.slice (some a) (n + 4) c)).run Try.prog w' = .ok (.string ⟨l.toArray⟩) w') (by kernel_rfl) hc0 ?_
      intro hHeld
      refine wpAnyH_take (i := 0) (v := ?_) (by simp only [List.getElem?_toArray, List.getElem?_cons_zero]; rfl) (by kernel_rfl) (by kernel_rfl) (by kernel_rfl) (by intro _ _ _ h; exact h) (Or.inl ⟨by rfl, ?_⟩) (by assumption) ?_
      rotate_left
      · (intro w hSw; (try dsimp only at hSw); go_simp; try with_reducible rfl)
      try simp only [Act.put, List.setIfInBounds_toArray, List.set_cons_zero, List.set_cons_succ]
      refine wpAnyH_take (i := 1) (v := ?_) (by simp only [List.getElem?_toArray, List.getElem?_cons_succ, List.getElem?_cons_zero]; rfl) (by kernel_rfl) (by kernel_rfl) (by kernel_rfl) (by intro _ _ _ h; exact h) (Or.inl ⟨by rfl, ?_⟩) (by assumption) ?_
      rotate_left
      · (intro w hSw; (try dsimp only at hSw); go_simp; try with_reducible rfl)
      try simp only [Act.put, List.setIfInBounds_toArray, List.set_cons_zero, List.set_cons_succ]
      refine wpAnyH_take (i := 2) (v := ?_) (by simp only [List.getElem?_toArray, List.getElem?_cons_succ, List.getElem?_cons_zero]; rfl) (by kernel_rfl) (by kernel_rfl) (by kernel_rfl) (by intro _ _ _ h; exact h) (Or.inl ⟨by rfl, ?_⟩) (by assumption) ?_
      rotate_left
      · (intro w hSw; (try dsimp only at hSw); go_simp; try with_reducible rfl)
      try simp only [Act.put, List.setIfInBounds_toArray, List.set_cons_zero, List.set_cons_succ]
      refine wpAnyH_take (i := 5) (v := ?_) (by simp only [List.getElem?_toArray, List.getElem?_cons_succ, List.getElem?_cons_zero]; rfl) (by kernel_rfl) (by kernel_rfl) (by kernel_rfl) (by intro _ _ _ h; exact h) (Or.inl ⟨by rfl, ?_⟩) (by assumption) ?_
      rotate_left
      · (intro w hSw; (try dsimp only at hSw); go_simp; try with_reducible rfl)
      try simp only [Act.put, List.setIfInBounds_toArray, List.set_cons_zero, List.set_cons_succ]
      refine wpAnyH_take (i := 6) (v := ?_) (by simp only [List.getElem?_toArray, List.getElem?_cons_succ, List.getElem?_cons_zero]; rfl) (by kernel_rfl) (by kernel_rfl) (by kernel_rfl) (by intro _ _ _ h; exact h) (Or.inl ⟨by rfl, ?_⟩) (by assumption) ?_
      rotate_left
      · (intro w hSw; (try dsimp only at hSw); go_simp; try with_reducible rfl)
      try simp only [Act.put, List.setIfInBounds_toArray, List.set_cons_zero, List.set_cons_succ]
      refine wpAnyH_ready (rs := [3]) (by kernel_rfl) (by simp) ?_
      refine AllReadyH.cons (by simp only [List.getElem?_toArray, List.getElem?_cons_succ, List.getElem?_cons_zero]; rfl) (fun K hK => ?_) AllReadyH.nil
      go_simp
      refine HS.out.mono ?_
      rintro e w1 ⟨v1, rfl, ho1, hb1⟩
      have hb1' : Below w.heap.size w w1 := (Below.refl _ w).drew.trans hb1
      have hc1 := HCP.out w1 hb1'
      have ht1 := toStr' ho1
      go_wp2_with fail
      refine hK.out _ _ hc1 (fun hHeld => ?_)
      clear hK K
      try simp only [Act.put, List.setIfInBounds_toArray, List.set_cons_zero, List.set_cons_succ]
      refine wpAnyH_ready (rs := [4]) (by kernel_rfl) (by simp) ?_
      refine AllReadyH.cons (by simp only [List.getElem?_toArray, List.getElem?_cons_succ, List.getElem?_cons_zero]; rfl) (fun K hK => ?_) AllReadyH.nil
      go_simp
      refine hK.out _ _ hc1 (fun hHeld => ?_)
      clear hK K
      try simp only [Act.put, List.setIfInBounds_toArray, List.set_cons_zero, List.set_cons_succ]
      have HRT1 := HRT.out.below hb1'
      refine wpAnyH_take (i := 7) (v := ?_) (by simp only [List.getElem?_toArray, List.getElem?_cons_succ, List.getElem?_cons_zero]; rfl) (by kernel_rfl) (by kernel_rfl) (by kernel_rfl) (by intro _ _ _ h; exact h) (Or.inl ⟨by rfl, ?_⟩) (by assumption) ?_
      rotate_left
      · (intro w hSw; (try dsimp only at hSw); go_simp; try with_reducible rfl)
      try simp only [Act.put, List.setIfInBounds_toArray, List.set_cons_zero, List.set_cons_succ]
      refine wpAnyH_done (by kernel_rfl) ?_ _
      go_wp2_with fail
      go_ret2
      rw [HO'.out]
      exact ⟨⟨_, rfl, HRT1⟩, hb1'⟩
    · have hb : (sealed (l.take n) == l) = false := by simp [he]
      have HO' : Hid (openS l = ([], 14)) := HO.out.trans (if_neg he)
      clear he
      go_enter Try.func33, Try.ntmps33
      go_wp2_with fail
      refine wp_region_held_drew (S := fun w' => (convert 24 9 (.slice (some a) (n + 4) c)).run Try.prog w' = .ok (.string ⟨l.toArray⟩) w') (by kernel_rfl) hc0 ?_
      intro hHeld
      refine wpAnyH_take (i := 0) (v := ?_) (by simp only [List.getElem?_toArray, List.getElem?_cons_zero]; rfl) (by kernel_rfl) (by kernel_rfl) (by kernel_rfl) (by intro _ _ _ h; exact h) (Or.inl ⟨by rfl, ?_⟩) (by assumption) ?_
      rotate_left
      · (intro w hSw; (try dsimp only at hSw); go_simp; try with_reducible rfl)
      try simp only [Act.put, List.setIfInBounds_toArray, List.set_cons_zero, List.set_cons_succ]
      refine wpAnyH_take (i := 1) (v := ?_) (by simp only [List.getElem?_toArray, List.getElem?_cons_succ, List.getElem?_cons_zero]; rfl) (by kernel_rfl) (by kernel_rfl) (by kernel_rfl) (by intro _ _ _ h; exact h) (Or.inl ⟨by rfl, ?_⟩) (by assumption) ?_
      rotate_left
      · (intro w hSw; (try dsimp only at hSw); go_simp; try with_reducible rfl)
      try simp only [Act.put, List.setIfInBounds_toArray, List.set_cons_zero, List.set_cons_succ]
      refine wpAnyH_take (i := 2) (v := ?_) (by simp only [List.getElem?_toArray, List.getElem?_cons_succ, List.getElem?_cons_zero]; rfl) (by kernel_rfl) (by kernel_rfl) (by kernel_rfl) (by intro _ _ _ h; exact h) (Or.inl ⟨by rfl, ?_⟩) (by assumption) ?_
      rotate_left
      · (intro w hSw; (try dsimp only at hSw); go_simp; try with_reducible rfl)
      try simp only [Act.put, List.setIfInBounds_toArray, List.set_cons_zero, List.set_cons_succ]
      refine wpAnyH_take (i := 5) (v := ?_) (by simp only [List.getElem?_toArray, List.getElem?_cons_succ, List.getElem?_cons_zero]; rfl) (by kernel_rfl) (by kernel_rfl) (by kernel_rfl) (by intro _ _ _ h; exact h) (Or.inl ⟨by rfl, ?_⟩) (by assumption) ?_
      rotate_left
      · (intro w hSw; (try dsimp only at hSw); go_simp; try with_reducible rfl)
      try simp only [Act.put, List.setIfInBounds_toArray, List.set_cons_zero, List.set_cons_succ]
      refine wpAnyH_take (i := 6) (v := ?_) (by simp only [List.getElem?_toArray, List.getElem?_cons_succ, List.getElem?_cons_zero]; rfl) (by kernel_rfl) (by kernel_rfl) (by kernel_rfl) (by intro _ _ _ h; exact h) (Or.inl ⟨by rfl, ?_⟩) (by assumption) ?_
      rotate_left
      · (intro w hSw; (try dsimp only at hSw); go_simp; try with_reducible rfl)
      try simp only [Act.put, List.setIfInBounds_toArray, List.set_cons_zero, List.set_cons_succ]
      refine wpAnyH_ready (rs := [3]) (by kernel_rfl) (by simp) ?_
      refine AllReadyH.cons (by simp only [List.getElem?_toArray, List.getElem?_cons_succ, List.getElem?_cons_zero]; rfl) (fun K hK => ?_) AllReadyH.nil
      go_simp
      refine HS.out.mono ?_
      rintro e w1 ⟨v1, rfl, ho1, hb1⟩
      have hb1' : Below w.heap.size w w1 := (Below.refl _ w).drew.trans hb1
      have hc1 := HCP.out w1 hb1'
      have ht1 := toStr' ho1
      go_wp2_with fail
      refine hK.out _ _ hc1 (fun hHeld => ?_)
      clear hK K
      try simp only [Act.put, List.setIfInBounds_toArray, List.set_cons_zero, List.set_cons_succ]
      refine wpAnyH_ready (rs := [4]) (by kernel_rfl) (by simp) ?_
      refine AllReadyH.cons (by simp only [List.getElem?_toArray, List.getElem?_cons_succ, List.getElem?_cons_zero]; rfl) (fun K hK => ?_) AllReadyH.nil
      go_simp
      refine hK.out _ _ hc1 (fun hHeld => ?_)
      clear hK K
      try simp only [Act.put, List.setIfInBounds_toArray, List.set_cons_zero, List.set_cons_succ]
      refine wpAnyH_take (i := 7) (v := ?_) (by simp only [List.getElem?_toArray, List.getElem?_cons_succ, List.getElem?_cons_zero]; rfl) (by kernel_rfl) (by kernel_rfl) (by kernel_rfl) (by intro _ _ _ h; exact h) (Or.inl ⟨by rfl, ?_⟩) (by assumption) ?_
      rotate_left
      · (intro w hSw; (try dsimp only at hSw); go_simp; try with_reducible rfl)
      try simp only [Act.put, List.setIfInBounds_toArray, List.set_cons_zero, List.set_cons_succ]
      refine wpAnyH_done (by kernel_rfl) ?_ _
      go_wp2_with fail
      go_ret2
      rw [HO'.out]
      exact ⟨⟨_, rfl, .inl ⟨rfl, rfl⟩⟩, hb1'⟩

end Go.Proofs.Ytdofddgodinphaa
