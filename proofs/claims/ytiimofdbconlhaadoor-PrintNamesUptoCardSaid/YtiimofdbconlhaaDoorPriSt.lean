/- Are two types one? The walk over the kids. -/
import Derived.Test.YtiimofdbconlhaaDoorPriSs
import Derived.OrdersHeld
import Derived.Deep.RegionHeld3
namespace Go.Proofs.YtiimofdbconlhaaDoor
open Go.RowKit PriM

/-- Where a type's kids lie. -/
def KidsAt (n : Nat) (w : World) (o : Option Addr) (ks : List Ty) : Prop := 0 < ks.length → ∃ b off, o = some ⟨b, off, none⟩ ∧ b < n ∧ TysV n w ks b off
theorem KidsAt.of {n : Nat} {w : World} {o : Option Addr} {ks : List Ty} {cap : Nat} (h : ks = [] ∨ ∃ b off, o = some ⟨b, off, none⟩ ∧ b < n ∧ ks.length ≤ cap ∧ cap ≤ maxLen ∧ TysV n w ks b off) : KidsAt n w o ks := fun h0 => by
  rcases h with rfl | ⟨b, off, h1, h2, _, _, h3⟩
  · simp at h0
  · exact ⟨b, off, h1, h2, h3⟩

set_option maxRecDepth 100000 in
set_option maxHeartbeats 16000000 in
theorem same_good (n : Nat) (v v' : Int) (ks ls : List Ty) (S S' : ByteArray) (o o' : Option Addr) (c c' : Nat) (w : World) (h1 : S.toList = S'.toList) (h2 : v = v') (h3 : ks.length = ls.length) (hm : ks.length ≤ 1000000000000)
    (hks : KidsAt n w o ks) (hls : KidsAt n w o' ls) (hn : n ≤ w.heap.size)
    (ih : ∀ t ∈ ks, ∀ (u : Ty) (W : World) (c0 c1 c2 d0 d1 d2 : Value), TyV n W t c0 c1 c2 → TyV n W u d0 d1 d2 → n ≤ W.heap.size → Calls Tryd.prog 13 #[.agg #[c0, c1, c2], .agg #[d0, d1, d2]] W (BPost W (tyEq t u))) :
    Calls Tryd.prog 13 #[.agg #[.string S, .int .i64 v, .slice o ks.length c], .agg #[.string S', .int .i64 v', .slice o' ls.length c']] w (BPost w (tysEq ks ls)) := by
  have t1 : (S.toList == S'.toList) = true := by simpa using h1
  have t2 : (v == v') = true := by simpa using h2
  have t2' : (v != v') = false := by simpa using h2
  have HKS := Lib.hid hks
  have HLS := Lib.hid hls
  have HIH := Lib.hid ih
  have HN := Lib.hid hn
  have H1 := Lib.hid (Bx2.new w (.string S) (.int .i64 v) (.slice o ks.length c) (.string S') (.int .i64 v') (.slice o' ls.length c'))
  have HBP := Lib.hid (fun (e : Bool) wr (hb : Below w.heap.size w wr) => (show BPost w e (.returned (.bool e)) wr from ⟨rfl, hb⟩))
  have H0 := Lib.hid (show tysEq ks ls = tysEq (ks.drop 0) (ls.drop 0) by rw [List.drop_zero, List.drop_zero])
  have HND := Lib.hid (fun k (h : ks.length ≤ k) => tysEq_nil (ls := ls) h)
  obtain ⟨R, hR⟩ : ∃ R, R = tysEq ks ls := ⟨_, rfl⟩
  rw [← hR] at H0 ⊢
  obtain ⟨L, hL⟩ : ∃ L, L = ks.length := ⟨_, rfl⟩
  obtain ⟨L', hL'⟩ : ∃ L', L' = ls.length := ⟨_, rfl⟩
  have t3 : ((L : Int) == (L' : Int)) = true := by rw [beq_iff_eq]; omega
  have t3' : ((L : Int) != (L' : Int)) = false := by rw [bne_eq_false_iff_eq]; omega
  have q3 : ¬ ((L : Int) < 0) := by omega
  have q5 : L ≤ 1000000000000 := by omega
  have q6 : L ≤ L' := by omega
  have HL := Lib.hid hL
  have HL' := Lib.hid hL'
  rw [← hL, ← hL'] at H1 ⊢
  clear hL hL' hR h1 h2 h3 hm hks hls ih hn
  go_enter Tryd.func13, Tryd.ntmps13
  go_wp2_with fail
  go_loopw [5] (fun i wr => ∃ k : Nat, k ≤ L ∧ i = .int .i64 k ∧ R = tysEq (ks.drop k) (ls.drop k) ∧ Bx2 w wr (.string S) (.int .i64 v) (.slice o L c) (.string S') (.int .i64 v') (.slice o' L' c')) (fun i _ => L - (intOf i).toNat)
  case atStart => exact ⟨0, Nat.zero_le _, rfl, H0.out, H1.out⟩
  case round =>
    obtain ⟨k, hk, rfl, hR, hone⟩ := hrel
    obtain ⟨a0, a1, a2⟩ := hone.a.cells
    obtain ⟨b0, b1, b2⟩ := hone.b.cells
    by_cases hlt : k < L
    · have hltk : k < ks.length := by rw [← HL.out]; exact hlt
      have hltl : k < ls.length := by rw [← HL'.out]; omega
      have hlt' : k < L' := by omega
      obtain ⟨b, off, rfl, hb, hks⟩ := HKS.out (by omega)
      obtain ⟨b', off', rfl, hb', hls⟩ := HLS.out (by omega)
      obtain ⟨q0, q1, q2, f0, f1, f2, hty⟩ := (TysV.below (hone.bel.mono HN.out) hb ks hks).get k hltk
      obtain ⟨p0, p1, p2, g0, g1, g2, hty'⟩ := (TysV.below (hone.bel.mono HN.out) hb' ls hls).get k hltl
      have hcall := HIH.out ks[k] (List.getElem_mem _) ls[k] wr.drew q0 q1 q2 p0 p1 p2 (TyV.below (Below.drew (Below.refl _ _)) _ hty) (TyV.below (Below.drew (Below.refl _ _)) _ hty') (Nat.le_trans HN.out hone.bel.size)
      have hnx := tysEq_drop hltk hltl
      rw [← hR] at hnx
      generalize ks[k] = t at *
      generalize ls[k] = u at *
      obtain ⟨n', v1, k'⟩ := t
      obtain ⟨rfl, rfl, -, -, o1, c1, rfl, -⟩ := hty
      obtain ⟨n2, v2, k2⟩ := u
      obtain ⟨rfl, rfl, -, -, o2, c2, rfl, -⟩ := hty'
      have HX := Lib.hid hnx
      have HC := Lib.hid hcall
      have HO := Lib.hid (hone.on (Below.drew (Below.refl _ _)))
      have hz := hone.size
      have hnw := HN.out
      clear hR hone hcall hnx hltk hltl hks hls
      generalize (⟨n'.toArray⟩ : ByteArray) = S1 at *
      generalize (⟨n2.toArray⟩ : ByteArray) = S2 at *
      generalize tyEq (.mk n' v1 k') (.mk n2 v2 k2) = B at *
      generalize k'.length = m1 at *
      generalize k2.length = m2 at *
      have hsf : ∀ W, Below wr.heap.size wr W → (W.cell? ⟨w.heap.size, 2, none⟩ = some (.slice (some ⟨b, off, none⟩) L c) ∧ W.cell? ⟨w.heap.size + 1, 2, none⟩ = some (.slice (some ⟨b', off', none⟩) L' c') ∧
          W.cell? ⟨b, off + k * 3, none⟩ = some (.string S1) ∧ W.cell? ⟨b, off + k * 3 + 1, none⟩ = some (.int .i64 v1) ∧ W.cell? ⟨b, off + k * 3 + 2, none⟩ = some (.slice o1 m1 c1) ∧
          W.cell? ⟨b', off' + k * 3, none⟩ = some (.string S2) ∧ W.cell? ⟨b', off' + k * 3 + 1, none⟩ = some (.int .i64 v2) ∧ W.cell? ⟨b', off' + k * 3 + 2, none⟩ = some (.slice o2 m2 c2)) := fun W hW =>
        ⟨(hW.cell (show w.heap.size < _ by omega)).trans a2, (hW.cell (show w.heap.size + 1 < _ by omega)).trans b2, (hW.cell (show b < _ by omega)).trans f0, (hW.cell (show b < _ by omega)).trans f1, (hW.cell (show b < _ by omega)).trans f2,
          (hW.cell (show b' < _ by omega)).trans g0, (hW.cell (show b' < _ by omega)).trans g1, (hW.cell (show b' < _ by omega)).trans g2⟩
      have HSF := Lib.hid hsf
      clear hsf hz hnw hb hb'
      rcases B with _ | _
      · go_wp2_with fail
        refine wp_region_held_drew (S := fun W => W.cell? ⟨w.heap.size, 2, none⟩ = some (.slice (some ⟨b, off, none⟩) L c) ∧ W.cell? ⟨w.heap.size + 1, 2, none⟩ = some (.slice (some ⟨b', off', none⟩) L' c') ∧
          W.cell? ⟨b, off + k * 3, none⟩ = some (.string S1) ∧ W.cell? ⟨b, off + k * 3 + 1, none⟩ = some (.int .i64 v1) ∧ W.cell? ⟨b, off + k * 3 + 2, none⟩ = some (.slice o1 m1 c1) ∧
          W.cell? ⟨b', off' + k * 3, none⟩ = some (.string S2) ∧ W.cell? ⟨b', off' + k * 3 + 1, none⟩ = some (.int .i64 v2) ∧ W.cell? ⟨b', off' + k * 3 + 2, none⟩ = some (.slice o2 m2 c2)) (by kernel_rfl) ⟨a2, b2, f0, f1, f2, g0, g1, g2⟩ ?_
        intro hHeld
        refine wpAnyH_take (i := 0) (v := ?_) (by simp only [List.getElem?_toArray, List.getElem?_cons_zero]; rfl) (by kernel_rfl) (by kernel_rfl) (by kernel_rfl) (by intro _ _ _ h; exact h) (Or.inl ⟨by rfl, ?_⟩) (by assumption) ?_
        rotate_left
        · (intro w hSw; (try dsimp only at hSw); go_simp; try with_reducible rfl)
        try simp only [Act.put, List.setIfInBounds_toArray, List.set_cons_zero, List.set_cons_succ]
        refine wpAnyH_take (i := 1) (v := ?_) (by simp only [List.getElem?_toArray, List.getElem?_cons_succ, List.getElem?_cons_zero]; rfl) (by kernel_rfl) (by kernel_rfl) (by kernel_rfl) (by intro _ _ _ h; exact h) (Or.inl ⟨by rfl, ?_⟩) (by assumption) ?_
        rotate_left
        · (intro w hSw; (try dsimp only at hSw); go_simp; try with_reducible rfl)
        try simp only [Act.put, List.setIfInBounds_toArray, List.set_cons_zero, List.set_cons_succ]
        refine wpAnyH_take (i := 2) (v := ?_) (by simp only [List.getElem?_toArray, List.getElem?_cons_succ, List.getElem?_cons_zero]; rfl) (by kernel_rfl) (by kernel_rfl) (by kernel_rfl) (by intro _ _ _ h; exact h) (Or.inl ⟨by rfl, ?_⟩) (by assumption) ?_
        rotate_left
        · (intro w hSw; (try dsimp only at hSw); go_simp; try with_reducible rfl)
        try simp only [Act.put, List.setIfInBounds_toArray, List.set_cons_zero, List.set_cons_succ]
        refine wpAnyH_take (i := 3) (v := ?_) (by simp only [List.getElem?_toArray, List.getElem?_cons_succ, List.getElem?_cons_zero]; rfl) (by kernel_rfl) (by kernel_rfl) (by kernel_rfl) (by intro _ _ _ h; exact h) (Or.inl ⟨by rfl, ?_⟩) (by assumption) ?_
        rotate_left
        · (intro w hSw; (try dsimp only at hSw); go_simp; try with_reducible rfl)
        try simp only [Act.put, List.setIfInBounds_toArray, List.set_cons_zero, List.set_cons_succ]
        refine wpAnyH_take (i := 4) (v := ?_) (by simp only [List.getElem?_toArray, List.getElem?_cons_succ, List.getElem?_cons_zero]; rfl) (by kernel_rfl) (by kernel_rfl) (by kernel_rfl) (by intro _ _ _ h; exact h) (Or.inl ⟨by rfl, ?_⟩) (by assumption) ?_
        rotate_left
        · (intro w hSw; (try dsimp only at hSw); go_simp; try with_reducible rfl)
        try simp only [Act.put, List.setIfInBounds_toArray, List.set_cons_zero, List.set_cons_succ]
        refine wpAnyH_take (i := 5) (v := ?_) (by simp only [List.getElem?_toArray, List.getElem?_cons_succ, List.getElem?_cons_zero]; rfl) (by kernel_rfl) (by kernel_rfl) (by kernel_rfl) (by intro _ _ _ h; exact h) (Or.inl ⟨by rfl, ?_⟩) (by assumption) ?_
        rotate_left
        · (intro w hSw; (try dsimp only at hSw); go_simp; try with_reducible rfl)
        try simp only [Act.put, List.setIfInBounds_toArray, List.set_cons_zero, List.set_cons_succ]
        refine wpAnyH_take (i := 6) (v := ?_) (by simp only [List.getElem?_toArray, List.getElem?_cons_succ, List.getElem?_cons_zero]; rfl) (by kernel_rfl) (by kernel_rfl) (by kernel_rfl) (by intro _ _ _ h; exact h) (Or.inl ⟨by rfl, ?_⟩) (by assumption) ?_
        rotate_left
        · (intro w hSw; (try dsimp only at hSw); go_simp; try with_reducible rfl)
        try simp only [Act.put, List.setIfInBounds_toArray, List.set_cons_zero, List.set_cons_succ]
        refine wpAnyH_take (i := 7) (v := ?_) (by simp only [List.getElem?_toArray, List.getElem?_cons_succ, List.getElem?_cons_zero]; rfl) (by kernel_rfl) (by kernel_rfl) (by kernel_rfl) (by intro _ _ _ h; exact h) (Or.inl ⟨by rfl, ?_⟩) (by assumption) ?_
        rotate_left
        · (intro w hSw; (try dsimp only at hSw); go_simp; try with_reducible rfl)
        try simp only [Act.put, List.setIfInBounds_toArray, List.set_cons_zero, List.set_cons_succ]
        refine wpAnyH_take (i := 8) (v := ?_) (by simp only [List.getElem?_toArray, List.getElem?_cons_succ, List.getElem?_cons_zero]; rfl) (by kernel_rfl) (by kernel_rfl) (by kernel_rfl) (by intro _ _ _ h; exact h) (Or.inl ⟨by rfl, ?_⟩) (by assumption) ?_
        rotate_left
        · (intro w hSw; (try dsimp only at hSw); go_simp; try with_reducible rfl)
        try simp only [Act.put, List.setIfInBounds_toArray, List.set_cons_zero, List.set_cons_succ]
        refine wpAnyH_take (i := 9) (v := ?_) (by simp only [List.getElem?_toArray, List.getElem?_cons_succ, List.getElem?_cons_zero]; rfl) (by kernel_rfl) (by kernel_rfl) (by kernel_rfl) (by intro _ _ _ h; exact h) (Or.inl ⟨by rfl, ?_⟩) (by assumption) ?_
        rotate_left
        · (intro w hSw; (try dsimp only at hSw); go_simp; try with_reducible rfl)
        try simp only [Act.put, List.setIfInBounds_toArray, List.set_cons_zero, List.set_cons_succ]
        refine wpAnyH_ready (rs := [10]) (by kernel_rfl) (by simp) ?_
        refine AllReadyH.cons (by simp only [List.getElem?_toArray, List.getElem?_cons_succ, List.getElem?_cons_zero]; rfl) (fun K hK => ?_) AllReadyH.nil
        go_simp
        refine (HC.out).mono ?_
        rintro e w2 ⟨rfl, hb⟩
        have HB := Lib.hid hb
        have HS := HSF.out w2 ((Below.drew (Below.refl _ _)).trans hb)
        clear hb
        refine hK.out _ _ HS (fun hHeld => ?_)
        clear hK K
        try simp only [Act.put, List.setIfInBounds_toArray, List.set_cons_zero, List.set_cons_succ]
        refine wpAnyH_take (i := 11) (v := ?_) (by simp only [List.getElem?_toArray, List.getElem?_cons_succ, List.getElem?_cons_zero]; rfl) (by kernel_rfl) (by kernel_rfl) (by kernel_rfl) (by intro _ _ _ h; exact h) (Or.inl ⟨by rfl, ?_⟩) (by assumption) ?_
        rotate_left
        · (intro w hSw; (try dsimp only at hSw); go_simp; try with_reducible rfl)
        try simp only [Act.put, List.setIfInBounds_toArray, List.set_cons_zero, List.set_cons_succ]
        refine wpAnyH_done (by kernel_rfl) ?_ _
        go_wp2
        go_ret
        rw [show R = false by simpa using HX.out]
        exact HBP.out false w2 (HO.out.bel.trans (HB.out.mono HO.out.bel.size))
      · go_wp2_with fail
        refine wp_region_held_drew (S := fun W => W.cell? ⟨w.heap.size, 2, none⟩ = some (.slice (some ⟨b, off, none⟩) L c) ∧ W.cell? ⟨w.heap.size + 1, 2, none⟩ = some (.slice (some ⟨b', off', none⟩) L' c') ∧
          W.cell? ⟨b, off + k * 3, none⟩ = some (.string S1) ∧ W.cell? ⟨b, off + k * 3 + 1, none⟩ = some (.int .i64 v1) ∧ W.cell? ⟨b, off + k * 3 + 2, none⟩ = some (.slice o1 m1 c1) ∧
          W.cell? ⟨b', off' + k * 3, none⟩ = some (.string S2) ∧ W.cell? ⟨b', off' + k * 3 + 1, none⟩ = some (.int .i64 v2) ∧ W.cell? ⟨b', off' + k * 3 + 2, none⟩ = some (.slice o2 m2 c2)) (by kernel_rfl) ⟨a2, b2, f0, f1, f2, g0, g1, g2⟩ ?_
        intro hHeld
        refine wpAnyH_take (i := 0) (v := ?_) (by simp only [List.getElem?_toArray, List.getElem?_cons_zero]; rfl) (by kernel_rfl) (by kernel_rfl) (by kernel_rfl) (by intro _ _ _ h; exact h) (Or.inl ⟨by rfl, ?_⟩) (by assumption) ?_
        rotate_left
        · (intro w hSw; (try dsimp only at hSw); go_simp; try with_reducible rfl)
        try simp only [Act.put, List.setIfInBounds_toArray, List.set_cons_zero, List.set_cons_succ]
        refine wpAnyH_take (i := 1) (v := ?_) (by simp only [List.getElem?_toArray, List.getElem?_cons_succ, List.getElem?_cons_zero]; rfl) (by kernel_rfl) (by kernel_rfl) (by kernel_rfl) (by intro _ _ _ h; exact h) (Or.inl ⟨by rfl, ?_⟩) (by assumption) ?_
        rotate_left
        · (intro w hSw; (try dsimp only at hSw); go_simp; try with_reducible rfl)
        try simp only [Act.put, List.setIfInBounds_toArray, List.set_cons_zero, List.set_cons_succ]
        refine wpAnyH_take (i := 2) (v := ?_) (by simp only [List.getElem?_toArray, List.getElem?_cons_succ, List.getElem?_cons_zero]; rfl) (by kernel_rfl) (by kernel_rfl) (by kernel_rfl) (by intro _ _ _ h; exact h) (Or.inl ⟨by rfl, ?_⟩) (by assumption) ?_
        rotate_left
        · (intro w hSw; (try dsimp only at hSw); go_simp; try with_reducible rfl)
        try simp only [Act.put, List.setIfInBounds_toArray, List.set_cons_zero, List.set_cons_succ]
        refine wpAnyH_take (i := 3) (v := ?_) (by simp only [List.getElem?_toArray, List.getElem?_cons_succ, List.getElem?_cons_zero]; rfl) (by kernel_rfl) (by kernel_rfl) (by kernel_rfl) (by intro _ _ _ h; exact h) (Or.inl ⟨by rfl, ?_⟩) (by assumption) ?_
        rotate_left
        · (intro w hSw; (try dsimp only at hSw); go_simp; try with_reducible rfl)
        try simp only [Act.put, List.setIfInBounds_toArray, List.set_cons_zero, List.set_cons_succ]
        refine wpAnyH_take (i := 4) (v := ?_) (by simp only [List.getElem?_toArray, List.getElem?_cons_succ, List.getElem?_cons_zero]; rfl) (by kernel_rfl) (by kernel_rfl) (by kernel_rfl) (by intro _ _ _ h; exact h) (Or.inl ⟨by rfl, ?_⟩) (by assumption) ?_
        rotate_left
        · (intro w hSw; (try dsimp only at hSw); go_simp; try with_reducible rfl)
        try simp only [Act.put, List.setIfInBounds_toArray, List.set_cons_zero, List.set_cons_succ]
        refine wpAnyH_take (i := 5) (v := ?_) (by simp only [List.getElem?_toArray, List.getElem?_cons_succ, List.getElem?_cons_zero]; rfl) (by kernel_rfl) (by kernel_rfl) (by kernel_rfl) (by intro _ _ _ h; exact h) (Or.inl ⟨by rfl, ?_⟩) (by assumption) ?_
        rotate_left
        · (intro w hSw; (try dsimp only at hSw); go_simp; try with_reducible rfl)
        try simp only [Act.put, List.setIfInBounds_toArray, List.set_cons_zero, List.set_cons_succ]
        refine wpAnyH_take (i := 6) (v := ?_) (by simp only [List.getElem?_toArray, List.getElem?_cons_succ, List.getElem?_cons_zero]; rfl) (by kernel_rfl) (by kernel_rfl) (by kernel_rfl) (by intro _ _ _ h; exact h) (Or.inl ⟨by rfl, ?_⟩) (by assumption) ?_
        rotate_left
        · (intro w hSw; (try dsimp only at hSw); go_simp; try with_reducible rfl)
        try simp only [Act.put, List.setIfInBounds_toArray, List.set_cons_zero, List.set_cons_succ]
        refine wpAnyH_take (i := 7) (v := ?_) (by simp only [List.getElem?_toArray, List.getElem?_cons_succ, List.getElem?_cons_zero]; rfl) (by kernel_rfl) (by kernel_rfl) (by kernel_rfl) (by intro _ _ _ h; exact h) (Or.inl ⟨by rfl, ?_⟩) (by assumption) ?_
        rotate_left
        · (intro w hSw; (try dsimp only at hSw); go_simp; try with_reducible rfl)
        try simp only [Act.put, List.setIfInBounds_toArray, List.set_cons_zero, List.set_cons_succ]
        refine wpAnyH_take (i := 8) (v := ?_) (by simp only [List.getElem?_toArray, List.getElem?_cons_succ, List.getElem?_cons_zero]; rfl) (by kernel_rfl) (by kernel_rfl) (by kernel_rfl) (by intro _ _ _ h; exact h) (Or.inl ⟨by rfl, ?_⟩) (by assumption) ?_
        rotate_left
        · (intro w hSw; (try dsimp only at hSw); go_simp; try with_reducible rfl)
        try simp only [Act.put, List.setIfInBounds_toArray, List.set_cons_zero, List.set_cons_succ]
        refine wpAnyH_take (i := 9) (v := ?_) (by simp only [List.getElem?_toArray, List.getElem?_cons_succ, List.getElem?_cons_zero]; rfl) (by kernel_rfl) (by kernel_rfl) (by kernel_rfl) (by intro _ _ _ h; exact h) (Or.inl ⟨by rfl, ?_⟩) (by assumption) ?_
        rotate_left
        · (intro w hSw; (try dsimp only at hSw); go_simp; try with_reducible rfl)
        try simp only [Act.put, List.setIfInBounds_toArray, List.set_cons_zero, List.set_cons_succ]
        refine wpAnyH_ready (rs := [10]) (by kernel_rfl) (by simp) ?_
        refine AllReadyH.cons (by simp only [List.getElem?_toArray, List.getElem?_cons_succ, List.getElem?_cons_zero]; rfl) (fun K hK => ?_) AllReadyH.nil
        go_simp
        refine (HC.out).mono ?_
        rintro e w2 ⟨rfl, hb⟩
        have HB := Lib.hid hb
        have HS := HSF.out w2 ((Below.drew (Below.refl _ _)).trans hb)
        clear hb
        refine hK.out _ _ HS (fun hHeld => ?_)
        clear hK K
        try simp only [Act.put, List.setIfInBounds_toArray, List.set_cons_zero, List.set_cons_succ]
        refine wpAnyH_take (i := 11) (v := ?_) (by simp only [List.getElem?_toArray, List.getElem?_cons_succ, List.getElem?_cons_zero]; rfl) (by kernel_rfl) (by kernel_rfl) (by kernel_rfl) (by intro _ _ _ h; exact h) (Or.inl ⟨by rfl, ?_⟩) (by assumption) ?_
        rotate_left
        · (intro w hSw; (try dsimp only at hSw); go_simp; try with_reducible rfl)
        try simp only [Act.put, List.setIfInBounds_toArray, List.set_cons_zero, List.set_cons_succ]
        refine wpAnyH_done (by kernel_rfl) ?_ _
        go_wp2
        go_roundw
        case rel => exact ⟨k + 1, hlt, by go_num, by simpa using HX.out, HO.out.on HB.out⟩
        case measure => simp [intOf]; omega
    · obtain rfl : k = L := by omega
      have hlast := HND.out k (by rw [← HL.out]; exact Nat.le_refl _)
      have HG := Lib.hid (HBP.out true wr hone.bel)
      rw [hlast] at hR
      have HRT := Lib.hid hR
      clear hR hone hlast
      go_wp2
      go_ret
      rw [HRT.out]
      exact HG.out

theorem same_any (n : Nat) : ∀ (t u : Ty) (w : World) (c0 c1 c2 d0 d1 d2 : Value), TyV n w t c0 c1 c2 → TyV n w u d0 d1 d2 → n ≤ w.heap.size → wT t ≤ 100000000000 →
    Calls Tryd.prog 13 #[.agg #[c0, c1, c2], .agg #[d0, d1, d2]] w (BPost w (tyEq t u)) := by
  intro t
  induction t using Ty.rec' with
  | h nm v ks ih =>
    intro u w c0 c1 c2 d0 d1 d2 hty hty' hn hw
    obtain ⟨nm', v', ls⟩ := u
    obtain ⟨rfl, rfl, -, -, o, c, rfl, hk⟩ := hty
    obtain ⟨rfl, rfl, -, -, o', c', rfl, hk'⟩ := hty'
    have hl : ks.length ≤ 1000000000000 := by have := wTs_len ks; unfold wT at hw; omega
    by_cases hg : nm = nm' ∧ v = v' ∧ ks.length = ls.length
    · obtain ⟨g1, g2, g3⟩ := hg
      rw [tyEq_mk, show (nm == nm') = true by simpa using g1, show (v == v') = true by simpa using g2, show (ks.length == ls.length) = true by simpa using g3, Bool.true_and, Bool.true_and, Bool.true_and]
      exact same_good n v v' ks ls _ _ o o' c c' w (by rw [g1]) g2 g3 hl (KidsAt.of hk) (KidsAt.of hk') hn (fun t ht u W c0 c1 c2 d0 d1 d2 h1 h2 h3 => by
        have h4 := wT_mem ht
        unfold wT at hw
        exact ih t ht u W c0 c1 c2 d0 d1 d2 h1 h2 h3 (by omega))
    · have hf : tyEq (.mk nm v ks) (.mk nm' v' ls) = false := by
        rw [tyEq_mk]
        cases h : (nm == nm' && (v == v' && (ks.length == ls.length && tysEq ks ls))) with
        | false => rfl
        | true =>
          simp only [Bool.and_eq_true, beq_iff_eq] at h
          exact absurd ⟨h.1, h.2.1, h.2.2.1⟩ hg
      rw [hf]
      refine same_bad _ _ v v' o o' _ _ c c' w ?_
      rw [toList_mk, toList_mk]
      by_cases g1 : nm = nm'
      · by_cases g2 : v = v'
        · exact .inr (.inr fun g3 => hg ⟨g1, g2, g3⟩)
        · exact .inr (.inl g2)
      · exact .inl g1
end Go.Proofs.YtiimofdbconlhaaDoor
