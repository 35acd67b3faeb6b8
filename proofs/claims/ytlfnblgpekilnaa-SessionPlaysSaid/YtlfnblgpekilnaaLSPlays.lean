/- SessionPlays. -/
import Derived.Test.YtlfnblgpekilnaaSesS
namespace Go.Proofs.Ytlfnblgpekilnaa
open Go.RowKit OctM

theorem saveB_small (l : List Se) (h : Inv l) : (saveB l).length ≤ 1000000 := by
  have hb : ∀ k : List Se, (∀ s ∈ k, s.rp.length ≤ 500) → (bodyS k).length ≤ 600 * k.length := by
    intro k
    induction k with
    | nil => intro _; simp [bodyS]
    | cons x k ih =>
      intro hk
      have h1 : (encS x).length ≤ 600 := by
        have h1 := enc_length x.id; have h2 := nd_le x.id; have h3 := enc_length x.nm; have h4 := nd_le x.nm
        have h5 := encB_length x.rp
        have := hk x List.mem_cons_self
        simp only [encS, List.length_append]; omega
      have h2 := ih (fun y hy => hk y (List.mem_cons_of_mem _ hy))
      have h3 : bodyS (x :: k) = encS x ++ bodyS k := by simp [bodyS]
      rw [h3, List.length_append, List.length_cons]; omega
  have h1 := hb l (fun s hs => (h.pos s hs).2.2)
  have h2 := enc_length l.length
  have h3 := nd_le l.length
  have h4 := h.len
  unfold saveB
  rw [List.length_append]
  omega

set_option maxHeartbeats 16000000 in
set_option maxRecDepth 100000 in
theorem splays_walk (v : Value) (acts : List SA) (w : World) (h : RdSA w v acts) :
    Calls Try.prog 3 #[v] w fun e w' => e = .returned (.bool true) ∧ Below w.heap.size w w' := by
  have HA := Lib.hid (fun W => sawake W)
  obtain ⟨oA, cA, rfl⟩ : ∃ o c, v = .slice o acts.length c := by
    rcases h with ⟨_, _, rfl, rfl⟩ | ⟨_, _, c, rfl, _⟩ <;> exact ⟨_, _, rfl⟩
  have HACT : Hid (∀ (i : Nat) a, acts[i]? = some a → ∃ bb off, oA = some ⟨bb, off, none⟩ ∧ SActAt w bb (off + i * 4) a) := Lib.hid (fun i a ha => by
    rcases h with ⟨_, _, h1, rfl⟩ | ⟨bb, off, c, h1, _, _, _, h5⟩
    · simp at ha
    · injection h1 with h1 _ _
      exact ⟨bb, off, h1, h5 i a ha⟩)
  clear h
  go_enter Try.func3, Try.ntmps3
  go_wp2_with fail
  refine (HA.out _).mono ?_
  rintro e w1 ⟨rfl, hb1⟩
  have H0 := Lib.hid (tnew w1)
  have HT := Lib.hid (tb_new w w1 hb1)
  clear hb1
  go_wp2_with fail
  refine H0.out.mono ?_
  rintro e w2 ⟨rfl, hw2⟩
  rw [hw2] at HT
  clear hw2 H0
  have hbr : Below w2.heap.size w2 (w2.alloc (.cells #[.slice none 0 0] 29)) := (Below.refl _ _).alloc (Nat.le_refl _) _
  have hP0 : Pl2 w (w2.alloc (.cells #[.slice none 0 0] 29)) w1.heap.size w2.heap.size [] [] := by
    obtain ⟨v0, hv0⟩ := HT.out.ex
    exact ⟨⟨v0, hv0.below hbr⟩, HT.out.ge, ⟨_, [], ⟨heap_alloc_new _ _, ownS_nil _ _ _⟩, rfl⟩, HT.out.bel.size, HT.out.bel.trans (hbr.mono HT.out.bel.size)⟩
  have HP0 := Lib.hid hP0
  clear hP0 hbr HT
  go_upto_region 5 with fail
  generalize w2.alloc (.cells #[.slice none 0 0] 29) = W0 at *
  generalize w2.heap.size = br at *
  generalize w1.heap.size = b0 at *
  go_wp2_with fail
  go_loopw [3, 5] (fun t3 t5 wr => ∃ (i b : Nat) (l : List Se), i ≤ acts.length ∧ i ≤ 120 ∧ t3 = .pointer (some ⟨b, 0, none⟩) ∧ t5 = .int .i64 (i : Int) ∧ Hid (Pl2 w wr b br l l) ∧ Hid (Inv l)) (fun _ t5 _ => 122 - (intOf t5).toNat)
  case atStart => exact ⟨0, b0, [], by omega, by omega, rfl, rfl, HP0, Lib.hid inv_nil⟩
  case round =>
    clear HP0
    obtain ⟨i, b, l, hi, hi2, rfl, rfl, HP, HI⟩ := hrel
    by_cases hlt : i < acts.length ∧ i < 120
    · obtain ⟨hlt1, hlt2⟩ := hlt
      have i1 : (i : Int) < (acts.length : Int) := by omega
      have i2 : (i : Int) < 120 := by omega
      have wi : IntKind.i64.wrap ((i : Int) + 1) = (i : Int) + 1 := IntWalk.i64_in _ (by omega)
      obtain ⟨a, ha⟩ : ∃ a, acts[i]? = some a := ⟨acts[i], List.getElem?_eq_getElem hlt1⟩
      obtain ⟨bb, off, hoA, hat0⟩ := HACT.out i a ha
      subst hoA
      have hat := hat0.below HP.out.bel (Nat.le_refl _)
      obtain ⟨ak, id, nm, rp, po, pc⟩ := a
      obtain ⟨a0, a1, a2, a3, ard, abk, aid, anm⟩ := hat
      dsimp only at a0 a1 a2 a3 ard abk aid anm
      have HRD := Lib.hid hat0.rd
      dsimp only at HRD
      have HAB := Lib.hid (And.intro abk (And.intro aid anm))
      have hbx : Below wr.heap.size wr (wr.alloc (.cells #[.int .u8 ak, .int .u64 (id : Int), .int .u64 (nm : Int), .slice po rp.length pc] 33)) := (Below.refl _ _).alloc (Nat.le_refl _) _
      have hx := heap_alloc_new wr (.cells #[.int .u8 ak, .int .u64 (id : Int), .int .u64 (nm : Int), .slice po rp.length pc] 33)
      have HP8 := Lib.hid (HP.out.below hbx)
      have HXBR : Hid (¬ wr.heap.size = br) := Lib.hid (fun e => by
        obtain ⟨_, _, ⟨_, _, h, _⟩, _, _⟩ := HP.out
        have := lt_of_block h.cell
        omega)
      clear ha hat0 ard abk aid anm hbx HP
      go_upto_region 9 with fail
      generalize wr.alloc (.cells #[.int .u8 ak, .int .u64 (id : Int), .int .u64 (nm : Int), .slice po rp.length pc] 33) = WB at *
      generalize wr.heap.size = X at *
      have hxl := lt_of_block hx
      have x0 := cellk (i := 0) hx rfl
      have x1 := cellk (i := 1) hx rfl
      have x2 := cellk (i := 2) hx rfl
      have x3 := cellk (i := 3) hx rfl
      have ak0 : 0 ≤ ak := HAB.out.1.1
      clear a0 a1 a2 a3
      by_cases h500 : 500 < rp.length
      · have j1 : (500 : Int) < (rp.length : Int) := by omega
        go_wp2_with fail
        go_ret
        exact ⟨rfl, HP8.out.bel⟩
      · have j1 : ¬ (500 : Int) < (rp.length : Int) := by omega
        have HRP : Hid (rp.length ≤ 500) := Lib.hid (by omega)
        have HPUT := Lib.hid (fun (W : World) (hW : Pl2 w W b br l l) => p_put id nm rp (.slice po rp.length pc) w W hW HI.out HRD.out HRP.out)
        have HRPUT := Lib.hid (fun (W : World) (l' : List Se) (hW : Pl2 w W b br l' l) => p_rput id nm rp (.slice po rp.length pc) w W hW HI.out HRD.out HRP.out)
        have HPI : Hid (Inv (putS l ⟨id, nm, rp⟩).2) := Lib.hid (put_inv HI.out HAB.out.2.1 HAB.out.2.2 HRP.out)
        clear h500
        have hk5 : ak % 5 = 0 ∨ ak % 5 = 1 ∨ ak % 5 = 2 ∨ ak % 5 = 3 ∨ ak % 5 = 4 := by omega
        rcases hk5 with hk5 | hk5 | hk5 | hk5 | hk5
        · skip
          have s0 : (ak % 5 == 0) = true := by rw [beq_iff_eq, hk5]
          clear hk5
          generalize (putS l ⟨id, nm, rp⟩).1 = code at *
          generalize (putS l ⟨id, nm, rp⟩).2 = L at *
          have hcc : (code != code) = false := by simp
          have hcd : (code == code) = true := by simp
          go_wp2_with fail
          refine wp_region_held_drew (S := fun w' => w'.cell? ⟨X, 0, none⟩ = some (.int .u8 ak) ∧ w'.cell? ⟨X, 1, none⟩ = some (.int .u64 (id : Int)) ∧ w'.cell? ⟨X, 2, none⟩ = some (.int .u64 (nm : Int)) ∧ w'.cell? ⟨X, 3, none⟩ = some (.slice po rp.length pc)) (by kernel_rfl) ⟨x0, x1, x2, x3⟩ ?_
          intro hHeld
          refine wpAnyH_take (i := 0) (v := ?_) (by simp only [List.getElem?_toArray, List.getElem?_cons_zero]; rfl) (by kernel_rfl) (by kernel_rfl) (by kernel_rfl) (by intro _ _ _ h; exact h) (Or.inl ⟨by rfl, ?_⟩) (by assumption) ?_
          rotate_left
          · (intro w hSw; (try dsimp only at hSw); go_simp; try with_reducible rfl)
          try simp only [Act.put, List.setIfInBounds_toArray, List.set_cons_zero, List.set_cons_succ]
          refine wpAnyH_take (i := 1) (v := ?_) (by simp only [List.getElem?_toArray, List.getElem?_cons_succ, List.getElem?_cons_zero]; rfl) (by kernel_rfl) (by kernel_rfl) (by kernel_rfl) (by intro _ _ _ h; exact h) (Or.inl ⟨by rfl, ?_⟩) (by assumption) ?_
          rotate_left
          · (intro w hSw; (try dsimp only at hSw); go_simp; try with_reducible rfl)
          try simp only [Act.put, List.setIfInBounds_toArray, List.set_cons_zero, List.set_cons_succ]
          refine wpAnyH_take (i := 2) (v := ?_) (by simp only [List.getElem?_toArray, List.getElem?_cons_succ, List.getElem?_cons_zero]; rfl) (by kernel_rfl) (by kernel_rfl) (by kernel_rfl) (by intro _ _ _ h; exact h) (Or.inl ⟨by rfl, ?_⟩) (by assumption) ?_
          rotate_left
          · (intro w hSw; (try dsimp only at hSw); go_simp; try with_reducible rfl)
          try simp only [Act.put, List.setIfInBounds_toArray, List.set_cons_zero, List.set_cons_succ]
          refine wpAnyH_take (i := 3) (v := ?_) (by simp only [List.getElem?_toArray, List.getElem?_cons_succ, List.getElem?_cons_zero]; rfl) (by kernel_rfl) (by kernel_rfl) (by kernel_rfl) (by intro _ _ _ h; exact h) (Or.inl ⟨by rfl, ?_⟩) (by assumption) ?_
          rotate_left
          · (intro w hSw; (try dsimp only at hSw); go_simp; try with_reducible rfl)
          try simp only [Act.put, List.setIfInBounds_toArray, List.set_cons_zero, List.set_cons_succ]
          refine wpAnyH_take (i := 4) (v := ?_) (by simp only [List.getElem?_toArray, List.getElem?_cons_succ, List.getElem?_cons_zero]; rfl) (by kernel_rfl) (by kernel_rfl) (by kernel_rfl) (by intro _ _ _ h; exact h) (Or.inl ⟨by rfl, ?_⟩) (by assumption) ?_
          rotate_left
          · (intro w hSw; (try dsimp only at hSw); go_simp; try with_reducible rfl)
          try simp only [Act.put, List.setIfInBounds_toArray, List.set_cons_zero, List.set_cons_succ]
          refine wpAnyH_take (i := 5) (v := ?_) (by simp only [List.getElem?_toArray, List.getElem?_cons_succ, List.getElem?_cons_zero]; rfl) (by kernel_rfl) (by kernel_rfl) (by kernel_rfl) (by intro _ _ _ h; exact h) (Or.inl ⟨by rfl, ?_⟩) (by assumption) ?_
          rotate_left
          · (intro w hSw; (try dsimp only at hSw); go_simp; try with_reducible rfl)
          try simp only [Act.put, List.setIfInBounds_toArray, List.set_cons_zero, List.set_cons_succ]
          refine wpAnyH_take (i := 6) (v := ?_) (by simp only [List.getElem?_toArray, List.getElem?_cons_succ, List.getElem?_cons_zero]; rfl) (by kernel_rfl) (by kernel_rfl) (by kernel_rfl) (by intro _ _ _ h; exact h) (Or.inl ⟨by rfl, ?_⟩) (by assumption) ?_
          rotate_left
          · (intro w hSw; (try dsimp only at hSw); go_simp; try with_reducible rfl)
          try simp only [Act.put, List.setIfInBounds_toArray, List.set_cons_zero, List.set_cons_succ]
          refine wpAnyH_take (i := 8) (v := ?_) (by simp only [List.getElem?_toArray, List.getElem?_cons_succ, List.getElem?_cons_zero]; rfl) (by kernel_rfl) (by kernel_rfl) (by kernel_rfl) (by intro _ _ _ h; exact h) (Or.inl ⟨by rfl, ?_⟩) (by assumption) ?_
          rotate_left
          · (intro w hSw; (try dsimp only at hSw); go_simp; try with_reducible rfl)
          try simp only [Act.put, List.setIfInBounds_toArray, List.set_cons_zero, List.set_cons_succ]
          refine wpAnyH_take (i := 9) (v := ?_) (by simp only [List.getElem?_toArray, List.getElem?_cons_succ, List.getElem?_cons_zero]; rfl) (by kernel_rfl) (by kernel_rfl) (by kernel_rfl) (by intro _ _ _ h; exact h) (Or.inl ⟨by rfl, ?_⟩) (by assumption) ?_
          rotate_left
          · (intro w hSw; (try dsimp only at hSw); go_simp; try with_reducible rfl)
          try simp only [Act.put, List.setIfInBounds_toArray, List.set_cons_zero, List.set_cons_succ]
          refine wpAnyH_take (i := 10) (v := ?_) (by simp only [List.getElem?_toArray, List.getElem?_cons_succ, List.getElem?_cons_zero]; rfl) (by kernel_rfl) (by kernel_rfl) (by kernel_rfl) (by intro _ _ _ h; exact h) (Or.inl ⟨by rfl, ?_⟩) (by assumption) ?_
          rotate_left
          · (intro w hSw; (try dsimp only at hSw); go_simp; try with_reducible rfl)
          try simp only [Act.put, List.setIfInBounds_toArray, List.set_cons_zero, List.set_cons_succ]
          refine wpAnyH_take (i := 11) (v := ?_) (by simp only [List.getElem?_toArray, List.getElem?_cons_succ, List.getElem?_cons_zero]; rfl) (by kernel_rfl) (by kernel_rfl) (by kernel_rfl) (by intro _ _ _ h; exact h) (Or.inl ⟨by rfl, ?_⟩) (by assumption) ?_
          rotate_left
          · (intro w hSw; (try dsimp only at hSw); go_simp; try with_reducible rfl)
          try simp only [Act.put, List.setIfInBounds_toArray, List.set_cons_zero, List.set_cons_succ]
          refine wpAnyH_take (i := 12) (v := ?_) (by simp only [List.getElem?_toArray, List.getElem?_cons_succ, List.getElem?_cons_zero]; rfl) (by kernel_rfl) (by kernel_rfl) (by kernel_rfl) (by intro _ _ _ h; exact h) (Or.inl ⟨by rfl, ?_⟩) (by assumption) ?_
          rotate_left
          · (intro w hSw; (try dsimp only at hSw); go_simp; try with_reducible rfl)
          try simp only [Act.put, List.setIfInBounds_toArray, List.set_cons_zero, List.set_cons_succ]
          refine wpAnyH_take (i := 13) (v := ?_) (by simp only [List.getElem?_toArray, List.getElem?_cons_succ, List.getElem?_cons_zero]; rfl) (by kernel_rfl) (by kernel_rfl) (by kernel_rfl) (by intro _ _ _ h; exact h) (Or.inl ⟨by rfl, ?_⟩) (by assumption) ?_
          rotate_left
          · (intro w hSw; (try dsimp only at hSw); go_simp; try with_reducible rfl)
          try simp only [Act.put, List.setIfInBounds_toArray, List.set_cons_zero, List.set_cons_succ]
          refine wpAnyH_take (i := 14) (v := ?_) (by simp only [List.getElem?_toArray, List.getElem?_cons_succ, List.getElem?_cons_zero]; rfl) (by kernel_rfl) (by kernel_rfl) (by kernel_rfl) (by intro _ _ _ h; exact h) (Or.inl ⟨by rfl, ?_⟩) (by assumption) ?_
          rotate_left
          · (intro w hSw; (try dsimp only at hSw); go_simp; try with_reducible rfl)
          try simp only [Act.put, List.setIfInBounds_toArray, List.set_cons_zero, List.set_cons_succ]
          refine wpAnyH_ready (rs := [7]) (by kernel_rfl) (by simp) ?_
          refine AllReadyH.cons (by simp only [List.getElem?_toArray, List.getElem?_cons_succ, List.getElem?_cons_zero]; rfl) (fun K hK => ?_) AllReadyH.nil
          go_simp
          refine (HPUT.out WB.drew (HP8.out.below (Below.refl _ WB).drew)).mono ?_
          rintro e w2 ⟨rfl, hp2, hk2⟩
          have HP2 := Lib.hid hp2
          have hx2 := (hk2.block X hxl (fun h => by
            rcases h.2 _ _ _ hx with h | h
            · exact absurd h (by decide)
            · exact absurd h (by decide))).trans hx
          have y0 := cellk (i := 0) hx2 rfl
          have y1 := cellk (i := 1) hx2 rfl
          have y2 := cellk (i := 2) hx2 rfl
          have y3 := cellk (i := 3) hx2 rfl
          clear hp2 hk2
          refine hK.out _ _ ⟨y0, y1, y2, y3⟩ (fun hHeld => ?_)
          clear hK K
          try simp only [Act.put, List.setIfInBounds_toArray, List.set_cons_zero, List.set_cons_succ]
          refine wpAnyH_ready (rs := [15]) (by kernel_rfl) (by simp) ?_
          refine AllReadyH.cons (by simp only [List.getElem?_toArray, List.getElem?_cons_succ, List.getElem?_cons_zero]; rfl) (fun K hK => ?_) AllReadyH.nil
          go_simp
          refine (HRPUT.out w2 _ HP2.out).mono ?_
          rintro e w3 ⟨rfl, hp3, hk3⟩
          have HP3 := Lib.hid hp3
          have hx3 := (hk3.block X (lt_of_block hx2) (fun h => HXBR.out h)).trans hx2
          have z0 := cellk (i := 0) hx3 rfl
          have z1 := cellk (i := 1) hx3 rfl
          have z2 := cellk (i := 2) hx3 rfl
          have z3 := cellk (i := 3) hx3 rfl
          clear hp3 hk3 hx2
          refine hK.out _ _ ⟨z0, z1, z2, z3⟩ (fun hHeld => ?_)
          clear hK K
          try simp only [Act.put, List.setIfInBounds_toArray, List.set_cons_zero, List.set_cons_succ]
          refine wpAnyH_take (i := 16) (v := ?_) (by simp only [List.getElem?_toArray, List.getElem?_cons_succ, List.getElem?_cons_zero]; rfl) (by kernel_rfl) (by kernel_rfl) (by kernel_rfl) (by intro _ _ _ h; exact h) (Or.inl ⟨by rfl, ?_⟩) (by assumption) ?_
          rotate_left
          · (intro w hSw; (try dsimp only at hSw); go_simp; try with_reducible rfl)
          try simp only [Act.put, List.setIfInBounds_toArray, List.set_cons_zero, List.set_cons_succ]
          refine wpAnyH_done (by kernel_rfl) ?_ _
          have HPL : Hid (Pl2 w w3 b br L L) := HP3
          have HIN := HPI
          obtain ⟨WX, hWX⟩ : ∃ WX, WX = w3 := ⟨_, rfl⟩
          subst hWX
          clear x0 x1 x2 x3 y0 y1 y2 y3 z0 z1 z2 z3 hx hx3 hxl HP8 HP2 HP3 HPUT HRPUT HPI
          go_wp2_with fail
          obtain ⟨⟨vt, hvt⟩, hgb, ⟨vr, ps, hro, hps⟩, hgr, hbl⟩ := HPL.out
          have hpl : ps.length = L.length := by rw [← hps]; simp
          obtain ⟨ovr, cvr, rfl⟩ := own_slice hro.own.row
          have hin := HIN.out
          have hb8 : ∀ s ∈ L, s.rp.length ≤ 1000000 := fun s hs => by have := (hin.pos s hs).2.2; omega
          obtain ⟨sb, hsb⟩ : ∃ sb, sb = saveB L := ⟨_, rfl⟩
          have HSV : Hid (∀ W, Below WX.heap.size WX W → Calls Try.prog 16 #[.pointer (some ⟨_, 0, none⟩)] W fun e w' => ∃ v', e = .returned v' ∧ Own w' W.heap.size v' sb ∧ Below W.heap.size W w') := Lib.hid (fun W hW => by rw [hsb]; exact save_any W (hvt.below hW) (by have := hin.len; omega) hin.wrd hb8)
          have HRS : Hid (∀ W, Below WX.heap.size WX W → Calls Try.prog 18 #[.pointer (some ⟨br, 0, none⟩)] W fun e w' => ∃ v', e = .returned v' ∧ Own w' W.heap.size v' sb ∧ Below W.heap.size W w') := Lib.hid (fun W hW => by
            have h := rsave_any W (hro.below hW).rt (by have := hin.len; omega) (by rw [hps]; exact hin.wrd) (by rw [hps]; exact hb8)
            rw [hps, ← hsb] at h
            exact h)
          have HLN : Hid (∀ W, Below WX.heap.size WX W → Calls Try.prog 17 #[.pointer (some ⟨_, 0, none⟩)] W fun e w' => e = .returned (.int .i64 (ps.length : Int)) ∧ W = w') := Lib.hid (fun W hW => by have h := tlen_any W (hvt.below hW); rw [← hpl] at h; exact h)
          have HCR : Hid (∀ W, Below WX.heap.size WX W → W.cell? ⟨br, 0, none⟩ = some (.slice ovr ps.length cvr)) := Lib.hid (fun W hW => cell_of_one (hro.below hW).cell)
          have hpp : (sb == sb) = true := by simp
          have hpn : (sb != sb) = false := by simp
          generalize hpsl : ps.length = np at *
          have hnn : ((np : Int) != (np : Int)) = false := by simp
          have hne : ((np : Int) == (np : Int)) = true := by simp
          clear hvt hgb hro hps hgr hbl hpl hin hb8 hsb hpsl
          refine wp_region_held_drew (S := fun w' => w'.cell? ⟨br, 0, none⟩ = some (.slice ovr np cvr)) (by kernel_rfl) (HCR.out _ (Below.refl _ WX).drew) ?_
          intro hHeld
          refine wpAnyH_take (i := 0) (v := ?_) (by simp only [List.getElem?_toArray, List.getElem?_cons_zero]; rfl) (by kernel_rfl) (by kernel_rfl) (by kernel_rfl) (by intro _ _ _ h; exact h) (Or.inl ⟨by rfl, ?_⟩) (by assumption) ?_
          rotate_left
          · (intro w hSw; (try dsimp only at hSw); go_simp; try with_reducible rfl)
          try simp only [Act.put, List.setIfInBounds_toArray, List.set_cons_zero, List.set_cons_succ]
          refine wpAnyH_take (i := 2) (v := ?_) (by simp only [List.getElem?_toArray, List.getElem?_cons_succ, List.getElem?_cons_zero]; rfl) (by kernel_rfl) (by kernel_rfl) (by kernel_rfl) (by intro _ _ _ h; exact h) (Or.inl ⟨by rfl, ?_⟩) (by assumption) ?_
          rotate_left
          · (intro w hSw; (try dsimp only at hSw); go_simp; try with_reducible rfl)
          try simp only [Act.put, List.setIfInBounds_toArray, List.set_cons_zero, List.set_cons_succ]
          refine wpAnyH_take (i := 3) (v := ?_) (by simp only [List.getElem?_toArray, List.getElem?_cons_succ, List.getElem?_cons_zero]; rfl) (by kernel_rfl) (by kernel_rfl) (by kernel_rfl) (by intro _ _ _ h; exact h) (Or.inl ⟨by rfl, ?_⟩) (by assumption) ?_
          rotate_left
          · (intro w hSw; (try dsimp only at hSw); go_simp; try with_reducible rfl)
          try simp only [Act.put, List.setIfInBounds_toArray, List.set_cons_zero, List.set_cons_succ]
          refine wpAnyH_take (i := 4) (v := ?_) (by simp only [List.getElem?_toArray, List.getElem?_cons_succ, List.getElem?_cons_zero]; rfl) (by kernel_rfl) (by kernel_rfl) (by kernel_rfl) (by intro _ _ _ h; exact h) (Or.inl ⟨by rfl, ?_⟩) (by assumption) ?_
          rotate_left
          · (intro w hSw; (try dsimp only at hSw); go_simp; try with_reducible rfl)
          try simp only [Act.put, List.setIfInBounds_toArray, List.set_cons_zero, List.set_cons_succ]
          refine wpAnyH_take (i := 5) (v := ?_) (by simp only [List.getElem?_toArray, List.getElem?_cons_succ, List.getElem?_cons_zero]; rfl) (by kernel_rfl) (by kernel_rfl) (by kernel_rfl) (by intro _ _ _ h; exact h) (Or.inl ⟨by rfl, ?_⟩) (by assumption) ?_
          rotate_left
          · (intro w hSw; (try dsimp only at hSw); go_simp; try with_reducible rfl)
          try simp only [Act.put, List.setIfInBounds_toArray, List.set_cons_zero, List.set_cons_succ]
          refine wpAnyH_take (i := 6) (v := ?_) (by simp only [List.getElem?_toArray, List.getElem?_cons_succ, List.getElem?_cons_zero]; rfl) (by kernel_rfl) (by kernel_rfl) (by kernel_rfl) (by intro _ _ _ h; exact h) (Or.inl ⟨by rfl, ?_⟩) (by assumption) ?_
          rotate_left
          · (intro w hSw; (try dsimp only at hSw); go_simp; try with_reducible rfl)
          try simp only [Act.put, List.setIfInBounds_toArray, List.set_cons_zero, List.set_cons_succ]
          refine wpAnyH_ready (rs := [1]) (by kernel_rfl) (by simp) ?_
          refine AllReadyH.cons (by simp only [List.getElem?_toArray, List.getElem?_cons_succ, List.getElem?_cons_zero]; rfl) (fun K hK => ?_) AllReadyH.nil
          go_simp
          refine (HLN.out WX.drew (Below.refl _ WX).drew).mono ?_
          rintro e w9 ⟨rfl, hw9⟩
          subst hw9
          refine hK.out _ _ (HCR.out _ (Below.refl _ WX).drew) (fun hHeld => ?_)
          clear hK K
          try simp only [Act.put, List.setIfInBounds_toArray, List.set_cons_zero, List.set_cons_succ]
          refine wpAnyH_take (i := 7) (v := ?_) (by simp only [List.getElem?_toArray, List.getElem?_cons_succ, List.getElem?_cons_zero]; rfl) (by kernel_rfl) (by kernel_rfl) (by kernel_rfl) (by intro _ _ _ h; exact h) (Or.inl ⟨by rfl, ?_⟩) (by assumption) ?_
          rotate_left
          · (intro w hSw; (try dsimp only at hSw); go_simp; try with_reducible rfl)
          try simp only [Act.put, List.setIfInBounds_toArray, List.set_cons_zero, List.set_cons_succ]
          refine wpAnyH_take (i := 8) (v := ?_) (by simp only [List.getElem?_toArray, List.getElem?_cons_succ, List.getElem?_cons_zero]; rfl) (by kernel_rfl) (by kernel_rfl) (by kernel_rfl) (by intro _ _ _ h; exact h) (Or.inl ⟨by rfl, ?_⟩) (by assumption) ?_
          rotate_left
          · (intro w hSw; (try dsimp only at hSw); go_simp; try with_reducible rfl)
          try simp only [Act.put, List.setIfInBounds_toArray, List.set_cons_zero, List.set_cons_succ]
          refine wpAnyH_take (i := 9) (v := ?_) (by simp only [List.getElem?_toArray, List.getElem?_cons_succ, List.getElem?_cons_zero]; rfl) (by kernel_rfl) (by kernel_rfl) (by kernel_rfl) (by intro _ _ _ h; exact h) (Or.inl ⟨by rfl, ?_⟩) (by assumption) ?_
          rotate_left
          · (intro w hSw; (try dsimp only at hSw); go_simp; try with_reducible rfl)
          try simp only [Act.put, List.setIfInBounds_toArray, List.set_cons_zero, List.set_cons_succ]
          refine wpAnyH_take (i := 12) (v := ?_) (by simp only [List.getElem?_toArray, List.getElem?_cons_succ, List.getElem?_cons_zero]; rfl) (by kernel_rfl) (by kernel_rfl) (by kernel_rfl) (by intro _ _ _ h; exact h) (Or.inl ⟨by rfl, ?_⟩) (by assumption) ?_
          rotate_left
          · (intro w hSw; (try dsimp only at hSw); go_simp; try with_reducible rfl)
          try simp only [Act.put, List.setIfInBounds_toArray, List.set_cons_zero, List.set_cons_succ]
          refine wpAnyH_ready (rs := [10]) (by kernel_rfl) (by simp) ?_
          refine AllReadyH.cons (by simp only [List.getElem?_toArray, List.getElem?_cons_succ, List.getElem?_cons_zero]; rfl) (fun K hK => ?_) AllReadyH.nil
          go_simp
          refine (HSV.out WX.drew (Below.refl _ WX).drew).mono ?_
          rintro e w4 ⟨v4, rfl, ho4, hb4⟩
          obtain ⟨o4, c4, rfl⟩ := own_slice ho4
          have hc4 : Below WX.heap.size WX w4 := (Below.refl _ WX).drew.trans hb4
          have q4 := HCR.out w4 hc4
          have t5 : (convert 31 9 (.slice o4 sb.length c4)).run Try.prog w4 = .ok (.string ⟨sb.toArray⟩) w4 := textS ho4
          clear hb4
          refine hK.out _ _ q4 (fun hHeld => ?_)
          clear hK K
          try simp only [Act.put, List.setIfInBounds_toArray, List.set_cons_zero, List.set_cons_succ]
          refine wpAnyH_ready (rs := [11, 13]) (by kernel_rfl) (by simp) ?_
          refine AllReadyH.cons (by simp only [List.getElem?_toArray, List.getElem?_cons_succ, List.getElem?_cons_zero]; rfl) (fun K hK => ?_) ?_
          · go_simp
            refine hK.out _ _ q4 (fun hHeld => ?_)
            clear hK K
            try simp only [Act.put, List.setIfInBounds_toArray, List.set_cons_zero, List.set_cons_succ]
            refine wpAnyH_ready (rs := [13]) (by kernel_rfl) (by simp) ?_
            refine AllReadyH.cons (by simp only [List.getElem?_toArray, List.getElem?_cons_succ, List.getElem?_cons_zero]; rfl) (fun K hK => ?_) AllReadyH.nil
            go_simp
            refine (HRS.out w4 hc4).mono ?_
            rintro e w5 ⟨v5, rfl, ho5, hb5⟩
            obtain ⟨o5, c5, rfl⟩ := own_slice ho5
            have hc5 := hc4.trans (hb5.mono hc4.size)
            have q5 := HCR.out w5 hc5
            have t5 : (convert 31 9 (.slice o4 sb.length c4)).run Try.prog w5 = .ok (.string ⟨sb.toArray⟩) w5 := textS (own_below ho4 hb5 (Nat.le_refl _))
            have t8 : (convert 31 9 (.slice o5 sb.length c5)).run Try.prog w5 = .ok (.string ⟨sb.toArray⟩) w5 := textS ho5
            clear hb5
            refine hK.out _ _ q5 (fun hHeld => ?_)
            clear hK K
            try simp only [Act.put, List.setIfInBounds_toArray, List.set_cons_zero, List.set_cons_succ]
            refine wpAnyH_ready (rs := [14]) (by kernel_rfl) (by simp) ?_
            refine AllReadyH.cons (by simp only [List.getElem?_toArray, List.getElem?_cons_succ, List.getElem?_cons_zero]; rfl) (fun K hK => ?_) AllReadyH.nil
            go_simp
            refine hK.out _ _ q5 (fun hHeld => ?_)
            clear hK K
            try simp only [Act.put, List.setIfInBounds_toArray, List.set_cons_zero, List.set_cons_succ]
            refine wpAnyH_take (i := 15) (v := ?_) (by simp only [List.getElem?_toArray, List.getElem?_cons_succ, List.getElem?_cons_zero]; rfl) (by kernel_rfl) (by kernel_rfl) (by kernel_rfl) (by intro _ _ _ h; exact h) (Or.inl ⟨by rfl, ?_⟩) (by assumption) ?_
            rotate_left
            · (intro w hSw; (try dsimp only at hSw); go_simp; try with_reducible rfl)
            try simp only [Act.put, List.setIfInBounds_toArray, List.set_cons_zero, List.set_cons_succ]
            refine wpAnyH_take (i := 16) (v := ?_) (by simp only [List.getElem?_toArray, List.getElem?_cons_succ, List.getElem?_cons_zero]; rfl) (by kernel_rfl) (by kernel_rfl) (by kernel_rfl) (by intro _ _ _ h; exact h) (Or.inl ⟨by rfl, ?_⟩) (by assumption) ?_
            rotate_left
            · (intro w hSw; (try dsimp only at hSw); go_simp; try with_reducible rfl)
            try simp only [Act.put, List.setIfInBounds_toArray, List.set_cons_zero, List.set_cons_succ]
            refine wpAnyH_done (by kernel_rfl) ?_ _
            have HP5 := Lib.hid (HPL.out.below hc5)
            clear t5 t8 q4 q5 ho4 ho5
            go_wp2_with fail
            go_roundw
            case rel => exact ⟨i + 1, _, L, by omega, by omega, rfl, by go_num, HP5, HIN⟩
            case measure => simp [intOf]; omega
          · refine AllReadyH.cons (by simp only [List.getElem?_toArray, List.getElem?_cons_succ, List.getElem?_cons_zero]; rfl) (fun K hK => ?_) AllReadyH.nil
            go_simp
            refine (HRS.out w4 hc4).mono ?_
            rintro e w5 ⟨v5, rfl, ho5, hb5⟩
            obtain ⟨o5, c5, rfl⟩ := own_slice ho5
            have hc5 := hc4.trans (hb5.mono hc4.size)
            have q5 := HCR.out w5 hc5
            have t5 : (convert 31 9 (.slice o4 sb.length c4)).run Try.prog w5 = .ok (.string ⟨sb.toArray⟩) w5 := textS (own_below ho4 hb5 (Nat.le_refl _))
            have t8 : (convert 31 9 (.slice o5 sb.length c5)).run Try.prog w5 = .ok (.string ⟨sb.toArray⟩) w5 := textS ho5
            clear hb5
            refine hK.out _ _ q5 (fun hHeld => ?_)
            clear hK K
            try simp only [Act.put, List.setIfInBounds_toArray, List.set_cons_zero, List.set_cons_succ]
            refine wpAnyH_ready (rs := [11, 14]) (by kernel_rfl) (by simp) ?_
            refine AllReadyH.cons (by simp only [List.getElem?_toArray, List.getElem?_cons_succ, List.getElem?_cons_zero]; rfl) (fun K hK => ?_) ?_
            · go_simp
              refine hK.out _ _ q5 (fun hHeld => ?_)
              clear hK K
              try simp only [Act.put, List.setIfInBounds_toArray, List.set_cons_zero, List.set_cons_succ]
              refine wpAnyH_ready (rs := [14]) (by kernel_rfl) (by simp) ?_
              refine AllReadyH.cons (by simp only [List.getElem?_toArray, List.getElem?_cons_succ, List.getElem?_cons_zero]; rfl) (fun K hK => ?_) AllReadyH.nil
              go_simp
              refine hK.out _ _ q5 (fun hHeld => ?_)
              clear hK K
              try simp only [Act.put, List.setIfInBounds_toArray, List.set_cons_zero, List.set_cons_succ]
              refine wpAnyH_take (i := 15) (v := ?_) (by simp only [List.getElem?_toArray, List.getElem?_cons_succ, List.getElem?_cons_zero]; rfl) (by kernel_rfl) (by kernel_rfl) (by kernel_rfl) (by intro _ _ _ h; exact h) (Or.inl ⟨by rfl, ?_⟩) (by assumption) ?_
              rotate_left
              · (intro w hSw; (try dsimp only at hSw); go_simp; try with_reducible rfl)
              try simp only [Act.put, List.setIfInBounds_toArray, List.set_cons_zero, List.set_cons_succ]
              refine wpAnyH_take (i := 16) (v := ?_) (by simp only [List.getElem?_toArray, List.getElem?_cons_succ, List.getElem?_cons_zero]; rfl) (by kernel_rfl) (by kernel_rfl) (by kernel_rfl) (by intro _ _ _ h; exact h) (Or.inl ⟨by rfl, ?_⟩) (by assumption) ?_
              rotate_left
              · (intro w hSw; (try dsimp only at hSw); go_simp; try with_reducible rfl)
              try simp only [Act.put, List.setIfInBounds_toArray, List.set_cons_zero, List.set_cons_succ]
              refine wpAnyH_done (by kernel_rfl) ?_ _
              have HP5 := Lib.hid (HPL.out.below hc5)
              clear t5 t8 q4 q5 ho4 ho5
              go_wp2_with fail
              go_roundw
              case rel => exact ⟨i + 1, _, L, by omega, by omega, rfl, by go_num, HP5, HIN⟩
              case measure => simp [intOf]; omega
            · refine AllReadyH.cons (by simp only [List.getElem?_toArray, List.getElem?_cons_succ, List.getElem?_cons_zero]; rfl) (fun K hK => ?_) AllReadyH.nil
              go_simp
              refine hK.out _ _ q5 (fun hHeld => ?_)
              clear hK K
              try simp only [Act.put, List.setIfInBounds_toArray, List.set_cons_zero, List.set_cons_succ]
              refine wpAnyH_ready (rs := [11]) (by kernel_rfl) (by simp) ?_
              refine AllReadyH.cons (by simp only [List.getElem?_toArray, List.getElem?_cons_succ, List.getElem?_cons_zero]; rfl) (fun K hK => ?_) AllReadyH.nil
              go_simp
              refine hK.out _ _ q5 (fun hHeld => ?_)
              clear hK K
              try simp only [Act.put, List.setIfInBounds_toArray, List.set_cons_zero, List.set_cons_succ]
              refine wpAnyH_take (i := 15) (v := ?_) (by simp only [List.getElem?_toArray, List.getElem?_cons_succ, List.getElem?_cons_zero]; rfl) (by kernel_rfl) (by kernel_rfl) (by kernel_rfl) (by intro _ _ _ h; exact h) (Or.inl ⟨by rfl, ?_⟩) (by assumption) ?_
              rotate_left
              · (intro w hSw; (try dsimp only at hSw); go_simp; try with_reducible rfl)
              try simp only [Act.put, List.setIfInBounds_toArray, List.set_cons_zero, List.set_cons_succ]
              refine wpAnyH_take (i := 16) (v := ?_) (by simp only [List.getElem?_toArray, List.getElem?_cons_succ, List.getElem?_cons_zero]; rfl) (by kernel_rfl) (by kernel_rfl) (by kernel_rfl) (by intro _ _ _ h; exact h) (Or.inl ⟨by rfl, ?_⟩) (by assumption) ?_
              rotate_left
              · (intro w hSw; (try dsimp only at hSw); go_simp; try with_reducible rfl)
              try simp only [Act.put, List.setIfInBounds_toArray, List.set_cons_zero, List.set_cons_succ]
              refine wpAnyH_done (by kernel_rfl) ?_ _
              have HP5 := Lib.hid (HPL.out.below hc5)
              clear t5 t8 q4 q5 ho4 ho5
              go_wp2_with fail
              go_roundw
              case rel => exact ⟨i + 1, _, L, by omega, by omega, rfl, by go_num, HP5, HIN⟩
              case measure => simp [intOf]; omega
        · skip
          have s0 : (ak % 5 == 0) = false := by rw [beq_eq_false_iff_ne, hk5]; decide
          have s1 : (ak % 5 == 1) = true := by rw [beq_iff_eq, hk5]
          clear hk5
          generalize (putS l ⟨id, nm, rp⟩).1 = code at *
          generalize (putS l ⟨id, nm, rp⟩).2 = L at *
          have hcc : (code != code) = false := by simp
          have hcd : (code == code) = true := by simp
          go_wp2_with fail
          refine wp_region_held_drew (S := fun w' => w'.cell? ⟨X, 0, none⟩ = some (.int .u8 ak) ∧ w'.cell? ⟨X, 1, none⟩ = some (.int .u64 (id : Int)) ∧ w'.cell? ⟨X, 2, none⟩ = some (.int .u64 (nm : Int)) ∧ w'.cell? ⟨X, 3, none⟩ = some (.slice po rp.length pc)) (by kernel_rfl) ⟨x0, x1, x2, x3⟩ ?_
          intro hHeld
          refine wpAnyH_take (i := 0) (v := ?_) (by simp only [List.getElem?_toArray, List.getElem?_cons_zero]; rfl) (by kernel_rfl) (by kernel_rfl) (by kernel_rfl) (by intro _ _ _ h; exact h) (Or.inl ⟨by rfl, ?_⟩) (by assumption) ?_
          rotate_left
          · (intro w hSw; (try dsimp only at hSw); go_simp; try with_reducible rfl)
          try simp only [Act.put, List.setIfInBounds_toArray, List.set_cons_zero, List.set_cons_succ]
          refine wpAnyH_take (i := 1) (v := ?_) (by simp only [List.getElem?_toArray, List.getElem?_cons_succ, List.getElem?_cons_zero]; rfl) (by kernel_rfl) (by kernel_rfl) (by kernel_rfl) (by intro _ _ _ h; exact h) (Or.inl ⟨by rfl, ?_⟩) (by assumption) ?_
          rotate_left
          · (intro w hSw; (try dsimp only at hSw); go_simp; try with_reducible rfl)
          try simp only [Act.put, List.setIfInBounds_toArray, List.set_cons_zero, List.set_cons_succ]
          refine wpAnyH_take (i := 2) (v := ?_) (by simp only [List.getElem?_toArray, List.getElem?_cons_succ, List.getElem?_cons_zero]; rfl) (by kernel_rfl) (by kernel_rfl) (by kernel_rfl) (by intro _ _ _ h; exact h) (Or.inl ⟨by rfl, ?_⟩) (by assumption) ?_
          rotate_left
          · (intro w hSw; (try dsimp only at hSw); go_simp; try with_reducible rfl)
          try simp only [Act.put, List.setIfInBounds_toArray, List.set_cons_zero, List.set_cons_succ]
          refine wpAnyH_take (i := 3) (v := ?_) (by simp only [List.getElem?_toArray, List.getElem?_cons_succ, List.getElem?_cons_zero]; rfl) (by kernel_rfl) (by kernel_rfl) (by kernel_rfl) (by intro _ _ _ h; exact h) (Or.inl ⟨by rfl, ?_⟩) (by assumption) ?_
          rotate_left
          · (intro w hSw; (try dsimp only at hSw); go_simp; try with_reducible rfl)
          try simp only [Act.put, List.setIfInBounds_toArray, List.set_cons_zero, List.set_cons_succ]
          refine wpAnyH_take (i := 4) (v := ?_) (by simp only [List.getElem?_toArray, List.getElem?_cons_succ, List.getElem?_cons_zero]; rfl) (by kernel_rfl) (by kernel_rfl) (by kernel_rfl) (by intro _ _ _ h; exact h) (Or.inl ⟨by rfl, ?_⟩) (by assumption) ?_
          rotate_left
          · (intro w hSw; (try dsimp only at hSw); go_simp; try with_reducible rfl)
          try simp only [Act.put, List.setIfInBounds_toArray, List.set_cons_zero, List.set_cons_succ]
          refine wpAnyH_take (i := 5) (v := ?_) (by simp only [List.getElem?_toArray, List.getElem?_cons_succ, List.getElem?_cons_zero]; rfl) (by kernel_rfl) (by kernel_rfl) (by kernel_rfl) (by intro _ _ _ h; exact h) (Or.inl ⟨by rfl, ?_⟩) (by assumption) ?_
          rotate_left
          · (intro w hSw; (try dsimp only at hSw); go_simp; try with_reducible rfl)
          try simp only [Act.put, List.setIfInBounds_toArray, List.set_cons_zero, List.set_cons_succ]
          refine wpAnyH_take (i := 6) (v := ?_) (by simp only [List.getElem?_toArray, List.getElem?_cons_succ, List.getElem?_cons_zero]; rfl) (by kernel_rfl) (by kernel_rfl) (by kernel_rfl) (by intro _ _ _ h; exact h) (Or.inl ⟨by rfl, ?_⟩) (by assumption) ?_
          rotate_left
          · (intro w hSw; (try dsimp only at hSw); go_simp; try with_reducible rfl)
          try simp only [Act.put, List.setIfInBounds_toArray, List.set_cons_zero, List.set_cons_succ]
          refine wpAnyH_take (i := 8) (v := ?_) (by simp only [List.getElem?_toArray, List.getElem?_cons_succ, List.getElem?_cons_zero]; rfl) (by kernel_rfl) (by kernel_rfl) (by kernel_rfl) (by intro _ _ _ h; exact h) (Or.inl ⟨by rfl, ?_⟩) (by assumption) ?_
          rotate_left
          · (intro w hSw; (try dsimp only at hSw); go_simp; try with_reducible rfl)
          try simp only [Act.put, List.setIfInBounds_toArray, List.set_cons_zero, List.set_cons_succ]
          refine wpAnyH_take (i := 9) (v := ?_) (by simp only [List.getElem?_toArray, List.getElem?_cons_succ, List.getElem?_cons_zero]; rfl) (by kernel_rfl) (by kernel_rfl) (by kernel_rfl) (by intro _ _ _ h; exact h) (Or.inl ⟨by rfl, ?_⟩) (by assumption) ?_
          rotate_left
          · (intro w hSw; (try dsimp only at hSw); go_simp; try with_reducible rfl)
          try simp only [Act.put, List.setIfInBounds_toArray, List.set_cons_zero, List.set_cons_succ]
          refine wpAnyH_take (i := 10) (v := ?_) (by simp only [List.getElem?_toArray, List.getElem?_cons_succ, List.getElem?_cons_zero]; rfl) (by kernel_rfl) (by kernel_rfl) (by kernel_rfl) (by intro _ _ _ h; exact h) (Or.inl ⟨by rfl, ?_⟩) (by assumption) ?_
          rotate_left
          · (intro w hSw; (try dsimp only at hSw); go_simp; try with_reducible rfl)
          try simp only [Act.put, List.setIfInBounds_toArray, List.set_cons_zero, List.set_cons_succ]
          refine wpAnyH_take (i := 11) (v := ?_) (by simp only [List.getElem?_toArray, List.getElem?_cons_succ, List.getElem?_cons_zero]; rfl) (by kernel_rfl) (by kernel_rfl) (by kernel_rfl) (by intro _ _ _ h; exact h) (Or.inl ⟨by rfl, ?_⟩) (by assumption) ?_
          rotate_left
          · (intro w hSw; (try dsimp only at hSw); go_simp; try with_reducible rfl)
          try simp only [Act.put, List.setIfInBounds_toArray, List.set_cons_zero, List.set_cons_succ]
          refine wpAnyH_take (i := 12) (v := ?_) (by simp only [List.getElem?_toArray, List.getElem?_cons_succ, List.getElem?_cons_zero]; rfl) (by kernel_rfl) (by kernel_rfl) (by kernel_rfl) (by intro _ _ _ h; exact h) (Or.inl ⟨by rfl, ?_⟩) (by assumption) ?_
          rotate_left
          · (intro w hSw; (try dsimp only at hSw); go_simp; try with_reducible rfl)
          try simp only [Act.put, List.setIfInBounds_toArray, List.set_cons_zero, List.set_cons_succ]
          refine wpAnyH_take (i := 13) (v := ?_) (by simp only [List.getElem?_toArray, List.getElem?_cons_succ, List.getElem?_cons_zero]; rfl) (by kernel_rfl) (by kernel_rfl) (by kernel_rfl) (by intro _ _ _ h; exact h) (Or.inl ⟨by rfl, ?_⟩) (by assumption) ?_
          rotate_left
          · (intro w hSw; (try dsimp only at hSw); go_simp; try with_reducible rfl)
          try simp only [Act.put, List.setIfInBounds_toArray, List.set_cons_zero, List.set_cons_succ]
          refine wpAnyH_take (i := 14) (v := ?_) (by simp only [List.getElem?_toArray, List.getElem?_cons_succ, List.getElem?_cons_zero]; rfl) (by kernel_rfl) (by kernel_rfl) (by kernel_rfl) (by intro _ _ _ h; exact h) (Or.inl ⟨by rfl, ?_⟩) (by assumption) ?_
          rotate_left
          · (intro w hSw; (try dsimp only at hSw); go_simp; try with_reducible rfl)
          try simp only [Act.put, List.setIfInBounds_toArray, List.set_cons_zero, List.set_cons_succ]
          refine wpAnyH_ready (rs := [7]) (by kernel_rfl) (by simp) ?_
          refine AllReadyH.cons (by simp only [List.getElem?_toArray, List.getElem?_cons_succ, List.getElem?_cons_zero]; rfl) (fun K hK => ?_) AllReadyH.nil
          go_simp
          refine (HPUT.out WB.drew (HP8.out.below (Below.refl _ WB).drew)).mono ?_
          rintro e w2 ⟨rfl, hp2, hk2⟩
          have HP2 := Lib.hid hp2
          have hx2 := (hk2.block X hxl (fun h => by
            rcases h.2 _ _ _ hx with h | h
            · exact absurd h (by decide)
            · exact absurd h (by decide))).trans hx
          have y0 := cellk (i := 0) hx2 rfl
          have y1 := cellk (i := 1) hx2 rfl
          have y2 := cellk (i := 2) hx2 rfl
          have y3 := cellk (i := 3) hx2 rfl
          clear hp2 hk2
          refine hK.out _ _ ⟨y0, y1, y2, y3⟩ (fun hHeld => ?_)
          clear hK K
          try simp only [Act.put, List.setIfInBounds_toArray, List.set_cons_zero, List.set_cons_succ]
          refine wpAnyH_ready (rs := [15]) (by kernel_rfl) (by simp) ?_
          refine AllReadyH.cons (by simp only [List.getElem?_toArray, List.getElem?_cons_succ, List.getElem?_cons_zero]; rfl) (fun K hK => ?_) AllReadyH.nil
          go_simp
          refine (HRPUT.out w2 _ HP2.out).mono ?_
          rintro e w3 ⟨rfl, hp3, hk3⟩
          have HP3 := Lib.hid hp3
          have hx3 := (hk3.block X (lt_of_block hx2) (fun h => HXBR.out h)).trans hx2
          have z0 := cellk (i := 0) hx3 rfl
          have z1 := cellk (i := 1) hx3 rfl
          have z2 := cellk (i := 2) hx3 rfl
          have z3 := cellk (i := 3) hx3 rfl
          clear hp3 hk3 hx2
          refine hK.out _ _ ⟨z0, z1, z2, z3⟩ (fun hHeld => ?_)
          clear hK K
          try simp only [Act.put, List.setIfInBounds_toArray, List.set_cons_zero, List.set_cons_succ]
          refine wpAnyH_take (i := 16) (v := ?_) (by simp only [List.getElem?_toArray, List.getElem?_cons_succ, List.getElem?_cons_zero]; rfl) (by kernel_rfl) (by kernel_rfl) (by kernel_rfl) (by intro _ _ _ h; exact h) (Or.inl ⟨by rfl, ?_⟩) (by assumption) ?_
          rotate_left
          · (intro w hSw; (try dsimp only at hSw); go_simp; try with_reducible rfl)
          try simp only [Act.put, List.setIfInBounds_toArray, List.set_cons_zero, List.set_cons_succ]
          refine wpAnyH_done (by kernel_rfl) ?_ _
          have HPL : Hid (Pl2 w w3 b br L L) := HP3
          have HIN := HPI
          obtain ⟨WX, hWX⟩ : ∃ WX, WX = w3 := ⟨_, rfl⟩
          subst hWX
          clear x0 x1 x2 x3 y0 y1 y2 y3 z0 z1 z2 z3 hx hx3 hxl HP8 HP2 HP3 HPUT HRPUT HPI
          go_wp2_with fail
          obtain ⟨⟨vt, hvt⟩, hgb, ⟨vr, ps, hro, hps⟩, hgr, hbl⟩ := HPL.out
          have hpl : ps.length = L.length := by rw [← hps]; simp
          obtain ⟨ovr, cvr, rfl⟩ := own_slice hro.own.row
          have hin := HIN.out
          have hb8 : ∀ s ∈ L, s.rp.length ≤ 1000000 := fun s hs => by have := (hin.pos s hs).2.2; omega
          obtain ⟨sb, hsb⟩ : ∃ sb, sb = saveB L := ⟨_, rfl⟩
          have HSV : Hid (∀ W, Below WX.heap.size WX W → Calls Try.prog 16 #[.pointer (some ⟨_, 0, none⟩)] W fun e w' => ∃ v', e = .returned v' ∧ Own w' W.heap.size v' sb ∧ Below W.heap.size W w') := Lib.hid (fun W hW => by rw [hsb]; exact save_any W (hvt.below hW) (by have := hin.len; omega) hin.wrd hb8)
          have HRS : Hid (∀ W, Below WX.heap.size WX W → Calls Try.prog 18 #[.pointer (some ⟨br, 0, none⟩)] W fun e w' => ∃ v', e = .returned v' ∧ Own w' W.heap.size v' sb ∧ Below W.heap.size W w') := Lib.hid (fun W hW => by
            have h := rsave_any W (hro.below hW).rt (by have := hin.len; omega) (by rw [hps]; exact hin.wrd) (by rw [hps]; exact hb8)
            rw [hps, ← hsb] at h
            exact h)
          have HLN : Hid (∀ W, Below WX.heap.size WX W → Calls Try.prog 17 #[.pointer (some ⟨_, 0, none⟩)] W fun e w' => e = .returned (.int .i64 (ps.length : Int)) ∧ W = w') := Lib.hid (fun W hW => by have h := tlen_any W (hvt.below hW); rw [← hpl] at h; exact h)
          have HCR : Hid (∀ W, Below WX.heap.size WX W → W.cell? ⟨br, 0, none⟩ = some (.slice ovr ps.length cvr)) := Lib.hid (fun W hW => cell_of_one (hro.below hW).cell)
          have hpp : (sb == sb) = true := by simp
          have hpn : (sb != sb) = false := by simp
          generalize hpsl : ps.length = np at *
          have hnn : ((np : Int) != (np : Int)) = false := by simp
          have hne : ((np : Int) == (np : Int)) = true := by simp
          clear hvt hgb hro hps hgr hbl hpl hin hb8 hsb hpsl
          refine wp_region_held_drew (S := fun w' => w'.cell? ⟨br, 0, none⟩ = some (.slice ovr np cvr)) (by kernel_rfl) (HCR.out _ (Below.refl _ WX).drew) ?_
          intro hHeld
          refine wpAnyH_take (i := 0) (v := ?_) (by simp only [List.getElem?_toArray, List.getElem?_cons_zero]; rfl) (by kernel_rfl) (by kernel_rfl) (by kernel_rfl) (by intro _ _ _ h; exact h) (Or.inl ⟨by rfl, ?_⟩) (by assumption) ?_
          rotate_left
          · (intro w hSw; (try dsimp only at hSw); go_simp; try with_reducible rfl)
          try simp only [Act.put, List.setIfInBounds_toArray, List.set_cons_zero, List.set_cons_succ]
          refine wpAnyH_take (i := 2) (v := ?_) (by simp only [List.getElem?_toArray, List.getElem?_cons_succ, List.getElem?_cons_zero]; rfl) (by kernel_rfl) (by kernel_rfl) (by kernel_rfl) (by intro _ _ _ h; exact h) (Or.inl ⟨by rfl, ?_⟩) (by assumption) ?_
          rotate_left
          · (intro w hSw; (try dsimp only at hSw); go_simp; try with_reducible rfl)
          try simp only [Act.put, List.setIfInBounds_toArray, List.set_cons_zero, List.set_cons_succ]
          refine wpAnyH_take (i := 3) (v := ?_) (by simp only [List.getElem?_toArray, List.getElem?_cons_succ, List.getElem?_cons_zero]; rfl) (by kernel_rfl) (by kernel_rfl) (by kernel_rfl) (by intro _ _ _ h; exact h) (Or.inl ⟨by rfl, ?_⟩) (by assumption) ?_
          rotate_left
          · (intro w hSw; (try dsimp only at hSw); go_simp; try with_reducible rfl)
          try simp only [Act.put, List.setIfInBounds_toArray, List.set_cons_zero, List.set_cons_succ]
          refine wpAnyH_take (i := 4) (v := ?_) (by simp only [List.getElem?_toArray, List.getElem?_cons_succ, List.getElem?_cons_zero]; rfl) (by kernel_rfl) (by kernel_rfl) (by kernel_rfl) (by intro _ _ _ h; exact h) (Or.inl ⟨by rfl, ?_⟩) (by assumption) ?_
          rotate_left
          · (intro w hSw; (try dsimp only at hSw); go_simp; try with_reducible rfl)
          try simp only [Act.put, List.setIfInBounds_toArray, List.set_cons_zero, List.set_cons_succ]
          refine wpAnyH_take (i := 5) (v := ?_) (by simp only [List.getElem?_toArray, List.getElem?_cons_succ, List.getElem?_cons_zero]; rfl) (by kernel_rfl) (by kernel_rfl) (by kernel_rfl) (by intro _ _ _ h; exact h) (Or.inl ⟨by rfl, ?_⟩) (by assumption) ?_
          rotate_left
          · (intro w hSw; (try dsimp only at hSw); go_simp; try with_reducible rfl)
          try simp only [Act.put, List.setIfInBounds_toArray, List.set_cons_zero, List.set_cons_succ]
          refine wpAnyH_take (i := 6) (v := ?_) (by simp only [List.getElem?_toArray, List.getElem?_cons_succ, List.getElem?_cons_zero]; rfl) (by kernel_rfl) (by kernel_rfl) (by kernel_rfl) (by intro _ _ _ h; exact h) (Or.inl ⟨by rfl, ?_⟩) (by assumption) ?_
          rotate_left
          · (intro w hSw; (try dsimp only at hSw); go_simp; try with_reducible rfl)
          try simp only [Act.put, List.setIfInBounds_toArray, List.set_cons_zero, List.set_cons_succ]
          refine wpAnyH_ready (rs := [1]) (by kernel_rfl) (by simp) ?_
          refine AllReadyH.cons (by simp only [List.getElem?_toArray, List.getElem?_cons_succ, List.getElem?_cons_zero]; rfl) (fun K hK => ?_) AllReadyH.nil
          go_simp
          refine (HLN.out WX.drew (Below.refl _ WX).drew).mono ?_
          rintro e w9 ⟨rfl, hw9⟩
          subst hw9
          refine hK.out _ _ (HCR.out _ (Below.refl _ WX).drew) (fun hHeld => ?_)
          clear hK K
          try simp only [Act.put, List.setIfInBounds_toArray, List.set_cons_zero, List.set_cons_succ]
          refine wpAnyH_take (i := 7) (v := ?_) (by simp only [List.getElem?_toArray, List.getElem?_cons_succ, List.getElem?_cons_zero]; rfl) (by kernel_rfl) (by kernel_rfl) (by kernel_rfl) (by intro _ _ _ h; exact h) (Or.inl ⟨by rfl, ?_⟩) (by assumption) ?_
          rotate_left
          · (intro w hSw; (try dsimp only at hSw); go_simp; try with_reducible rfl)
          try simp only [Act.put, List.setIfInBounds_toArray, List.set_cons_zero, List.set_cons_succ]
          refine wpAnyH_take (i := 8) (v := ?_) (by simp only [List.getElem?_toArray, List.getElem?_cons_succ, List.getElem?_cons_zero]; rfl) (by kernel_rfl) (by kernel_rfl) (by kernel_rfl) (by intro _ _ _ h; exact h) (Or.inl ⟨by rfl, ?_⟩) (by assumption) ?_
          rotate_left
          · (intro w hSw; (try dsimp only at hSw); go_simp; try with_reducible rfl)
          try simp only [Act.put, List.setIfInBounds_toArray, List.set_cons_zero, List.set_cons_succ]
          refine wpAnyH_take (i := 9) (v := ?_) (by simp only [List.getElem?_toArray, List.getElem?_cons_succ, List.getElem?_cons_zero]; rfl) (by kernel_rfl) (by kernel_rfl) (by kernel_rfl) (by intro _ _ _ h; exact h) (Or.inl ⟨by rfl, ?_⟩) (by assumption) ?_
          rotate_left
          · (intro w hSw; (try dsimp only at hSw); go_simp; try with_reducible rfl)
          try simp only [Act.put, List.setIfInBounds_toArray, List.set_cons_zero, List.set_cons_succ]
          refine wpAnyH_take (i := 12) (v := ?_) (by simp only [List.getElem?_toArray, List.getElem?_cons_succ, List.getElem?_cons_zero]; rfl) (by kernel_rfl) (by kernel_rfl) (by kernel_rfl) (by intro _ _ _ h; exact h) (Or.inl ⟨by rfl, ?_⟩) (by assumption) ?_
          rotate_left
          · (intro w hSw; (try dsimp only at hSw); go_simp; try with_reducible rfl)
          try simp only [Act.put, List.setIfInBounds_toArray, List.set_cons_zero, List.set_cons_succ]
          refine wpAnyH_ready (rs := [10]) (by kernel_rfl) (by simp) ?_
          refine AllReadyH.cons (by simp only [List.getElem?_toArray, List.getElem?_cons_succ, List.getElem?_cons_zero]; rfl) (fun K hK => ?_) AllReadyH.nil
          go_simp
          refine (HSV.out WX.drew (Below.refl _ WX).drew).mono ?_
          rintro e w4 ⟨v4, rfl, ho4, hb4⟩
          obtain ⟨o4, c4, rfl⟩ := own_slice ho4
          have hc4 : Below WX.heap.size WX w4 := (Below.refl _ WX).drew.trans hb4
          have q4 := HCR.out w4 hc4
          have t5 : (convert 31 9 (.slice o4 sb.length c4)).run Try.prog w4 = .ok (.string ⟨sb.toArray⟩) w4 := textS ho4
          clear hb4
          refine hK.out _ _ q4 (fun hHeld => ?_)
          clear hK K
          try simp only [Act.put, List.setIfInBounds_toArray, List.set_cons_zero, List.set_cons_succ]
          refine wpAnyH_ready (rs := [11, 13]) (by kernel_rfl) (by simp) ?_
          refine AllReadyH.cons (by simp only [List.getElem?_toArray, List.getElem?_cons_succ, List.getElem?_cons_zero]; rfl) (fun K hK => ?_) ?_
          · go_simp
            refine hK.out _ _ q4 (fun hHeld => ?_)
            clear hK K
            try simp only [Act.put, List.setIfInBounds_toArray, List.set_cons_zero, List.set_cons_succ]
            refine wpAnyH_ready (rs := [13]) (by kernel_rfl) (by simp) ?_
            refine AllReadyH.cons (by simp only [List.getElem?_toArray, List.getElem?_cons_succ, List.getElem?_cons_zero]; rfl) (fun K hK => ?_) AllReadyH.nil
            go_simp
            refine (HRS.out w4 hc4).mono ?_
            rintro e w5 ⟨v5, rfl, ho5, hb5⟩
            obtain ⟨o5, c5, rfl⟩ := own_slice ho5
            have hc5 := hc4.trans (hb5.mono hc4.size)
            have q5 := HCR.out w5 hc5
            have t5 : (convert 31 9 (.slice o4 sb.length c4)).run Try.prog w5 = .ok (.string ⟨sb.toArray⟩) w5 := textS (own_below ho4 hb5 (Nat.le_refl _))
            have t8 : (convert 31 9 (.slice o5 sb.length c5)).run Try.prog w5 = .ok (.string ⟨sb.toArray⟩) w5 := textS ho5
            clear hb5
            refine hK.out _ _ q5 (fun hHeld => ?_)
            clear hK K
            try simp only [Act.put, List.setIfInBounds_toArray, List.set_cons_zero, List.set_cons_succ]
            refine wpAnyH_ready (rs := [14]) (by kernel_rfl) (by simp) ?_
            refine AllReadyH.cons (by simp only [List.getElem?_toArray, List.getElem?_cons_succ, List.getElem?_cons_zero]; rfl) (fun K hK => ?_) AllReadyH.nil
            go_simp
            refine hK.out _ _ q5 (fun hHeld => ?_)
            clear hK K
            try simp only [Act.put, List.setIfInBounds_toArray, List.set_cons_zero, List.set_cons_succ]
            refine wpAnyH_take (i := 15) (v := ?_) (by simp only [List.getElem?_toArray, List.getElem?_cons_succ, List.getElem?_cons_zero]; rfl) (by kernel_rfl) (by kernel_rfl) (by kernel_rfl) (by intro _ _ _ h; exact h) (Or.inl ⟨by rfl, ?_⟩) (by assumption) ?_
            rotate_left
            · (intro w hSw; (try dsimp only at hSw); go_simp; try with_reducible rfl)
            try simp only [Act.put, List.setIfInBounds_toArray, List.set_cons_zero, List.set_cons_succ]
            refine wpAnyH_take (i := 16) (v := ?_) (by simp only [List.getElem?_toArray, List.getElem?_cons_succ, List.getElem?_cons_zero]; rfl) (by kernel_rfl) (by kernel_rfl) (by kernel_rfl) (by intro _ _ _ h; exact h) (Or.inl ⟨by rfl, ?_⟩) (by assumption) ?_
            rotate_left
            · (intro w hSw; (try dsimp only at hSw); go_simp; try with_reducible rfl)
            try simp only [Act.put, List.setIfInBounds_toArray, List.set_cons_zero, List.set_cons_succ]
            refine wpAnyH_done (by kernel_rfl) ?_ _
            have HP5 := Lib.hid (HPL.out.below hc5)
            clear t5 t8 q4 q5 ho4 ho5
            go_wp2_with fail
            go_roundw
            case rel => exact ⟨i + 1, _, L, by omega, by omega, rfl, by go_num, HP5, HIN⟩
            case measure => simp [intOf]; omega
          · refine AllReadyH.cons (by simp only [List.getElem?_toArray, List.getElem?_cons_succ, List.getElem?_cons_zero]; rfl) (fun K hK => ?_) AllReadyH.nil
            go_simp
            refine (HRS.out w4 hc4).mono ?_
            rintro e w5 ⟨v5, rfl, ho5, hb5⟩
            obtain ⟨o5, c5, rfl⟩ := own_slice ho5
            have hc5 := hc4.trans (hb5.mono hc4.size)
            have q5 := HCR.out w5 hc5
            have t5 : (convert 31 9 (.slice o4 sb.length c4)).run Try.prog w5 = .ok (.string ⟨sb.toArray⟩) w5 := textS (own_below ho4 hb5 (Nat.le_refl _))
            have t8 : (convert 31 9 (.slice o5 sb.length c5)).run Try.prog w5 = .ok (.string ⟨sb.toArray⟩) w5 := textS ho5
            clear hb5
            refine hK.out _ _ q5 (fun hHeld => ?_)
            clear hK K
            try simp only [Act.put, List.setIfInBounds_toArray, List.set_cons_zero, List.set_cons_succ]
            refine wpAnyH_ready (rs := [11, 14]) (by kernel_rfl) (by simp) ?_
            refine AllReadyH.cons (by simp only [List.getElem?_toArray, List.getElem?_cons_succ, List.getElem?_cons_zero]; rfl) (fun K hK => ?_) ?_
            · go_simp
              refine hK.out _ _ q5 (fun hHeld => ?_)
              clear hK K
              try simp only [Act.put, List.setIfInBounds_toArray, List.set_cons_zero, List.set_cons_succ]
              refine wpAnyH_ready (rs := [14]) (by kernel_rfl) (by simp) ?_
              refine AllReadyH.cons (by simp only [List.getElem?_toArray, List.getElem?_cons_succ, List.getElem?_cons_zero]; rfl) (fun K hK => ?_) AllReadyH.nil
              go_simp
              refine hK.out _ _ q5 (fun hHeld => ?_)
              clear hK K
              try simp only [Act.put, List.setIfInBounds_toArray, List.set_cons_zero, List.set_cons_succ]
              refine wpAnyH_take (i := 15) (v := ?_) (by simp only [List.getElem?_toArray, List.getElem?_cons_succ, List.getElem?_cons_zero]; rfl) (by kernel_rfl) (by kernel_rfl) (by kernel_rfl) (by intro _ _ _ h; exact h) (Or.inl ⟨by rfl, ?_⟩) (by assumption) ?_
              rotate_left
              · (intro w hSw; (try dsimp only at hSw); go_simp; try with_reducible rfl)
              try simp only [Act.put, List.setIfInBounds_toArray, List.set_cons_zero, List.set_cons_succ]
              refine wpAnyH_take (i := 16) (v := ?_) (by simp only [List.getElem?_toArray, List.getElem?_cons_succ, List.getElem?_cons_zero]; rfl) (by kernel_rfl) (by kernel_rfl) (by kernel_rfl) (by intro _ _ _ h; exact h) (Or.inl ⟨by rfl, ?_⟩) (by assumption) ?_
              rotate_left
              · (intro w hSw; (try dsimp only at hSw); go_simp; try with_reducible rfl)
              try simp only [Act.put, List.setIfInBounds_toArray, List.set_cons_zero, List.set_cons_succ]
              refine wpAnyH_done (by kernel_rfl) ?_ _
              have HP5 := Lib.hid (HPL.out.below hc5)
              clear t5 t8 q4 q5 ho4 ho5
              go_wp2_with fail
              go_roundw
              case rel => exact ⟨i + 1, _, L, by omega, by omega, rfl, by go_num, HP5, HIN⟩
              case measure => simp [intOf]; omega
            · refine AllReadyH.cons (by simp only [List.getElem?_toArray, List.getElem?_cons_succ, List.getElem?_cons_zero]; rfl) (fun K hK => ?_) AllReadyH.nil
              go_simp
              refine hK.out _ _ q5 (fun hHeld => ?_)
              clear hK K
              try simp only [Act.put, List.setIfInBounds_toArray, List.set_cons_zero, List.set_cons_succ]
              refine wpAnyH_ready (rs := [11]) (by kernel_rfl) (by simp) ?_
              refine AllReadyH.cons (by simp only [List.getElem?_toArray, List.getElem?_cons_succ, List.getElem?_cons_zero]; rfl) (fun K hK => ?_) AllReadyH.nil
              go_simp
              refine hK.out _ _ q5 (fun hHeld => ?_)
              clear hK K
              try simp only [Act.put, List.setIfInBounds_toArray, List.set_cons_zero, List.set_cons_succ]
              refine wpAnyH_take (i := 15) (v := ?_) (by simp only [List.getElem?_toArray, List.getElem?_cons_succ, List.getElem?_cons_zero]; rfl) (by kernel_rfl) (by kernel_rfl) (by kernel_rfl) (by intro _ _ _ h; exact h) (Or.inl ⟨by rfl, ?_⟩) (by assumption) ?_
              rotate_left
              · (intro w hSw; (try dsimp only at hSw); go_simp; try with_reducible rfl)
              try simp only [Act.put, List.setIfInBounds_toArray, List.set_cons_zero, List.set_cons_succ]
              refine wpAnyH_take (i := 16) (v := ?_) (by simp only [List.getElem?_toArray, List.getElem?_cons_succ, List.getElem?_cons_zero]; rfl) (by kernel_rfl) (by kernel_rfl) (by kernel_rfl) (by intro _ _ _ h; exact h) (Or.inl ⟨by rfl, ?_⟩) (by assumption) ?_
              rotate_left
              · (intro w hSw; (try dsimp only at hSw); go_simp; try with_reducible rfl)
              try simp only [Act.put, List.setIfInBounds_toArray, List.set_cons_zero, List.set_cons_succ]
              refine wpAnyH_done (by kernel_rfl) ?_ _
              have HP5 := Lib.hid (HPL.out.below hc5)
              clear t5 t8 q4 q5 ho4 ho5
              go_wp2_with fail
              go_roundw
              case rel => exact ⟨i + 1, _, L, by omega, by omega, rfl, by go_num, HP5, HIN⟩
              case measure => simp [intOf]; omega
        · skip
          have s0 : (ak % 5 == 0) = false := by rw [beq_eq_false_iff_ne, hk5]; decide
          have s1 : (ak % 5 == 1) = false := by rw [beq_eq_false_iff_ne, hk5]; decide
          have s2 : (ak % 5 == 2) = true := by rw [beq_iff_eq, hk5]
          clear hk5
          generalize (putS l ⟨id, nm, rp⟩).1 = code at *
          generalize (putS l ⟨id, nm, rp⟩).2 = L at *
          have hcc : (code != code) = false := by simp
          have hcd : (code == code) = true := by simp
          go_wp2_with fail
          refine wp_region_held_drew (S := fun w' => w'.cell? ⟨X, 0, none⟩ = some (.int .u8 ak) ∧ w'.cell? ⟨X, 1, none⟩ = some (.int .u64 (id : Int)) ∧ w'.cell? ⟨X, 2, none⟩ = some (.int .u64 (nm : Int)) ∧ w'.cell? ⟨X, 3, none⟩ = some (.slice po rp.length pc)) (by kernel_rfl) ⟨x0, x1, x2, x3⟩ ?_
          intro hHeld
          refine wpAnyH_take (i := 0) (v := ?_) (by simp only [List.getElem?_toArray, List.getElem?_cons_zero]; rfl) (by kernel_rfl) (by kernel_rfl) (by kernel_rfl) (by intro _ _ _ h; exact h) (Or.inl ⟨by rfl, ?_⟩) (by assumption) ?_
          rotate_left
          · (intro w hSw; (try dsimp only at hSw); go_simp; try with_reducible rfl)
          try simp only [Act.put, List.setIfInBounds_toArray, List.set_cons_zero, List.set_cons_succ]
          refine wpAnyH_take (i := 1) (v := ?_) (by simp only [List.getElem?_toArray, List.getElem?_cons_succ, List.getElem?_cons_zero]; rfl) (by kernel_rfl) (by kernel_rfl) (by kernel_rfl) (by intro _ _ _ h; exact h) (Or.inl ⟨by rfl, ?_⟩) (by assumption) ?_
          rotate_left
          · (intro w hSw; (try dsimp only at hSw); go_simp; try with_reducible rfl)
          try simp only [Act.put, List.setIfInBounds_toArray, List.set_cons_zero, List.set_cons_succ]
          refine wpAnyH_take (i := 2) (v := ?_) (by simp only [List.getElem?_toArray, List.getElem?_cons_succ, List.getElem?_cons_zero]; rfl) (by kernel_rfl) (by kernel_rfl) (by kernel_rfl) (by intro _ _ _ h; exact h) (Or.inl ⟨by rfl, ?_⟩) (by assumption) ?_
          rotate_left
          · (intro w hSw; (try dsimp only at hSw); go_simp; try with_reducible rfl)
          try simp only [Act.put, List.setIfInBounds_toArray, List.set_cons_zero, List.set_cons_succ]
          refine wpAnyH_take (i := 3) (v := ?_) (by simp only [List.getElem?_toArray, List.getElem?_cons_succ, List.getElem?_cons_zero]; rfl) (by kernel_rfl) (by kernel_rfl) (by kernel_rfl) (by intro _ _ _ h; exact h) (Or.inl ⟨by rfl, ?_⟩) (by assumption) ?_
          rotate_left
          · (intro w hSw; (try dsimp only at hSw); go_simp; try with_reducible rfl)
          try simp only [Act.put, List.setIfInBounds_toArray, List.set_cons_zero, List.set_cons_succ]
          refine wpAnyH_take (i := 4) (v := ?_) (by simp only [List.getElem?_toArray, List.getElem?_cons_succ, List.getElem?_cons_zero]; rfl) (by kernel_rfl) (by kernel_rfl) (by kernel_rfl) (by intro _ _ _ h; exact h) (Or.inl ⟨by rfl, ?_⟩) (by assumption) ?_
          rotate_left
          · (intro w hSw; (try dsimp only at hSw); go_simp; try with_reducible rfl)
          try simp only [Act.put, List.setIfInBounds_toArray, List.set_cons_zero, List.set_cons_succ]
          refine wpAnyH_take (i := 5) (v := ?_) (by simp only [List.getElem?_toArray, List.getElem?_cons_succ, List.getElem?_cons_zero]; rfl) (by kernel_rfl) (by kernel_rfl) (by kernel_rfl) (by intro _ _ _ h; exact h) (Or.inl ⟨by rfl, ?_⟩) (by assumption) ?_
          rotate_left
          · (intro w hSw; (try dsimp only at hSw); go_simp; try with_reducible rfl)
          try simp only [Act.put, List.setIfInBounds_toArray, List.set_cons_zero, List.set_cons_succ]
          refine wpAnyH_take (i := 6) (v := ?_) (by simp only [List.getElem?_toArray, List.getElem?_cons_succ, List.getElem?_cons_zero]; rfl) (by kernel_rfl) (by kernel_rfl) (by kernel_rfl) (by intro _ _ _ h; exact h) (Or.inl ⟨by rfl, ?_⟩) (by assumption) ?_
          rotate_left
          · (intro w hSw; (try dsimp only at hSw); go_simp; try with_reducible rfl)
          try simp only [Act.put, List.setIfInBounds_toArray, List.set_cons_zero, List.set_cons_succ]
          refine wpAnyH_take (i := 8) (v := ?_) (by simp only [List.getElem?_toArray, List.getElem?_cons_succ, List.getElem?_cons_zero]; rfl) (by kernel_rfl) (by kernel_rfl) (by kernel_rfl) (by intro _ _ _ h; exact h) (Or.inl ⟨by rfl, ?_⟩) (by assumption) ?_
          rotate_left
          · (intro w hSw; (try dsimp only at hSw); go_simp; try with_reducible rfl)
          try simp only [Act.put, List.setIfInBounds_toArray, List.set_cons_zero, List.set_cons_succ]
          refine wpAnyH_take (i := 9) (v := ?_) (by simp only [List.getElem?_toArray, List.getElem?_cons_succ, List.getElem?_cons_zero]; rfl) (by kernel_rfl) (by kernel_rfl) (by kernel_rfl) (by intro _ _ _ h; exact h) (Or.inl ⟨by rfl, ?_⟩) (by assumption) ?_
          rotate_left
          · (intro w hSw; (try dsimp only at hSw); go_simp; try with_reducible rfl)
          try simp only [Act.put, List.setIfInBounds_toArray, List.set_cons_zero, List.set_cons_succ]
          refine wpAnyH_take (i := 10) (v := ?_) (by simp only [List.getElem?_toArray, List.getElem?_cons_succ, List.getElem?_cons_zero]; rfl) (by kernel_rfl) (by kernel_rfl) (by kernel_rfl) (by intro _ _ _ h; exact h) (Or.inl ⟨by rfl, ?_⟩) (by assumption) ?_
          rotate_left
          · (intro w hSw; (try dsimp only at hSw); go_simp; try with_reducible rfl)
          try simp only [Act.put, List.setIfInBounds_toArray, List.set_cons_zero, List.set_cons_succ]
          refine wpAnyH_take (i := 11) (v := ?_) (by simp only [List.getElem?_toArray, List.getElem?_cons_succ, List.getElem?_cons_zero]; rfl) (by kernel_rfl) (by kernel_rfl) (by kernel_rfl) (by intro _ _ _ h; exact h) (Or.inl ⟨by rfl, ?_⟩) (by assumption) ?_
          rotate_left
          · (intro w hSw; (try dsimp only at hSw); go_simp; try with_reducible rfl)
          try simp only [Act.put, List.setIfInBounds_toArray, List.set_cons_zero, List.set_cons_succ]
          refine wpAnyH_take (i := 12) (v := ?_) (by simp only [List.getElem?_toArray, List.getElem?_cons_succ, List.getElem?_cons_zero]; rfl) (by kernel_rfl) (by kernel_rfl) (by kernel_rfl) (by intro _ _ _ h; exact h) (Or.inl ⟨by rfl, ?_⟩) (by assumption) ?_
          rotate_left
          · (intro w hSw; (try dsimp only at hSw); go_simp; try with_reducible rfl)
          try simp only [Act.put, List.setIfInBounds_toArray, List.set_cons_zero, List.set_cons_succ]
          refine wpAnyH_take (i := 13) (v := ?_) (by simp only [List.getElem?_toArray, List.getElem?_cons_succ, List.getElem?_cons_zero]; rfl) (by kernel_rfl) (by kernel_rfl) (by kernel_rfl) (by intro _ _ _ h; exact h) (Or.inl ⟨by rfl, ?_⟩) (by assumption) ?_
          rotate_left
          · (intro w hSw; (try dsimp only at hSw); go_simp; try with_reducible rfl)
          try simp only [Act.put, List.setIfInBounds_toArray, List.set_cons_zero, List.set_cons_succ]
          refine wpAnyH_take (i := 14) (v := ?_) (by simp only [List.getElem?_toArray, List.getElem?_cons_succ, List.getElem?_cons_zero]; rfl) (by kernel_rfl) (by kernel_rfl) (by kernel_rfl) (by intro _ _ _ h; exact h) (Or.inl ⟨by rfl, ?_⟩) (by assumption) ?_
          rotate_left
          · (intro w hSw; (try dsimp only at hSw); go_simp; try with_reducible rfl)
          try simp only [Act.put, List.setIfInBounds_toArray, List.set_cons_zero, List.set_cons_succ]
          refine wpAnyH_ready (rs := [7]) (by kernel_rfl) (by simp) ?_
          refine AllReadyH.cons (by simp only [List.getElem?_toArray, List.getElem?_cons_succ, List.getElem?_cons_zero]; rfl) (fun K hK => ?_) AllReadyH.nil
          go_simp
          refine (HPUT.out WB.drew (HP8.out.below (Below.refl _ WB).drew)).mono ?_
          rintro e w2 ⟨rfl, hp2, hk2⟩
          have HP2 := Lib.hid hp2
          have hx2 := (hk2.block X hxl (fun h => by
            rcases h.2 _ _ _ hx with h | h
            · exact absurd h (by decide)
            · exact absurd h (by decide))).trans hx
          have y0 := cellk (i := 0) hx2 rfl
          have y1 := cellk (i := 1) hx2 rfl
          have y2 := cellk (i := 2) hx2 rfl
          have y3 := cellk (i := 3) hx2 rfl
          clear hp2 hk2
          refine hK.out _ _ ⟨y0, y1, y2, y3⟩ (fun hHeld => ?_)
          clear hK K
          try simp only [Act.put, List.setIfInBounds_toArray, List.set_cons_zero, List.set_cons_succ]
          refine wpAnyH_ready (rs := [15]) (by kernel_rfl) (by simp) ?_
          refine AllReadyH.cons (by simp only [List.getElem?_toArray, List.getElem?_cons_succ, List.getElem?_cons_zero]; rfl) (fun K hK => ?_) AllReadyH.nil
          go_simp
          refine (HRPUT.out w2 _ HP2.out).mono ?_
          rintro e w3 ⟨rfl, hp3, hk3⟩
          have HP3 := Lib.hid hp3
          have hx3 := (hk3.block X (lt_of_block hx2) (fun h => HXBR.out h)).trans hx2
          have z0 := cellk (i := 0) hx3 rfl
          have z1 := cellk (i := 1) hx3 rfl
          have z2 := cellk (i := 2) hx3 rfl
          have z3 := cellk (i := 3) hx3 rfl
          clear hp3 hk3 hx2
          refine hK.out _ _ ⟨z0, z1, z2, z3⟩ (fun hHeld => ?_)
          clear hK K
          try simp only [Act.put, List.setIfInBounds_toArray, List.set_cons_zero, List.set_cons_succ]
          refine wpAnyH_take (i := 16) (v := ?_) (by simp only [List.getElem?_toArray, List.getElem?_cons_succ, List.getElem?_cons_zero]; rfl) (by kernel_rfl) (by kernel_rfl) (by kernel_rfl) (by intro _ _ _ h; exact h) (Or.inl ⟨by rfl, ?_⟩) (by assumption) ?_
          rotate_left
          · (intro w hSw; (try dsimp only at hSw); go_simp; try with_reducible rfl)
          try simp only [Act.put, List.setIfInBounds_toArray, List.set_cons_zero, List.set_cons_succ]
          refine wpAnyH_done (by kernel_rfl) ?_ _
          have HPL : Hid (Pl2 w w3 b br L L) := HP3
          have HIN := HPI
          obtain ⟨WX, hWX⟩ : ∃ WX, WX = w3 := ⟨_, rfl⟩
          subst hWX
          clear x0 x1 x2 x3 y0 y1 y2 y3 z0 z1 z2 z3 hx hx3 hxl HP8 HP2 HP3 HPUT HRPUT HPI
          go_wp2_with fail
          obtain ⟨⟨vt, hvt⟩, hgb, ⟨vr, ps, hro, hps⟩, hgr, hbl⟩ := HPL.out
          have hpl : ps.length = L.length := by rw [← hps]; simp
          obtain ⟨ovr, cvr, rfl⟩ := own_slice hro.own.row
          have hin := HIN.out
          have hb8 : ∀ s ∈ L, s.rp.length ≤ 1000000 := fun s hs => by have := (hin.pos s hs).2.2; omega
          obtain ⟨sb, hsb⟩ : ∃ sb, sb = saveB L := ⟨_, rfl⟩
          have HSV : Hid (∀ W, Below WX.heap.size WX W → Calls Try.prog 16 #[.pointer (some ⟨_, 0, none⟩)] W fun e w' => ∃ v', e = .returned v' ∧ Own w' W.heap.size v' sb ∧ Below W.heap.size W w') := Lib.hid (fun W hW => by rw [hsb]; exact save_any W (hvt.below hW) (by have := hin.len; omega) hin.wrd hb8)
          have HRS : Hid (∀ W, Below WX.heap.size WX W → Calls Try.prog 18 #[.pointer (some ⟨br, 0, none⟩)] W fun e w' => ∃ v', e = .returned v' ∧ Own w' W.heap.size v' sb ∧ Below W.heap.size W w') := Lib.hid (fun W hW => by
            have h := rsave_any W (hro.below hW).rt (by have := hin.len; omega) (by rw [hps]; exact hin.wrd) (by rw [hps]; exact hb8)
            rw [hps, ← hsb] at h
            exact h)
          have HLN : Hid (∀ W, Below WX.heap.size WX W → Calls Try.prog 17 #[.pointer (some ⟨_, 0, none⟩)] W fun e w' => e = .returned (.int .i64 (ps.length : Int)) ∧ W = w') := Lib.hid (fun W hW => by have h := tlen_any W (hvt.below hW); rw [← hpl] at h; exact h)
          have HCR : Hid (∀ W, Below WX.heap.size WX W → W.cell? ⟨br, 0, none⟩ = some (.slice ovr ps.length cvr)) := Lib.hid (fun W hW => cell_of_one (hro.below hW).cell)
          have hpp : (sb == sb) = true := by simp
          have hpn : (sb != sb) = false := by simp
          generalize hpsl : ps.length = np at *
          have hnn : ((np : Int) != (np : Int)) = false := by simp
          have hne : ((np : Int) == (np : Int)) = true := by simp
          clear hvt hgb hro hps hgr hbl hpl hin hb8 hsb hpsl
          refine wp_region_held_drew (S := fun w' => w'.cell? ⟨br, 0, none⟩ = some (.slice ovr np cvr)) (by kernel_rfl) (HCR.out _ (Below.refl _ WX).drew) ?_
          intro hHeld
          refine wpAnyH_take (i := 0) (v := ?_) (by simp only [List.getElem?_toArray, List.getElem?_cons_zero]; rfl) (by kernel_rfl) (by kernel_rfl) (by kernel_rfl) (by intro _ _ _ h; exact h) (Or.inl ⟨by rfl, ?_⟩) (by assumption) ?_
          rotate_left
          · (intro w hSw; (try dsimp only at hSw); go_simp; try with_reducible rfl)
          try simp only [Act.put, List.setIfInBounds_toArray, List.set_cons_zero, List.set_cons_succ]
          refine wpAnyH_take (i := 2) (v := ?_) (by simp only [List.getElem?_toArray, List.getElem?_cons_succ, List.getElem?_cons_zero]; rfl) (by kernel_rfl) (by kernel_rfl) (by kernel_rfl) (by intro _ _ _ h; exact h) (Or.inl ⟨by rfl, ?_⟩) (by assumption) ?_
          rotate_left
          · (intro w hSw; (try dsimp only at hSw); go_simp; try with_reducible rfl)
          try simp only [Act.put, List.setIfInBounds_toArray, List.set_cons_zero, List.set_cons_succ]
          refine wpAnyH_take (i := 3) (v := ?_) (by simp only [List.getElem?_toArray, List.getElem?_cons_succ, List.getElem?_cons_zero]; rfl) (by kernel_rfl) (by kernel_rfl) (by kernel_rfl) (by intro _ _ _ h; exact h) (Or.inl ⟨by rfl, ?_⟩) (by assumption) ?_
          rotate_left
          · (intro w hSw; (try dsimp only at hSw); go_simp; try with_reducible rfl)
          try simp only [Act.put, List.setIfInBounds_toArray, List.set_cons_zero, List.set_cons_succ]
          refine wpAnyH_take (i := 4) (v := ?_) (by simp only [List.getElem?_toArray, List.getElem?_cons_succ, List.getElem?_cons_zero]; rfl) (by kernel_rfl) (by kernel_rfl) (by kernel_rfl) (by intro _ _ _ h; exact h) (Or.inl ⟨by rfl, ?_⟩) (by assumption) ?_
          rotate_left
          · (intro w hSw; (try dsimp only at hSw); go_simp; try with_reducible rfl)
          try simp only [Act.put, List.setIfInBounds_toArray, List.set_cons_zero, List.set_cons_succ]
          refine wpAnyH_take (i := 5) (v := ?_) (by simp only [List.getElem?_toArray, List.getElem?_cons_succ, List.getElem?_cons_zero]; rfl) (by kernel_rfl) (by kernel_rfl) (by kernel_rfl) (by intro _ _ _ h; exact h) (Or.inl ⟨by rfl, ?_⟩) (by assumption) ?_
          rotate_left
          · (intro w hSw; (try dsimp only at hSw); go_simp; try with_reducible rfl)
          try simp only [Act.put, List.setIfInBounds_toArray, List.set_cons_zero, List.set_cons_succ]
          refine wpAnyH_take (i := 6) (v := ?_) (by simp only [List.getElem?_toArray, List.getElem?_cons_succ, List.getElem?_cons_zero]; rfl) (by kernel_rfl) (by kernel_rfl) (by kernel_rfl) (by intro _ _ _ h; exact h) (Or.inl ⟨by rfl, ?_⟩) (by assumption) ?_
          rotate_left
          · (intro w hSw; (try dsimp only at hSw); go_simp; try with_reducible rfl)
          try simp only [Act.put, List.setIfInBounds_toArray, List.set_cons_zero, List.set_cons_succ]
          refine wpAnyH_ready (rs := [1]) (by kernel_rfl) (by simp) ?_
          refine AllReadyH.cons (by simp only [List.getElem?_toArray, List.getElem?_cons_succ, List.getElem?_cons_zero]; rfl) (fun K hK => ?_) AllReadyH.nil
          go_simp
          refine (HLN.out WX.drew (Below.refl _ WX).drew).mono ?_
          rintro e w9 ⟨rfl, hw9⟩
          subst hw9
          refine hK.out _ _ (HCR.out _ (Below.refl _ WX).drew) (fun hHeld => ?_)
          clear hK K
          try simp only [Act.put, List.setIfInBounds_toArray, List.set_cons_zero, List.set_cons_succ]
          refine wpAnyH_take (i := 7) (v := ?_) (by simp only [List.getElem?_toArray, List.getElem?_cons_succ, List.getElem?_cons_zero]; rfl) (by kernel_rfl) (by kernel_rfl) (by kernel_rfl) (by intro _ _ _ h; exact h) (Or.inl ⟨by rfl, ?_⟩) (by assumption) ?_
          rotate_left
          · (intro w hSw; (try dsimp only at hSw); go_simp; try with_reducible rfl)
          try simp only [Act.put, List.setIfInBounds_toArray, List.set_cons_zero, List.set_cons_succ]
          refine wpAnyH_take (i := 8) (v := ?_) (by simp only [List.getElem?_toArray, List.getElem?_cons_succ, List.getElem?_cons_zero]; rfl) (by kernel_rfl) (by kernel_rfl) (by kernel_rfl) (by intro _ _ _ h; exact h) (Or.inl ⟨by rfl, ?_⟩) (by assumption) ?_
          rotate_left
          · (intro w hSw; (try dsimp only at hSw); go_simp; try with_reducible rfl)
          try simp only [Act.put, List.setIfInBounds_toArray, List.set_cons_zero, List.set_cons_succ]
          refine wpAnyH_take (i := 9) (v := ?_) (by simp only [List.getElem?_toArray, List.getElem?_cons_succ, List.getElem?_cons_zero]; rfl) (by kernel_rfl) (by kernel_rfl) (by kernel_rfl) (by intro _ _ _ h; exact h) (Or.inl ⟨by rfl, ?_⟩) (by assumption) ?_
          rotate_left
          · (intro w hSw; (try dsimp only at hSw); go_simp; try with_reducible rfl)
          try simp only [Act.put, List.setIfInBounds_toArray, List.set_cons_zero, List.set_cons_succ]
          refine wpAnyH_take (i := 12) (v := ?_) (by simp only [List.getElem?_toArray, List.getElem?_cons_succ, List.getElem?_cons_zero]; rfl) (by kernel_rfl) (by kernel_rfl) (by kernel_rfl) (by intro _ _ _ h; exact h) (Or.inl ⟨by rfl, ?_⟩) (by assumption) ?_
          rotate_left
          · (intro w hSw; (try dsimp only at hSw); go_simp; try with_reducible rfl)
          try simp only [Act.put, List.setIfInBounds_toArray, List.set_cons_zero, List.set_cons_succ]
          refine wpAnyH_ready (rs := [10]) (by kernel_rfl) (by simp) ?_
          refine AllReadyH.cons (by simp only [List.getElem?_toArray, List.getElem?_cons_succ, List.getElem?_cons_zero]; rfl) (fun K hK => ?_) AllReadyH.nil
          go_simp
          refine (HSV.out WX.drew (Below.refl _ WX).drew).mono ?_
          rintro e w4 ⟨v4, rfl, ho4, hb4⟩
          obtain ⟨o4, c4, rfl⟩ := own_slice ho4
          have hc4 : Below WX.heap.size WX w4 := (Below.refl _ WX).drew.trans hb4
          have q4 := HCR.out w4 hc4
          have t5 : (convert 31 9 (.slice o4 sb.length c4)).run Try.prog w4 = .ok (.string ⟨sb.toArray⟩) w4 := textS ho4
          clear hb4
          refine hK.out _ _ q4 (fun hHeld => ?_)
          clear hK K
          try simp only [Act.put, List.setIfInBounds_toArray, List.set_cons_zero, List.set_cons_succ]
          refine wpAnyH_ready (rs := [11, 13]) (by kernel_rfl) (by simp) ?_
          refine AllReadyH.cons (by simp only [List.getElem?_toArray, List.getElem?_cons_succ, List.getElem?_cons_zero]; rfl) (fun K hK => ?_) ?_
          · go_simp
            refine hK.out _ _ q4 (fun hHeld => ?_)
            clear hK K
            try simp only [Act.put, List.setIfInBounds_toArray, List.set_cons_zero, List.set_cons_succ]
            refine wpAnyH_ready (rs := [13]) (by kernel_rfl) (by simp) ?_
            refine AllReadyH.cons (by simp only [List.getElem?_toArray, List.getElem?_cons_succ, List.getElem?_cons_zero]; rfl) (fun K hK => ?_) AllReadyH.nil
            go_simp
            refine (HRS.out w4 hc4).mono ?_
            rintro e w5 ⟨v5, rfl, ho5, hb5⟩
            obtain ⟨o5, c5, rfl⟩ := own_slice ho5
            have hc5 := hc4.trans (hb5.mono hc4.size)
            have q5 := HCR.out w5 hc5
            have t5 : (convert 31 9 (.slice o4 sb.length c4)).run Try.prog w5 = .ok (.string ⟨sb.toArray⟩) w5 := textS (own_below ho4 hb5 (Nat.le_refl _))
            have t8 : (convert 31 9 (.slice o5 sb.length c5)).run Try.prog w5 = .ok (.string ⟨sb.toArray⟩) w5 := textS ho5
            clear hb5
            refine hK.out _ _ q5 (fun hHeld => ?_)
            clear hK K
            try simp only [Act.put, List.setIfInBounds_toArray, List.set_cons_zero, List.set_cons_succ]
            refine wpAnyH_ready (rs := [14]) (by kernel_rfl) (by simp) ?_
            refine AllReadyH.cons (by simp only [List.getElem?_toArray, List.getElem?_cons_succ, List.getElem?_cons_zero]; rfl) (fun K hK => ?_) AllReadyH.nil
            go_simp
            refine hK.out _ _ q5 (fun hHeld => ?_)
            clear hK K
            try simp only [Act.put, List.setIfInBounds_toArray, List.set_cons_zero, List.set_cons_succ]
            refine wpAnyH_take (i := 15) (v := ?_) (by simp only [List.getElem?_toArray, List.getElem?_cons_succ, List.getElem?_cons_zero]; rfl) (by kernel_rfl) (by kernel_rfl) (by kernel_rfl) (by intro _ _ _ h; exact h) (Or.inl ⟨by rfl, ?_⟩) (by assumption) ?_
            rotate_left
            · (intro w hSw; (try dsimp only at hSw); go_simp; try with_reducible rfl)
            try simp only [Act.put, List.setIfInBounds_toArray, List.set_cons_zero, List.set_cons_succ]
            refine wpAnyH_take (i := 16) (v := ?_) (by simp only [List.getElem?_toArray, List.getElem?_cons_succ, List.getElem?_cons_zero]; rfl) (by kernel_rfl) (by kernel_rfl) (by kernel_rfl) (by intro _ _ _ h; exact h) (Or.inl ⟨by rfl, ?_⟩) (by assumption) ?_
            rotate_left
            · (intro w hSw; (try dsimp only at hSw); go_simp; try with_reducible rfl)
            try simp only [Act.put, List.setIfInBounds_toArray, List.set_cons_zero, List.set_cons_succ]
            refine wpAnyH_done (by kernel_rfl) ?_ _
            have HP5 := Lib.hid (HPL.out.below hc5)
            clear t5 t8 q4 q5 ho4 ho5
            go_wp2_with fail
            go_roundw
            case rel => exact ⟨i + 1, _, L, by omega, by omega, rfl, by go_num, HP5, HIN⟩
            case measure => simp [intOf]; omega
          · refine AllReadyH.cons (by simp only [List.getElem?_toArray, List.getElem?_cons_succ, List.getElem?_cons_zero]; rfl) (fun K hK => ?_) AllReadyH.nil
            go_simp
            refine (HRS.out w4 hc4).mono ?_
            rintro e w5 ⟨v5, rfl, ho5, hb5⟩
            obtain ⟨o5, c5, rfl⟩ := own_slice ho5
            have hc5 := hc4.trans (hb5.mono hc4.size)
            have q5 := HCR.out w5 hc5
            have t5 : (convert 31 9 (.slice o4 sb.length c4)).run Try.prog w5 = .ok (.string ⟨sb.toArray⟩) w5 := textS (own_below ho4 hb5 (Nat.le_refl _))
            have t8 : (convert 31 9 (.slice o5 sb.length c5)).run Try.prog w5 = .ok (.string ⟨sb.toArray⟩) w5 := textS ho5
            clear hb5
            refine hK.out _ _ q5 (fun hHeld => ?_)
            clear hK K
            try simp only [Act.put, List.setIfInBounds_toArray, List.set_cons_zero, List.set_cons_succ]
            refine wpAnyH_ready (rs := [11, 14]) (by kernel_rfl) (by simp) ?_
            refine AllReadyH.cons (by simp only [List.getElem?_toArray, List.getElem?_cons_succ, List.getElem?_cons_zero]; rfl) (fun K hK => ?_) ?_
            · go_simp
              refine hK.out _ _ q5 (fun hHeld => ?_)
              clear hK K
              try simp only [Act.put, List.setIfInBounds_toArray, List.set_cons_zero, List.set_cons_succ]
              refine wpAnyH_ready (rs := [14]) (by kernel_rfl) (by simp) ?_
              refine AllReadyH.cons (by simp only [List.getElem?_toArray, List.getElem?_cons_succ, List.getElem?_cons_zero]; rfl) (fun K hK => ?_) AllReadyH.nil
              go_simp
              refine hK.out _ _ q5 (fun hHeld => ?_)
              clear hK K
              try simp only [Act.put, List.setIfInBounds_toArray, List.set_cons_zero, List.set_cons_succ]
              refine wpAnyH_take (i := 15) (v := ?_) (by simp only [List.getElem?_toArray, List.getElem?_cons_succ, List.getElem?_cons_zero]; rfl) (by kernel_rfl) (by kernel_rfl) (by kernel_rfl) (by intro _ _ _ h; exact h) (Or.inl ⟨by rfl, ?_⟩) (by assumption) ?_
              rotate_left
              · (intro w hSw; (try dsimp only at hSw); go_simp; try with_reducible rfl)
              try simp only [Act.put, List.setIfInBounds_toArray, List.set_cons_zero, List.set_cons_succ]
              refine wpAnyH_take (i := 16) (v := ?_) (by simp only [List.getElem?_toArray, List.getElem?_cons_succ, List.getElem?_cons_zero]; rfl) (by kernel_rfl) (by kernel_rfl) (by kernel_rfl) (by intro _ _ _ h; exact h) (Or.inl ⟨by rfl, ?_⟩) (by assumption) ?_
              rotate_left
              · (intro w hSw; (try dsimp only at hSw); go_simp; try with_reducible rfl)
              try simp only [Act.put, List.setIfInBounds_toArray, List.set_cons_zero, List.set_cons_succ]
              refine wpAnyH_done (by kernel_rfl) ?_ _
              have HP5 := Lib.hid (HPL.out.below hc5)
              clear t5 t8 q4 q5 ho4 ho5
              go_wp2_with fail
              go_roundw
              case rel => exact ⟨i + 1, _, L, by omega, by omega, rfl, by go_num, HP5, HIN⟩
              case measure => simp [intOf]; omega
            · refine AllReadyH.cons (by simp only [List.getElem?_toArray, List.getElem?_cons_succ, List.getElem?_cons_zero]; rfl) (fun K hK => ?_) AllReadyH.nil
              go_simp
              refine hK.out _ _ q5 (fun hHeld => ?_)
              clear hK K
              try simp only [Act.put, List.setIfInBounds_toArray, List.set_cons_zero, List.set_cons_succ]
              refine wpAnyH_ready (rs := [11]) (by kernel_rfl) (by simp) ?_
              refine AllReadyH.cons (by simp only [List.getElem?_toArray, List.getElem?_cons_succ, List.getElem?_cons_zero]; rfl) (fun K hK => ?_) AllReadyH.nil
              go_simp
              refine hK.out _ _ q5 (fun hHeld => ?_)
              clear hK K
              try simp only [Act.put, List.setIfInBounds_toArray, List.set_cons_zero, List.set_cons_succ]
              refine wpAnyH_take (i := 15) (v := ?_) (by simp only [List.getElem?_toArray, List.getElem?_cons_succ, List.getElem?_cons_zero]; rfl) (by kernel_rfl) (by kernel_rfl) (by kernel_rfl) (by intro _ _ _ h; exact h) (Or.inl ⟨by rfl, ?_⟩) (by assumption) ?_
              rotate_left
              · (intro w hSw; (try dsimp only at hSw); go_simp; try with_reducible rfl)
              try simp only [Act.put, List.setIfInBounds_toArray, List.set_cons_zero, List.set_cons_succ]
              refine wpAnyH_take (i := 16) (v := ?_) (by simp only [List.getElem?_toArray, List.getElem?_cons_succ, List.getElem?_cons_zero]; rfl) (by kernel_rfl) (by kernel_rfl) (by kernel_rfl) (by intro _ _ _ h; exact h) (Or.inl ⟨by rfl, ?_⟩) (by assumption) ?_
              rotate_left
              · (intro w hSw; (try dsimp only at hSw); go_simp; try with_reducible rfl)
              try simp only [Act.put, List.setIfInBounds_toArray, List.set_cons_zero, List.set_cons_succ]
              refine wpAnyH_done (by kernel_rfl) ?_ _
              have HP5 := Lib.hid (HPL.out.below hc5)
              clear t5 t8 q4 q5 ho4 ho5
              go_wp2_with fail
              go_roundw
              case rel => exact ⟨i + 1, _, L, by omega, by omega, rfl, by go_num, HP5, HIN⟩
              case measure => simp [intOf]; omega
        · skip
          have s0 : (ak % 5 == 0) = false := by rw [beq_eq_false_iff_ne, hk5]; decide
          have s1 : (ak % 5 == 1) = false := by rw [beq_eq_false_iff_ne, hk5]; decide
          have s2 : (ak % 5 == 2) = false := by rw [beq_eq_false_iff_ne, hk5]; decide
          have s3 : (ak % 5 == 3) = true := by rw [beq_iff_eq, hk5]
          clear hk5
          have hin0 := HI.out
          obtain ⟨⟨vt, hvt⟩, _, ⟨vr, qs, hro, hqs⟩, _, _⟩ := HP8.out
          have HASK := Lib.hid (ask_any id nm WB hvt (by have := hin0.len; omega) hin0.ris (fun s hs => by have := (hin0.pos s hs).2.2; omega))
          have HRASK := Lib.hid (fun (W : World) (hW : Below WB.heap.size WB W) => rask_any id nm W (hro.below hW).rt (by have h9 := hin0.len; rw [← hqs] at h9; simp at h9; omega) (by rw [hqs]; exact hin0.ris))
          rw [hqs] at HRASK
          generalize (askS l id nm) = ar at *
          obtain ⟨code, bs⟩ := ar
          have hcc : (code != code) = false := by simp
          have hcd : (code == code) = true := by simp
          have hpp : (bs == bs) = true := by simp
          have hpn : (bs != bs) = false := by simp
          clear hin0 hvt hro hqs
          go_wp2_with fail
          refine HASK.out.mono ?_
          rintro e w2 ⟨v7, rfl, ho7, hb7⟩
          dsimp only at ho7
          obtain ⟨o7, c7, rfl⟩ := own_slice ho7
          have HO7 := Lib.hid ho7
          have hx2 := (hb7.block X hxl).trans hx
          have y1 := cellk (i := 1) hx2 rfl
          have y2 := cellk (i := 2) hx2 rfl
          have HPL := Lib.hid (HP8.out.below hb7)
          have HRA2 := Lib.hid (HRASK.out w2 hb7)
          clear ho7 hb7 HASK HRASK x0 x1 x2 x3
          go_wp2_with fail
          refine HRA2.out.mono ?_
          rintro e w9 ⟨o9, c9, rfl, hr9, hw9⟩
          subst hw9
          dsimp only at hr9
          have t7 : (convert 31 9 (.slice o7 bs.length c7)).run Try.prog w2 = .ok (.string ⟨bs.toArray⟩) w2 := textS HO7.out
          have t9 : (convert 31 9 (.slice o9 bs.length c9)).run Try.prog w2 = .ok (.string ⟨bs.toArray⟩) w2 := toStr hr9
          have HIN := HI
          obtain ⟨WX, hWX⟩ : ∃ WX, WX = w2 := ⟨_, rfl⟩
          obtain ⟨L, hL⟩ : ∃ L, L = l := ⟨_, rfl⟩
          subst hWX hL
          clear hr9 HRA2 hx hx2 hxl y1 y2 HP8 HPUT HRPUT HPI HO7
          go_wp2_with fail
          obtain ⟨⟨vt, hvt⟩, hgb, ⟨vr, ps, hro, hps⟩, hgr, hbl⟩ := HPL.out
          have hpl : ps.length = L.length := by rw [← hps]; simp
          obtain ⟨ovr, cvr, rfl⟩ := own_slice hro.own.row
          have hin := HIN.out
          have hb8 : ∀ s ∈ L, s.rp.length ≤ 1000000 := fun s hs => by have := (hin.pos s hs).2.2; omega
          obtain ⟨sb, hsb⟩ : ∃ sb, sb = saveB L := ⟨_, rfl⟩
          have HSV : Hid (∀ W, Below WX.heap.size WX W → Calls Try.prog 16 #[.pointer (some ⟨_, 0, none⟩)] W fun e w' => ∃ v', e = .returned v' ∧ Own w' W.heap.size v' sb ∧ Below W.heap.size W w') := Lib.hid (fun W hW => by rw [hsb]; exact save_any W (hvt.below hW) (by have := hin.len; omega) hin.wrd hb8)
          have HRS : Hid (∀ W, Below WX.heap.size WX W → Calls Try.prog 18 #[.pointer (some ⟨br, 0, none⟩)] W fun e w' => ∃ v', e = .returned v' ∧ Own w' W.heap.size v' sb ∧ Below W.heap.size W w') := Lib.hid (fun W hW => by
            have h := rsave_any W (hro.below hW).rt (by have := hin.len; omega) (by rw [hps]; exact hin.wrd) (by rw [hps]; exact hb8)
            rw [hps, ← hsb] at h
            exact h)
          have HLN : Hid (∀ W, Below WX.heap.size WX W → Calls Try.prog 17 #[.pointer (some ⟨_, 0, none⟩)] W fun e w' => e = .returned (.int .i64 (ps.length : Int)) ∧ W = w') := Lib.hid (fun W hW => by have h := tlen_any W (hvt.below hW); rw [← hpl] at h; exact h)
          have HCR : Hid (∀ W, Below WX.heap.size WX W → W.cell? ⟨br, 0, none⟩ = some (.slice ovr ps.length cvr)) := Lib.hid (fun W hW => cell_of_one (hro.below hW).cell)
          have hpp : (sb == sb) = true := by simp
          have hpn : (sb != sb) = false := by simp
          generalize hpsl : ps.length = np at *
          have hnn : ((np : Int) != (np : Int)) = false := by simp
          have hne : ((np : Int) == (np : Int)) = true := by simp
          clear hvt hgb hro hps hgr hbl hpl hin hb8 hsb hpsl
          refine wp_region_held_drew (S := fun w' => w'.cell? ⟨br, 0, none⟩ = some (.slice ovr np cvr)) (by kernel_rfl) (HCR.out _ (Below.refl _ WX).drew) ?_
          intro hHeld
          refine wpAnyH_take (i := 0) (v := ?_) (by simp only [List.getElem?_toArray, List.getElem?_cons_zero]; rfl) (by kernel_rfl) (by kernel_rfl) (by kernel_rfl) (by intro _ _ _ h; exact h) (Or.inl ⟨by rfl, ?_⟩) (by assumption) ?_
          rotate_left
          · (intro w hSw; (try dsimp only at hSw); go_simp; try with_reducible rfl)
          try simp only [Act.put, List.setIfInBounds_toArray, List.set_cons_zero, List.set_cons_succ]
          refine wpAnyH_take (i := 2) (v := ?_) (by simp only [List.getElem?_toArray, List.getElem?_cons_succ, List.getElem?_cons_zero]; rfl) (by kernel_rfl) (by kernel_rfl) (by kernel_rfl) (by intro _ _ _ h; exact h) (Or.inl ⟨by rfl, ?_⟩) (by assumption) ?_
          rotate_left
          · (intro w hSw; (try dsimp only at hSw); go_simp; try with_reducible rfl)
          try simp only [Act.put, List.setIfInBounds_toArray, List.set_cons_zero, List.set_cons_succ]
          refine wpAnyH_take (i := 3) (v := ?_) (by simp only [List.getElem?_toArray, List.getElem?_cons_succ, List.getElem?_cons_zero]; rfl) (by kernel_rfl) (by kernel_rfl) (by kernel_rfl) (by intro _ _ _ h; exact h) (Or.inl ⟨by rfl, ?_⟩) (by assumption) ?_
          rotate_left
          · (intro w hSw; (try dsimp only at hSw); go_simp; try with_reducible rfl)
          try simp only [Act.put, List.setIfInBounds_toArray, List.set_cons_zero, List.set_cons_succ]
          refine wpAnyH_take (i := 4) (v := ?_) (by simp only [List.getElem?_toArray, List.getElem?_cons_succ, List.getElem?_cons_zero]; rfl) (by kernel_rfl) (by kernel_rfl) (by kernel_rfl) (by intro _ _ _ h; exact h) (Or.inl ⟨by rfl, ?_⟩) (by assumption) ?_
          rotate_left
          · (intro w hSw; (try dsimp only at hSw); go_simp; try with_reducible rfl)
          try simp only [Act.put, List.setIfInBounds_toArray, List.set_cons_zero, List.set_cons_succ]
          refine wpAnyH_take (i := 5) (v := ?_) (by simp only [List.getElem?_toArray, List.getElem?_cons_succ, List.getElem?_cons_zero]; rfl) (by kernel_rfl) (by kernel_rfl) (by kernel_rfl) (by intro _ _ _ h; exact h) (Or.inl ⟨by rfl, ?_⟩) (by assumption) ?_
          rotate_left
          · (intro w hSw; (try dsimp only at hSw); go_simp; try with_reducible rfl)
          try simp only [Act.put, List.setIfInBounds_toArray, List.set_cons_zero, List.set_cons_succ]
          refine wpAnyH_take (i := 6) (v := ?_) (by simp only [List.getElem?_toArray, List.getElem?_cons_succ, List.getElem?_cons_zero]; rfl) (by kernel_rfl) (by kernel_rfl) (by kernel_rfl) (by intro _ _ _ h; exact h) (Or.inl ⟨by rfl, ?_⟩) (by assumption) ?_
          rotate_left
          · (intro w hSw; (try dsimp only at hSw); go_simp; try with_reducible rfl)
          try simp only [Act.put, List.setIfInBounds_toArray, List.set_cons_zero, List.set_cons_succ]
          refine wpAnyH_ready (rs := [1]) (by kernel_rfl) (by simp) ?_
          refine AllReadyH.cons (by simp only [List.getElem?_toArray, List.getElem?_cons_succ, List.getElem?_cons_zero]; rfl) (fun K hK => ?_) AllReadyH.nil
          go_simp
          refine (HLN.out WX.drew (Below.refl _ WX).drew).mono ?_
          rintro e w9 ⟨rfl, hw9⟩
          subst hw9
          refine hK.out _ _ (HCR.out _ (Below.refl _ WX).drew) (fun hHeld => ?_)
          clear hK K
          try simp only [Act.put, List.setIfInBounds_toArray, List.set_cons_zero, List.set_cons_succ]
          refine wpAnyH_take (i := 7) (v := ?_) (by simp only [List.getElem?_toArray, List.getElem?_cons_succ, List.getElem?_cons_zero]; rfl) (by kernel_rfl) (by kernel_rfl) (by kernel_rfl) (by intro _ _ _ h; exact h) (Or.inl ⟨by rfl, ?_⟩) (by assumption) ?_
          rotate_left
          · (intro w hSw; (try dsimp only at hSw); go_simp; try with_reducible rfl)
          try simp only [Act.put, List.setIfInBounds_toArray, List.set_cons_zero, List.set_cons_succ]
          refine wpAnyH_take (i := 8) (v := ?_) (by simp only [List.getElem?_toArray, List.getElem?_cons_succ, List.getElem?_cons_zero]; rfl) (by kernel_rfl) (by kernel_rfl) (by kernel_rfl) (by intro _ _ _ h; exact h) (Or.inl ⟨by rfl, ?_⟩) (by assumption) ?_
          rotate_left
          · (intro w hSw; (try dsimp only at hSw); go_simp; try with_reducible rfl)
          try simp only [Act.put, List.setIfInBounds_toArray, List.set_cons_zero, List.set_cons_succ]
          refine wpAnyH_take (i := 9) (v := ?_) (by simp only [List.getElem?_toArray, List.getElem?_cons_succ, List.getElem?_cons_zero]; rfl) (by kernel_rfl) (by kernel_rfl) (by kernel_rfl) (by intro _ _ _ h; exact h) (Or.inl ⟨by rfl, ?_⟩) (by assumption) ?_
          rotate_left
          · (intro w hSw; (try dsimp only at hSw); go_simp; try with_reducible rfl)
          try simp only [Act.put, List.setIfInBounds_toArray, List.set_cons_zero, List.set_cons_succ]
          refine wpAnyH_take (i := 12) (v := ?_) (by simp only [List.getElem?_toArray, List.getElem?_cons_succ, List.getElem?_cons_zero]; rfl) (by kernel_rfl) (by kernel_rfl) (by kernel_rfl) (by intro _ _ _ h; exact h) (Or.inl ⟨by rfl, ?_⟩) (by assumption) ?_
          rotate_left
          · (intro w hSw; (try dsimp only at hSw); go_simp; try with_reducible rfl)
          try simp only [Act.put, List.setIfInBounds_toArray, List.set_cons_zero, List.set_cons_succ]
          refine wpAnyH_ready (rs := [10]) (by kernel_rfl) (by simp) ?_
          refine AllReadyH.cons (by simp only [List.getElem?_toArray, List.getElem?_cons_succ, List.getElem?_cons_zero]; rfl) (fun K hK => ?_) AllReadyH.nil
          go_simp
          refine (HSV.out WX.drew (Below.refl _ WX).drew).mono ?_
          rintro e w4 ⟨v4, rfl, ho4, hb4⟩
          obtain ⟨o4, c4, rfl⟩ := own_slice ho4
          have hc4 : Below WX.heap.size WX w4 := (Below.refl _ WX).drew.trans hb4
          have q4 := HCR.out w4 hc4
          have t5 : (convert 31 9 (.slice o4 sb.length c4)).run Try.prog w4 = .ok (.string ⟨sb.toArray⟩) w4 := textS ho4
          clear hb4
          refine hK.out _ _ q4 (fun hHeld => ?_)
          clear hK K
          try simp only [Act.put, List.setIfInBounds_toArray, List.set_cons_zero, List.set_cons_succ]
          refine wpAnyH_ready (rs := [11, 13]) (by kernel_rfl) (by simp) ?_
          refine AllReadyH.cons (by simp only [List.getElem?_toArray, List.getElem?_cons_succ, List.getElem?_cons_zero]; rfl) (fun K hK => ?_) ?_
          · go_simp
            refine hK.out _ _ q4 (fun hHeld => ?_)
            clear hK K
            try simp only [Act.put, List.setIfInBounds_toArray, List.set_cons_zero, List.set_cons_succ]
            refine wpAnyH_ready (rs := [13]) (by kernel_rfl) (by simp) ?_
            refine AllReadyH.cons (by simp only [List.getElem?_toArray, List.getElem?_cons_succ, List.getElem?_cons_zero]; rfl) (fun K hK => ?_) AllReadyH.nil
            go_simp
            refine (HRS.out w4 hc4).mono ?_
            rintro e w5 ⟨v5, rfl, ho5, hb5⟩
            obtain ⟨o5, c5, rfl⟩ := own_slice ho5
            have hc5 := hc4.trans (hb5.mono hc4.size)
            have q5 := HCR.out w5 hc5
            have t5 : (convert 31 9 (.slice o4 sb.length c4)).run Try.prog w5 = .ok (.string ⟨sb.toArray⟩) w5 := textS (own_below ho4 hb5 (Nat.le_refl _))
            have t8 : (convert 31 9 (.slice o5 sb.length c5)).run Try.prog w5 = .ok (.string ⟨sb.toArray⟩) w5 := textS ho5
            clear hb5
            refine hK.out _ _ q5 (fun hHeld => ?_)
            clear hK K
            try simp only [Act.put, List.setIfInBounds_toArray, List.set_cons_zero, List.set_cons_succ]
            refine wpAnyH_ready (rs := [14]) (by kernel_rfl) (by simp) ?_
            refine AllReadyH.cons (by simp only [List.getElem?_toArray, List.getElem?_cons_succ, List.getElem?_cons_zero]; rfl) (fun K hK => ?_) AllReadyH.nil
            go_simp
            refine hK.out _ _ q5 (fun hHeld => ?_)
            clear hK K
            try simp only [Act.put, List.setIfInBounds_toArray, List.set_cons_zero, List.set_cons_succ]
            refine wpAnyH_take (i := 15) (v := ?_) (by simp only [List.getElem?_toArray, List.getElem?_cons_succ, List.getElem?_cons_zero]; rfl) (by kernel_rfl) (by kernel_rfl) (by kernel_rfl) (by intro _ _ _ h; exact h) (Or.inl ⟨by rfl, ?_⟩) (by assumption) ?_
            rotate_left
            · (intro w hSw; (try dsimp only at hSw); go_simp; try with_reducible rfl)
            try simp only [Act.put, List.setIfInBounds_toArray, List.set_cons_zero, List.set_cons_succ]
            refine wpAnyH_take (i := 16) (v := ?_) (by simp only [List.getElem?_toArray, List.getElem?_cons_succ, List.getElem?_cons_zero]; rfl) (by kernel_rfl) (by kernel_rfl) (by kernel_rfl) (by intro _ _ _ h; exact h) (Or.inl ⟨by rfl, ?_⟩) (by assumption) ?_
            rotate_left
            · (intro w hSw; (try dsimp only at hSw); go_simp; try with_reducible rfl)
            try simp only [Act.put, List.setIfInBounds_toArray, List.set_cons_zero, List.set_cons_succ]
            refine wpAnyH_done (by kernel_rfl) ?_ _
            have HP5 := Lib.hid (HPL.out.below hc5)
            clear t5 t8 q4 q5 ho4 ho5
            go_wp2_with fail
            go_roundw
            case rel => exact ⟨i + 1, _, L, by omega, by omega, rfl, by go_num, HP5, HIN⟩
            case measure => simp [intOf]; omega
          · refine AllReadyH.cons (by simp only [List.getElem?_toArray, List.getElem?_cons_succ, List.getElem?_cons_zero]; rfl) (fun K hK => ?_) AllReadyH.nil
            go_simp
            refine (HRS.out w4 hc4).mono ?_
            rintro e w5 ⟨v5, rfl, ho5, hb5⟩
            obtain ⟨o5, c5, rfl⟩ := own_slice ho5
            have hc5 := hc4.trans (hb5.mono hc4.size)
            have q5 := HCR.out w5 hc5
            have t5 : (convert 31 9 (.slice o4 sb.length c4)).run Try.prog w5 = .ok (.string ⟨sb.toArray⟩) w5 := textS (own_below ho4 hb5 (Nat.le_refl _))
            have t8 : (convert 31 9 (.slice o5 sb.length c5)).run Try.prog w5 = .ok (.string ⟨sb.toArray⟩) w5 := textS ho5
            clear hb5
            refine hK.out _ _ q5 (fun hHeld => ?_)
            clear hK K
            try simp only [Act.put, List.setIfInBounds_toArray, List.set_cons_zero, List.set_cons_succ]
            refine wpAnyH_ready (rs := [11, 14]) (by kernel_rfl) (by simp) ?_
            refine AllReadyH.cons (by simp only [List.getElem?_toArray, List.getElem?_cons_succ, List.getElem?_cons_zero]; rfl) (fun K hK => ?_) ?_
            · go_simp
              refine hK.out _ _ q5 (fun hHeld => ?_)
              clear hK K
              try simp only [Act.put, List.setIfInBounds_toArray, List.set_cons_zero, List.set_cons_succ]
              refine wpAnyH_ready (rs := [14]) (by kernel_rfl) (by simp) ?_
              refine AllReadyH.cons (by simp only [List.getElem?_toArray, List.getElem?_cons_succ, List.getElem?_cons_zero]; rfl) (fun K hK => ?_) AllReadyH.nil
              go_simp
              refine hK.out _ _ q5 (fun hHeld => ?_)
              clear hK K
              try simp only [Act.put, List.setIfInBounds_toArray, List.set_cons_zero, List.set_cons_succ]
              refine wpAnyH_take (i := 15) (v := ?_) (by simp only [List.getElem?_toArray, List.getElem?_cons_succ, List.getElem?_cons_zero]; rfl) (by kernel_rfl) (by kernel_rfl) (by kernel_rfl) (by intro _ _ _ h; exact h) (Or.inl ⟨by rfl, ?_⟩) (by assumption) ?_
              rotate_left
              · (intro w hSw; (try dsimp only at hSw); go_simp; try with_reducible rfl)
              try simp only [Act.put, List.setIfInBounds_toArray, List.set_cons_zero, List.set_cons_succ]
              refine wpAnyH_take (i := 16) (v := ?_) (by simp only [List.getElem?_toArray, List.getElem?_cons_succ, List.getElem?_cons_zero]; rfl) (by kernel_rfl) (by kernel_rfl) (by kernel_rfl) (by intro _ _ _ h; exact h) (Or.inl ⟨by rfl, ?_⟩) (by assumption) ?_
              rotate_left
              · (intro w hSw; (try dsimp only at hSw); go_simp; try with_reducible rfl)
              try simp only [Act.put, List.setIfInBounds_toArray, List.set_cons_zero, List.set_cons_succ]
              refine wpAnyH_done (by kernel_rfl) ?_ _
              have HP5 := Lib.hid (HPL.out.below hc5)
              clear t5 t8 q4 q5 ho4 ho5
              go_wp2_with fail
              go_roundw
              case rel => exact ⟨i + 1, _, L, by omega, by omega, rfl, by go_num, HP5, HIN⟩
              case measure => simp [intOf]; omega
            · refine AllReadyH.cons (by simp only [List.getElem?_toArray, List.getElem?_cons_succ, List.getElem?_cons_zero]; rfl) (fun K hK => ?_) AllReadyH.nil
              go_simp
              refine hK.out _ _ q5 (fun hHeld => ?_)
              clear hK K
              try simp only [Act.put, List.setIfInBounds_toArray, List.set_cons_zero, List.set_cons_succ]
              refine wpAnyH_ready (rs := [11]) (by kernel_rfl) (by simp) ?_
              refine AllReadyH.cons (by simp only [List.getElem?_toArray, List.getElem?_cons_succ, List.getElem?_cons_zero]; rfl) (fun K hK => ?_) AllReadyH.nil
              go_simp
              refine hK.out _ _ q5 (fun hHeld => ?_)
              clear hK K
              try simp only [Act.put, List.setIfInBounds_toArray, List.set_cons_zero, List.set_cons_succ]
              refine wpAnyH_take (i := 15) (v := ?_) (by simp only [List.getElem?_toArray, List.getElem?_cons_succ, List.getElem?_cons_zero]; rfl) (by kernel_rfl) (by kernel_rfl) (by kernel_rfl) (by intro _ _ _ h; exact h) (Or.inl ⟨by rfl, ?_⟩) (by assumption) ?_
              rotate_left
              · (intro w hSw; (try dsimp only at hSw); go_simp; try with_reducible rfl)
              try simp only [Act.put, List.setIfInBounds_toArray, List.set_cons_zero, List.set_cons_succ]
              refine wpAnyH_take (i := 16) (v := ?_) (by simp only [List.getElem?_toArray, List.getElem?_cons_succ, List.getElem?_cons_zero]; rfl) (by kernel_rfl) (by kernel_rfl) (by kernel_rfl) (by intro _ _ _ h; exact h) (Or.inl ⟨by rfl, ?_⟩) (by assumption) ?_
              rotate_left
              · (intro w hSw; (try dsimp only at hSw); go_simp; try with_reducible rfl)
              try simp only [Act.put, List.setIfInBounds_toArray, List.set_cons_zero, List.set_cons_succ]
              refine wpAnyH_done (by kernel_rfl) ?_ _
              have HP5 := Lib.hid (HPL.out.below hc5)
              clear t5 t8 q4 q5 ho4 ho5
              go_wp2_with fail
              go_roundw
              case rel => exact ⟨i + 1, _, L, by omega, by omega, rfl, by go_num, HP5, HIN⟩
              case measure => simp [intOf]; omega
        · skip
          have s0 : (ak % 5 == 0) = false := by rw [beq_eq_false_iff_ne, hk5]; decide
          have s1 : (ak % 5 == 1) = false := by rw [beq_eq_false_iff_ne, hk5]; decide
          have s2 : (ak % 5 == 2) = false := by rw [beq_eq_false_iff_ne, hk5]; decide
          have s3 : (ak % 5 == 3) = false := by rw [beq_eq_false_iff_ne, hk5]; decide
          clear hk5
          have hin0 := HI.out
          obtain ⟨⟨vt, hvt⟩, _, _, _, _⟩ := HP8.out
          have HSAVE := Lib.hid (save_any WB hvt (by have := hin0.len; omega) hin0.wrd (fun s hs => by have := (hin0.pos s hs).2.2; omega))
          have hsl : (saveB l).length ≤ 1000000 := saveB_small l hin0
          have hle : loadS (saveB l) = some l := loadS_enc hin0.ris hin0.wrd (fun s hs => ⟨(hin0.pos s hs).1, (hin0.pos s hs).2.1, by have := (hin0.pos s hs).2.2; omega⟩) hin0.len
          have HSL := Lib.hid hsl
          have HLE := Lib.hid hle
          clear hin0 hvt hsl hle
          go_wp2_with fail
          refine HSAVE.out.mono ?_
          rintro e w2 ⟨v7, rfl, ho7, hb7⟩
          obtain ⟨o7, c7, rfl⟩ := own_slice ho7
          have HLOAD := Lib.hid (load_any (.slice o7 (saveB l).length c7) (saveB l) w2 (Rd.of_own ho7) HSL.out)
          have HP2 := Lib.hid (HP8.out.below hb7)
          clear ho7 hb7 HSAVE x0 x1 x2 x3
          generalize (saveB l).length = sl at *
          go_wp2_with fail
          refine HLOAD.out.mono ?_
          rintro e w3 ⟨hb8, hm⟩
          rw [HLE.out] at hm
          obtain ⟨b9, v9, rfl, hta9, hge9⟩ := hm
          have HPL : Hid (Pl2 w w3 b9 br l l) := Lib.hid (by
            have h9 := HP2.out.below hb8
            obtain ⟨ps9, hp9, ha9⟩ := hta9
            exact ⟨⟨v9, ps9, hp9, ha9.cell, ha9.own.base HP2.out.bel.size⟩, Nat.le_trans HP2.out.bel.size hge9, h9.ro, h9.gr, h9.bel⟩)
          have HIN := HI
          obtain ⟨WX, hWX⟩ : ∃ WX, WX = w3 := ⟨_, rfl⟩
          obtain ⟨L, hL⟩ : ∃ L, L = l := ⟨_, rfl⟩
          subst hWX hL
          clear hb8 hta9 hge9 HLOAD hx hxl HP8 HP2 HPUT HRPUT HPI HSL HLE
          go_wp2_with fail
          obtain ⟨⟨vt, hvt⟩, hgb, ⟨vr, ps, hro, hps⟩, hgr, hbl⟩ := HPL.out
          have hpl : ps.length = L.length := by rw [← hps]; simp
          obtain ⟨ovr, cvr, rfl⟩ := own_slice hro.own.row
          have hin := HIN.out
          have hb8 : ∀ s ∈ L, s.rp.length ≤ 1000000 := fun s hs => by have := (hin.pos s hs).2.2; omega
          obtain ⟨sb, hsb⟩ : ∃ sb, sb = saveB L := ⟨_, rfl⟩
          have HSV : Hid (∀ W, Below WX.heap.size WX W → Calls Try.prog 16 #[.pointer (some ⟨_, 0, none⟩)] W fun e w' => ∃ v', e = .returned v' ∧ Own w' W.heap.size v' sb ∧ Below W.heap.size W w') := Lib.hid (fun W hW => by rw [hsb]; exact save_any W (hvt.below hW) (by have := hin.len; omega) hin.wrd hb8)
          have HRS : Hid (∀ W, Below WX.heap.size WX W → Calls Try.prog 18 #[.pointer (some ⟨br, 0, none⟩)] W fun e w' => ∃ v', e = .returned v' ∧ Own w' W.heap.size v' sb ∧ Below W.heap.size W w') := Lib.hid (fun W hW => by
            have h := rsave_any W (hro.below hW).rt (by have := hin.len; omega) (by rw [hps]; exact hin.wrd) (by rw [hps]; exact hb8)
            rw [hps, ← hsb] at h
            exact h)
          have HLN : Hid (∀ W, Below WX.heap.size WX W → Calls Try.prog 17 #[.pointer (some ⟨_, 0, none⟩)] W fun e w' => e = .returned (.int .i64 (ps.length : Int)) ∧ W = w') := Lib.hid (fun W hW => by have h := tlen_any W (hvt.below hW); rw [← hpl] at h; exact h)
          have HCR : Hid (∀ W, Below WX.heap.size WX W → W.cell? ⟨br, 0, none⟩ = some (.slice ovr ps.length cvr)) := Lib.hid (fun W hW => cell_of_one (hro.below hW).cell)
          have hpp : (sb == sb) = true := by simp
          have hpn : (sb != sb) = false := by simp
          generalize hpsl : ps.length = np at *
          have hnn : ((np : Int) != (np : Int)) = false := by simp
          have hne : ((np : Int) == (np : Int)) = true := by simp
          clear hvt hgb hro hps hgr hbl hpl hin hb8 hsb hpsl
          refine wp_region_held_drew (S := fun w' => w'.cell? ⟨br, 0, none⟩ = some (.slice ovr np cvr)) (by kernel_rfl) (HCR.out _ (Below.refl _ WX).drew) ?_
          intro hHeld
          refine wpAnyH_take (i := 0) (v := ?_) (by simp only [List.getElem?_toArray, List.getElem?_cons_zero]; rfl) (by kernel_rfl) (by kernel_rfl) (by kernel_rfl) (by intro _ _ _ h; exact h) (Or.inl ⟨by rfl, ?_⟩) (by assumption) ?_
          rotate_left
          · (intro w hSw; (try dsimp only at hSw); go_simp; try with_reducible rfl)
          try simp only [Act.put, List.setIfInBounds_toArray, List.set_cons_zero, List.set_cons_succ]
          refine wpAnyH_take (i := 2) (v := ?_) (by simp only [List.getElem?_toArray, List.getElem?_cons_succ, List.getElem?_cons_zero]; rfl) (by kernel_rfl) (by kernel_rfl) (by kernel_rfl) (by intro _ _ _ h; exact h) (Or.inl ⟨by rfl, ?_⟩) (by assumption) ?_
          rotate_left
          · (intro w hSw; (try dsimp only at hSw); go_simp; try with_reducible rfl)
          try simp only [Act.put, List.setIfInBounds_toArray, List.set_cons_zero, List.set_cons_succ]
          refine wpAnyH_take (i := 3) (v := ?_) (by simp only [List.getElem?_toArray, List.getElem?_cons_succ, List.getElem?_cons_zero]; rfl) (by kernel_rfl) (by kernel_rfl) (by kernel_rfl) (by intro _ _ _ h; exact h) (Or.inl ⟨by rfl, ?_⟩) (by assumption) ?_
          rotate_left
          · (intro w hSw; (try dsimp only at hSw); go_simp; try with_reducible rfl)
          try simp only [Act.put, List.setIfInBounds_toArray, List.set_cons_zero, List.set_cons_succ]
          refine wpAnyH_take (i := 4) (v := ?_) (by simp only [List.getElem?_toArray, List.getElem?_cons_succ, List.getElem?_cons_zero]; rfl) (by kernel_rfl) (by kernel_rfl) (by kernel_rfl) (by intro _ _ _ h; exact h) (Or.inl ⟨by rfl, ?_⟩) (by assumption) ?_
          rotate_left
          · (intro w hSw; (try dsimp only at hSw); go_simp; try with_reducible rfl)
          try simp only [Act.put, List.setIfInBounds_toArray, List.set_cons_zero, List.set_cons_succ]
          refine wpAnyH_take (i := 5) (v := ?_) (by simp only [List.getElem?_toArray, List.getElem?_cons_succ, List.getElem?_cons_zero]; rfl) (by kernel_rfl) (by kernel_rfl) (by kernel_rfl) (by intro _ _ _ h; exact h) (Or.inl ⟨by rfl, ?_⟩) (by assumption) ?_
          rotate_left
          · (intro w hSw; (try dsimp only at hSw); go_simp; try with_reducible rfl)
          try simp only [Act.put, List.setIfInBounds_toArray, List.set_cons_zero, List.set_cons_succ]
          refine wpAnyH_take (i := 6) (v := ?_) (by simp only [List.getElem?_toArray, List.getElem?_cons_succ, List.getElem?_cons_zero]; rfl) (by kernel_rfl) (by kernel_rfl) (by kernel_rfl) (by intro _ _ _ h; exact h) (Or.inl ⟨by rfl, ?_⟩) (by assumption) ?_
          rotate_left
          · (intro w hSw; (try dsimp only at hSw); go_simp; try with_reducible rfl)
          try simp only [Act.put, List.setIfInBounds_toArray, List.set_cons_zero, List.set_cons_succ]
          refine wpAnyH_ready (rs := [1]) (by kernel_rfl) (by simp) ?_
          refine AllReadyH.cons (by simp only [List.getElem?_toArray, List.getElem?_cons_succ, List.getElem?_cons_zero]; rfl) (fun K hK => ?_) AllReadyH.nil
          go_simp
          refine (HLN.out WX.drew (Below.refl _ WX).drew).mono ?_
          rintro e w9 ⟨rfl, hw9⟩
          subst hw9
          refine hK.out _ _ (HCR.out _ (Below.refl _ WX).drew) (fun hHeld => ?_)
          clear hK K
          try simp only [Act.put, List.setIfInBounds_toArray, List.set_cons_zero, List.set_cons_succ]
          refine wpAnyH_take (i := 7) (v := ?_) (by simp only [List.getElem?_toArray, List.getElem?_cons_succ, List.getElem?_cons_zero]; rfl) (by kernel_rfl) (by kernel_rfl) (by kernel_rfl) (by intro _ _ _ h; exact h) (Or.inl ⟨by rfl, ?_⟩) (by assumption) ?_
          rotate_left
          · (intro w hSw; (try dsimp only at hSw); go_simp; try with_reducible rfl)
          try simp only [Act.put, List.setIfInBounds_toArray, List.set_cons_zero, List.set_cons_succ]
          refine wpAnyH_take (i := 8) (v := ?_) (by simp only [List.getElem?_toArray, List.getElem?_cons_succ, List.getElem?_cons_zero]; rfl) (by kernel_rfl) (by kernel_rfl) (by kernel_rfl) (by intro _ _ _ h; exact h) (Or.inl ⟨by rfl, ?_⟩) (by assumption) ?_
          rotate_left
          · (intro w hSw; (try dsimp only at hSw); go_simp; try with_reducible rfl)
          try simp only [Act.put, List.setIfInBounds_toArray, List.set_cons_zero, List.set_cons_succ]
          refine wpAnyH_take (i := 9) (v := ?_) (by simp only [List.getElem?_toArray, List.getElem?_cons_succ, List.getElem?_cons_zero]; rfl) (by kernel_rfl) (by kernel_rfl) (by kernel_rfl) (by intro _ _ _ h; exact h) (Or.inl ⟨by rfl, ?_⟩) (by assumption) ?_
          rotate_left
          · (intro w hSw; (try dsimp only at hSw); go_simp; try with_reducible rfl)
          try simp only [Act.put, List.setIfInBounds_toArray, List.set_cons_zero, List.set_cons_succ]
          refine wpAnyH_take (i := 12) (v := ?_) (by simp only [List.getElem?_toArray, List.getElem?_cons_succ, List.getElem?_cons_zero]; rfl) (by kernel_rfl) (by kernel_rfl) (by kernel_rfl) (by intro _ _ _ h; exact h) (Or.inl ⟨by rfl, ?_⟩) (by assumption) ?_
          rotate_left
          · (intro w hSw; (try dsimp only at hSw); go_simp; try with_reducible rfl)
          try simp only [Act.put, List.setIfInBounds_toArray, List.set_cons_zero, List.set_cons_succ]
          refine wpAnyH_ready (rs := [10]) (by kernel_rfl) (by simp) ?_
          refine AllReadyH.cons (by simp only [List.getElem?_toArray, List.getElem?_cons_succ, List.getElem?_cons_zero]; rfl) (fun K hK => ?_) AllReadyH.nil
          go_simp
          refine (HSV.out WX.drew (Below.refl _ WX).drew).mono ?_
          rintro e w4 ⟨v4, rfl, ho4, hb4⟩
          obtain ⟨o4, c4, rfl⟩ := own_slice ho4
          have hc4 : Below WX.heap.size WX w4 := (Below.refl _ WX).drew.trans hb4
          have q4 := HCR.out w4 hc4
          have t5 : (convert 31 9 (.slice o4 sb.length c4)).run Try.prog w4 = .ok (.string ⟨sb.toArray⟩) w4 := textS ho4
          clear hb4
          refine hK.out _ _ q4 (fun hHeld => ?_)
          clear hK K
          try simp only [Act.put, List.setIfInBounds_toArray, List.set_cons_zero, List.set_cons_succ]
          refine wpAnyH_ready (rs := [11, 13]) (by kernel_rfl) (by simp) ?_
          refine AllReadyH.cons (by simp only [List.getElem?_toArray, List.getElem?_cons_succ, List.getElem?_cons_zero]; rfl) (fun K hK => ?_) ?_
          · go_simp
            refine hK.out _ _ q4 (fun hHeld => ?_)
            clear hK K
            try simp only [Act.put, List.setIfInBounds_toArray, List.set_cons_zero, List.set_cons_succ]
            refine wpAnyH_ready (rs := [13]) (by kernel_rfl) (by simp) ?_
            refine AllReadyH.cons (by simp only [List.getElem?_toArray, List.getElem?_cons_succ, List.getElem?_cons_zero]; rfl) (fun K hK => ?_) AllReadyH.nil
            go_simp
            refine (HRS.out w4 hc4).mono ?_
            rintro e w5 ⟨v5, rfl, ho5, hb5⟩
            obtain ⟨o5, c5, rfl⟩ := own_slice ho5
            have hc5 := hc4.trans (hb5.mono hc4.size)
            have q5 := HCR.out w5 hc5
            have t5 : (convert 31 9 (.slice o4 sb.length c4)).run Try.prog w5 = .ok (.string ⟨sb.toArray⟩) w5 := textS (own_below ho4 hb5 (Nat.le_refl _))
            have t8 : (convert 31 9 (.slice o5 sb.length c5)).run Try.prog w5 = .ok (.string ⟨sb.toArray⟩) w5 := textS ho5
            clear hb5
            refine hK.out _ _ q5 (fun hHeld => ?_)
            clear hK K
            try simp only [Act.put, List.setIfInBounds_toArray, List.set_cons_zero, List.set_cons_succ]
            refine wpAnyH_ready (rs := [14]) (by kernel_rfl) (by simp) ?_
            refine AllReadyH.cons (by simp only [List.getElem?_toArray, List.getElem?_cons_succ, List.getElem?_cons_zero]; rfl) (fun K hK => ?_) AllReadyH.nil
            go_simp
            refine hK.out _ _ q5 (fun hHeld => ?_)
            clear hK K
            try simp only [Act.put, List.setIfInBounds_toArray, List.set_cons_zero, List.set_cons_succ]
            refine wpAnyH_take (i := 15) (v := ?_) (by simp only [List.getElem?_toArray, List.getElem?_cons_succ, List.getElem?_cons_zero]; rfl) (by kernel_rfl) (by kernel_rfl) (by kernel_rfl) (by intro _ _ _ h; exact h) (Or.inl ⟨by rfl, ?_⟩) (by assumption) ?_
            rotate_left
            · (intro w hSw; (try dsimp only at hSw); go_simp; try with_reducible rfl)
            try simp only [Act.put, List.setIfInBounds_toArray, List.set_cons_zero, List.set_cons_succ]
            refine wpAnyH_take (i := 16) (v := ?_) (by simp only [List.getElem?_toArray, List.getElem?_cons_succ, List.getElem?_cons_zero]; rfl) (by kernel_rfl) (by kernel_rfl) (by kernel_rfl) (by intro _ _ _ h; exact h) (Or.inl ⟨by rfl, ?_⟩) (by assumption) ?_
            rotate_left
            · (intro w hSw; (try dsimp only at hSw); go_simp; try with_reducible rfl)
            try simp only [Act.put, List.setIfInBounds_toArray, List.set_cons_zero, List.set_cons_succ]
            refine wpAnyH_done (by kernel_rfl) ?_ _
            have HP5 := Lib.hid (HPL.out.below hc5)
            clear t5 t8 q4 q5 ho4 ho5
            go_wp2_with fail
            go_roundw
            case rel => exact ⟨i + 1, _, L, by omega, by omega, rfl, by go_num, HP5, HIN⟩
            case measure => simp [intOf]; omega
          · refine AllReadyH.cons (by simp only [List.getElem?_toArray, List.getElem?_cons_succ, List.getElem?_cons_zero]; rfl) (fun K hK => ?_) AllReadyH.nil
            go_simp
            refine (HRS.out w4 hc4).mono ?_
            rintro e w5 ⟨v5, rfl, ho5, hb5⟩
            obtain ⟨o5, c5, rfl⟩ := own_slice ho5
            have hc5 := hc4.trans (hb5.mono hc4.size)
            have q5 := HCR.out w5 hc5
            have t5 : (convert 31 9 (.slice o4 sb.length c4)).run Try.prog w5 = .ok (.string ⟨sb.toArray⟩) w5 := textS (own_below ho4 hb5 (Nat.le_refl _))
            have t8 : (convert 31 9 (.slice o5 sb.length c5)).run Try.prog w5 = .ok (.string ⟨sb.toArray⟩) w5 := textS ho5
            clear hb5
            refine hK.out _ _ q5 (fun hHeld => ?_)
            clear hK K
            try simp only [Act.put, List.setIfInBounds_toArray, List.set_cons_zero, List.set_cons_succ]
            refine wpAnyH_ready (rs := [11, 14]) (by kernel_rfl) (by simp) ?_
            refine AllReadyH.cons (by simp only [List.getElem?_toArray, List.getElem?_cons_succ, List.getElem?_cons_zero]; rfl) (fun K hK => ?_) ?_
            · go_simp
              refine hK.out _ _ q5 (fun hHeld => ?_)
              clear hK K
              try simp only [Act.put, List.setIfInBounds_toArray, List.set_cons_zero, List.set_cons_succ]
              refine wpAnyH_ready (rs := [14]) (by kernel_rfl) (by simp) ?_
              refine AllReadyH.cons (by simp only [List.getElem?_toArray, List.getElem?_cons_succ, List.getElem?_cons_zero]; rfl) (fun K hK => ?_) AllReadyH.nil
              go_simp
              refine hK.out _ _ q5 (fun hHeld => ?_)
              clear hK K
              try simp only [Act.put, List.setIfInBounds_toArray, List.set_cons_zero, List.set_cons_succ]
              refine wpAnyH_take (i := 15) (v := ?_) (by simp only [List.getElem?_toArray, List.getElem?_cons_succ, List.getElem?_cons_zero]; rfl) (by kernel_rfl) (by kernel_rfl) (by kernel_rfl) (by intro _ _ _ h; exact h) (Or.inl ⟨by rfl, ?_⟩) (by assumption) ?_
              rotate_left
              · (intro w hSw; (try dsimp only at hSw); go_simp; try with_reducible rfl)
              try simp only [Act.put, List.setIfInBounds_toArray, List.set_cons_zero, List.set_cons_succ]
              refine wpAnyH_take (i := 16) (v := ?_) (by simp only [List.getElem?_toArray, List.getElem?_cons_succ, List.getElem?_cons_zero]; rfl) (by kernel_rfl) (by kernel_rfl) (by kernel_rfl) (by intro _ _ _ h; exact h) (Or.inl ⟨by rfl, ?_⟩) (by assumption) ?_
              rotate_left
              · (intro w hSw; (try dsimp only at hSw); go_simp; try with_reducible rfl)
              try simp only [Act.put, List.setIfInBounds_toArray, List.set_cons_zero, List.set_cons_succ]
              refine wpAnyH_done (by kernel_rfl) ?_ _
              have HP5 := Lib.hid (HPL.out.below hc5)
              clear t5 t8 q4 q5 ho4 ho5
              go_wp2_with fail
              go_roundw
              case rel => exact ⟨i + 1, _, L, by omega, by omega, rfl, by go_num, HP5, HIN⟩
              case measure => simp [intOf]; omega
            · refine AllReadyH.cons (by simp only [List.getElem?_toArray, List.getElem?_cons_succ, List.getElem?_cons_zero]; rfl) (fun K hK => ?_) AllReadyH.nil
              go_simp
              refine hK.out _ _ q5 (fun hHeld => ?_)
              clear hK K
              try simp only [Act.put, List.setIfInBounds_toArray, List.set_cons_zero, List.set_cons_succ]
              refine wpAnyH_ready (rs := [11]) (by kernel_rfl) (by simp) ?_
              refine AllReadyH.cons (by simp only [List.getElem?_toArray, List.getElem?_cons_succ, List.getElem?_cons_zero]; rfl) (fun K hK => ?_) AllReadyH.nil
              go_simp
              refine hK.out _ _ q5 (fun hHeld => ?_)
              clear hK K
              try simp only [Act.put, List.setIfInBounds_toArray, List.set_cons_zero, List.set_cons_succ]
              refine wpAnyH_take (i := 15) (v := ?_) (by simp only [List.getElem?_toArray, List.getElem?_cons_succ, List.getElem?_cons_zero]; rfl) (by kernel_rfl) (by kernel_rfl) (by kernel_rfl) (by intro _ _ _ h; exact h) (Or.inl ⟨by rfl, ?_⟩) (by assumption) ?_
              rotate_left
              · (intro w hSw; (try dsimp only at hSw); go_simp; try with_reducible rfl)
              try simp only [Act.put, List.setIfInBounds_toArray, List.set_cons_zero, List.set_cons_succ]
              refine wpAnyH_take (i := 16) (v := ?_) (by simp only [List.getElem?_toArray, List.getElem?_cons_succ, List.getElem?_cons_zero]; rfl) (by kernel_rfl) (by kernel_rfl) (by kernel_rfl) (by intro _ _ _ h; exact h) (Or.inl ⟨by rfl, ?_⟩) (by assumption) ?_
              rotate_left
              · (intro w hSw; (try dsimp only at hSw); go_simp; try with_reducible rfl)
              try simp only [Act.put, List.setIfInBounds_toArray, List.set_cons_zero, List.set_cons_succ]
              refine wpAnyH_done (by kernel_rfl) ?_ _
              have HP5 := Lib.hid (HPL.out.below hc5)
              clear t5 t8 q4 q5 ho4 ho5
              go_wp2_with fail
              go_roundw
              case rel => exact ⟨i + 1, _, L, by omega, by omega, rfl, by go_num, HP5, HIN⟩
              case measure => simp [intOf]; omega
    · have hout : ¬ (i : Int) < (acts.length : Int) ∨ ((i : Int) < (acts.length : Int) ∧ ¬ (i : Int) < 120) := by omega
      rcases hout with i1 | ⟨i1, i2⟩
      · clear hlt
        go_wp2_with fail
        go_ret
        exact ⟨rfl, HP.out.bel⟩
      · clear hlt
        go_wp2_with fail
        go_ret
        exact ⟨rfl, HP.out.bel⟩
end Go.Proofs.Ytlfnblgpekilnaa
