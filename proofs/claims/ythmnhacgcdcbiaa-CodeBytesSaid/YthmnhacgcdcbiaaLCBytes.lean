/- CodeBytes: the law's walk. -/
import Derived.Test.YthmnhacgcdcbiaaEncB
import Derived.Test.YthmnhacgcdcbiaaEncC
import Derived.Test.YthmnhacgcdcbiaaDecC
import Derived.Test.YthmnhacgcdcbiaaCodZ
import Derived.Test.YthmnhacgcdcbiaaOpenD
import Derived.WalkSmall
import Derived.Deep.Cut
import Derived.Deep.RegionHeld3
import Derived.OrdersHeld
namespace Go.Proofs.Ythmnhacgcdcbiaa
open Go.RowKit OctM CodM

/-- What the law asks of a function's captured values, and of an instruction. -/
def insP (x : Ins) : Prop := 0 ≤ x.a ∧ x.a ≤ 1048576 ∧ x.s.size ≤ 2000
def funP (f : Fun) : Prop := 0 ≤ f.caps ∧ f.caps ≤ 1048576 ∧ ∀ x ∈ f.code, insP x
def BytesRest (fs : List Fun) (_w : World) (_b : Nat) : Prop := ∀ f ∈ fs, funP f

theorem encI_len (x : Ins) (h : x.s.size ≤ 2000) : (encI x).length ≤ 2100 := by
  unfold encI
  have h1 := nd_le x.op
  have h2 := nd_le (zig x.n)
  have h3 := nd_le x.a.toNat
  have h5 : x.s.data.toList.length = x.s.size := by rw [Array.length_toList]; rfl
  have h4 : (encB x.s.data.toList).length ≤ 2009 := by
    have := encB_length x.s.data.toList
    omega
  simp only [List.length_append, enc_length]
  omega
theorem encC_len (l : List Ins) (h : ∀ x ∈ l, x.s.size ≤ 2000) : (encC l).length ≤ 2100 * l.length := by
  induction l with
  | nil => simp [encC]
  | cons x xs ih =>
    have h1 := encI_len x (h x (by simp))
    have h2 := ih (fun y hy => h y (by simp [hy]))
    unfold encC at h2 ⊢
    simp only [List.flatMap_cons, List.length_append, List.length_cons]
    omega
theorem encL_small (fs : List Fun) (hs : fs.length ≤ 20) (hc : ∀ f ∈ fs, f.code.length ≤ 100) (hp : ∀ f ∈ fs, funP f) : (encL fs).length ≤ 100000000 := by
  have key : ∀ l : List Fun, (∀ f ∈ l, f.code.length ≤ 100 ∧ funP f) → (l.flatMap encF).length ≤ 220000 * l.length := by
    intro l
    induction l with
    | nil => intro _; simp
    | cons f xs ih =>
      intro h
      obtain ⟨h1, h2⟩ := h f (by simp)
      have h3 := ih (fun y hy => h y (by simp [hy]))
      have h4 := encC_len f.code (fun x hx => (h2.2.2 x hx).2.2)
      have h5 := nd_le f.caps.toNat
      have h6 := nd_le f.code.length
      simp only [List.flatMap_cons, List.length_append, List.length_cons]
      have h7 : (encF f).length ≤ 220000 := by
        unfold encF
        simp only [List.length_append, enc_length]
        omega
      omega
  have h1 := key fs (fun f hf => ⟨hc f hf, hp f hf⟩)
  have h2 := nd_le fs.length
  unfold encL
  simp only [List.length_append, enc_length]
  omega

set_option maxHeartbeats 4000000 in
set_option maxRecDepth 100000 in
theorem bytes_walk (v : Value) (fs : List Fun) (w : World) (h : RdF w v fs ∧ FunsT fs) :
    Calls Try.prog 4 #[v] w fun e w' => e = .returned (.bool true) ∧ Below w.heap.size w w' := by
  obtain ⟨o, c, hv⟩ := h.1.form
  subst hv
  have HR := Lib.hid h.1
  have HT := Lib.hid h.2
  clear h
  go_enter Try.func4, Try.ntmps4
  go_wp2_with fail
  refine (cawake w).mono ?_
  rintro e w1 ⟨rfl, hb1⟩
  dsimp only
  have hg := great fs w1 _ (HR.out.below hb1 (Nat.le_refl _))
  have HB1 := Lib.hid hb1
  clear hb1
  unfold GrPost at hg
  rcases hs : small fs with _ | _
  · rw [hs] at hg
    have HG := Lib.hid hg
    clear hg hs
    go_wp2_with fail
    refine HG.out.mono ?_
    rintro e w2 ⟨rfl, hb2⟩
    dsimp only
    have HB2 := Lib.hid (HB1.out.trans (hb2.mono HB1.out.size))
    clear hb2
    go_wp2_with fail
    refine (cawake w2).mono ?_
    rintro e w3 ⟨rfl, hb3⟩
    have HB3 := Lib.hid (HB2.out.trans (hb3.mono HB2.out.size))
    clear hb3
    go_wp2_with fail
    go_ret
    exact ⟨rfl, HB3.out⟩
  · rw [hs] at hg
    simp only [Bool.not_true] at hg
    have HG := Lib.hid hg
    have HS := Lib.hid (of_decide_eq_true hs)
    clear hg hs
    go_wp2_with fail
    refine HG.out.mono ?_
    rintro e w2 ⟨rfl, hb2⟩
    dsimp only
    have HB2 := Lib.hid (HB1.out.trans (hb2.mono HB1.out.size))
    clear hb2 HG
    go_wp2_with fail
    go_loopw [3] (fun i wr => ∃ (k : Nat), k ≤ fs.length ∧ i = .int .i64 k ∧ wr = w2 ∧ Hid (∀ f ∈ fs.take k, funP f)) (fun i _ => fs.length - (intOf i).toNat)
    case atStart => exact ⟨0, by omega, rfl, rfl, by simp [Hid]⟩
    case round =>
      obtain ⟨k, hk, rfl, rfl, HP⟩ := hrel
      by_cases hlt : k < fs.length
      · as_aux_lemma =>
        have hx : fs[k]? = some fs[k] := List.getElem?_eq_getElem hlt
        have HTK := Lib.hid (List.take_succ_eq_append_getElem hlt)
        rcases HR.out with ⟨o', c', hv', h0'⟩ | ⟨bb, off, c', hv', h1, h2, h3, h4⟩
        · rw [h0'] at hlt
          simp at hlt
        injection hv' with e1 e2 e3
        subst e1 e3
        unfold maxLen at h3
        obtain ⟨x0, cv, x1, hcv⟩ := h4 k _ hx
        have hkI : (k : Int) < (fs.length : Int) := by omega
        generalize fs[k] = f at *
        obtain ⟨oc, cc, rfl⟩ := hcv.form
        have y0 : wr.cell? ⟨bb, off + k * 2, none⟩ = some (.int .i64 f.caps) := (HB2.out.cell (World.block_lt_of_cell? w _ x0)).trans x0
        have y1 : wr.cell? ⟨bb, off + k * 2 + 1, none⟩ = some (.slice oc f.code.length cc) := (HB2.out.cell (World.block_lt_of_cell? w _ x1)).trans x1
        have HCV := Lib.hid hcv
        clear hx hcv h4 x0 x1
        by_cases hc0 : f.caps < 0
        · have hd0 : decide (f.caps < 0) = true := by simpa using hc0
          clear hc0
          go_wp2_with fail
          go_ret
          exact ⟨rfl, HB2.out⟩
        · by_cases hc1 : 1048576 < f.caps
          · have hd0 : decide (f.caps < 0) = false := by simp; omega
            have hd1 : decide (1048576 < f.caps) = true := by simpa using hc1
            clear hc0 hc1
            go_wp2_with fail
            go_ret
            exact ⟨rfl, HB2.out⟩
          · have hd0 : decide (f.caps < 0) = false := by simp; omega
            have hd1 : decide (1048576 < f.caps) = false := by simp; omega
            have HC0 := Lib.hid hc0
            have HC1 := Lib.hid hc1
            clear hc0 hc1
            go_wp2_with fail
            go_loopw [4] (fun i wr2 => ∃ (j : Nat), j ≤ f.code.length ∧ i = .int .i64 j ∧ wr2 = wr ∧ Hid (∀ x ∈ f.code.take j, insP x)) (fun i _ => f.code.length - (intOf i).toNat)
            case atStart => exact ⟨0, by omega, rfl, rfl, by simp [Hid]⟩
            case round =>
              obtain ⟨j, hj, rfl, rfl, HQ⟩ := hrel
              by_cases hjl : j < f.code.length
              · have hx : f.code[j]? = some f.code[j] := List.getElem?_eq_getElem hjl
                have HTJ := Lib.hid (List.take_succ_eq_append_getElem hjl)
                rcases HCV.out with ⟨o', c', hv', h0'⟩ | ⟨b2, off2, c2, hv', k1, k2, k3, k4⟩
                · rw [h0'] at hjl
                  simp at hjl
                injection hv' with e1 e2 e3
                subst e1 e3
                unfold maxLen at k3
                obtain ⟨z0, z1, z2, z3⟩ := k4 j _ hx
                have hjI : (j : Int) < (f.code.length : Int) := by omega
                generalize f.code[j] = x at *
                obtain ⟨op, n, a, s⟩ := x
                simp only at z0 z1 z2 z3
                have t2 : wr.cell? ⟨b2, off2 + j * 4 + 2, none⟩ = some (.int .i64 a) := (HB2.out.cell (World.block_lt_of_cell? w _ z2)).trans z2
                have t3 : wr.cell? ⟨b2, off2 + j * 4 + 3, none⟩ = some (.string s) := (HB2.out.cell (World.block_lt_of_cell? w _ z3)).trans z3
                clear hx k4 z0 z1 z2 z3
                by_cases ha0 : a < 0
                · have ga0 : decide (a < 0) = true := by simpa using ha0
                  clear ha0
                  go_wp2_with fail
                  go_ret
                  exact ⟨rfl, HB2.out⟩
                · by_cases ha1 : 1048576 < a
                  · have ga0 : decide (a < 0) = false := by simp; omega
                    have ga1 : decide (1048576 < a) = true := by simpa using ha1
                    clear ha0 ha1
                    go_wp2_with fail
                    go_ret
                    exact ⟨rfl, HB2.out⟩
                  · by_cases hs2 : 2000 < s.size
                    · have ga0 : decide (a < 0) = false := by simp; omega
                      have ga1 : decide (1048576 < a) = false := by simp; omega
                      have ga2 : (2000 : Int) < (s.size : Int) := by omega
                      clear ha0 ha1 hs2
                      go_wp2_with fail
                      go_ret
                      exact ⟨rfl, HB2.out⟩
                    · have ga0 : decide (a < 0) = false := by simp; omega
                      have ga1 : decide (1048576 < a) = false := by simp; omega
                      have ga2 : ¬ (2000 : Int) < (s.size : Int) := by omega
                      have HQ2 : Hid (∀ x ∈ f.code.take (j + 1), insP x) := by
                        intro y hy
                        rw [HTJ.out, List.mem_append, List.mem_singleton] at hy
                        rcases hy with hy | rfl
                        · exact HQ.out y hy
                        · exact ⟨by show 0 ≤ a; omega, by show a ≤ 1048576; omega, by show s.size ≤ 2000; omega⟩
                      clear ha0 ha1 hs2
                      go_wp2_with fail
                      go_roundw
                      case rel => exact ⟨j + 1, by omega, by go_num, by first | rfl | trivial, HQ2⟩
                      case measure => simp [intOf]; omega
              · obtain rfl : j = f.code.length := by omega
                have HP2 : Hid (∀ f ∈ fs.take (k + 1), funP f) := by
                  intro g hg
                  rw [HTK.out, List.mem_append, List.mem_singleton] at hg
                  rcases hg with hg | rfl
                  · exact HP.out g hg
                  · refine ⟨by have := HC0.out; omega, by have := HC1.out; omega, fun x hx => HQ.out x (by rw [List.take_of_length_le (Nat.le_refl _)]; exact hx)⟩
                go_wp2_with fail
                go_roundw
                case rel => exact ⟨k + 1, by omega, by go_num, by first | rfl | trivial, HP2⟩
                case measure => simp [intOf]; omega
      · as_aux_lemma =>
        obtain rfl : k = fs.length := by omega
        have hall : ∀ f ∈ fs, funP f := by
          have := HP.out
          rw [List.take_of_length_le (Nat.le_refl _)] at this
          exact this
        have hok : ∀ f ∈ fs, FunOK f := fun f hf => ⟨(hall f hf).1, (hall f hf).2.1, by have := HS.out.2 f hf; omega, fun x hx => ⟨(HT.out f hf x hx).op, (HT.out f hf x hx).n0, (HT.out f hf x hx).n1, ((hall f hf).2.2 x hx).1, ((hall f hf).2.2 x hx).2.1, ((hall f hf).2.2 x hx).2.2⟩⟩
        have hTL := encL_small fs HS.out.1 HS.out.2 hall
        have hde := decS_enc fs (by have := HS.out.1; omega) hok []
        rw [List.append_nil] at hde
        have HOK := Lib.hid hok
        have HTL := Lib.hid hTL
        have HDE := Lib.hid hde
        clear hall hok hTL hde HP hlt
        have hz2 := HB2.out.size
        have hb3 : Below wr.heap.size wr (wr.alloc (.cells #[.slice none 0 0] 38)) := (Below.refl _ _).alloc (Nat.le_refl _) _
        have hc3 := heap_alloc_new wr (.cells #[.slice none 0 0] 38)
        obtain ⟨w3, hw3⟩ : ∃ w3, wr.alloc (.cells #[.slice none 0 0] 38) = w3 := ⟨_, rfl⟩
        rw [hw3] at hb3 hc3
        have hB3 := HB2.out.trans (hb3.mono hz2)
        have H3 := Lib.hid (encode fs _ w w3 wr.heap.size HR.out hB3 hz2 hc3 HOK.out HTL.out)
        have HB3 := Lib.hid hB3
        clear hb3 hc3 hB3
        go_upto_region 14 with (fail)
        try rw [hw3]
        clear hw3
        generalize wr.heap.size = wb at *
        go_wp2_with fail
        refine H3.out.mono ?_
        rintro e w4 ⟨rfl, v4, hew⟩
        dsimp only
        have hB4 : Below w.heap.size w w4 := HB3.out.trans (hew.kept.below HB3.out.size (fun k hk => by omega))
        have H4 := Lib.hid (wdone wb w3.heap.size v4 (encL fs) w4 hew.at_ (by have := HTL.out; omega))
        have HB4 := Lib.hid hB4
        clear hew hB4 H3
        go_wp2_with fail
        refine H4.out.mono ?_
        rintro e w5 ⟨p5, rfl, ho5, hb5⟩
        dsimp only
        have hB5 := HB4.out.trans (hb5.mono HB4.out.size)
        have H5 := Lib.hid (D.newReader p5 (encL fs) w5 (Rd.of_own ho5) (by have := HTL.out; omega))
        have HB5 := Lib.hid hB5
        have HO5 := Lib.hid ho5
        clear hB5 hb5 ho5 H4
        go_wp2_with fail
        refine H5.out.mono ?_
        rintro e w6 ⟨b, rfl, hs6, hb6, hbw⟩
        dsimp only
        have hB6 := HB5.out.trans (hb6.mono HB5.out.size)
        have ho6 := own_below HO5.out hb6 (Nat.le_refl _)
        have hz5 := HB5.out.size
        have hbl6 : b < w6.heap.size := D.RS.lt hs6
        have hpb : ∀ k, p5.ownBlock = some k → k < w5.heap.size := fun k hk => (HO5.out.lt k hk).2
        have H6 := Lib.hid (decode (some ⟨b, 0, none⟩) (some (encL fs)) b w6 hs6 (fun a ha => by injection ha with ha; subst ha; exact hbl6) (by omega))
        have HB6 := Lib.hid hB6
        have HO6 := Lib.hid ho6
        have HPB := Lib.hid hpb
        clear hB6 ho6 hs6 hb6 hpb H5 HO5
        go_wp2_with fail
        refine H6.out.mono ?_
        rintro e w7 ⟨⟨v7, rfl, hv7⟩, hs7, hk7⟩
        dsimp only
        have hone : ∀ k, own1 (some ⟨b, 0, none⟩) k → k = b := fun k hk => by obtain ⟨a, ha, hb⟩ := hk; injection ha with ha; subst ha; exact hb.symm
        rw [HDE.out] at hv7 hs7
        have ho7 := own_kept HO6.out hk7 (fun k hk h => by have := hone k h; have := HPB.out k hk; omega)
        have hB7 : Below w.heap.size w w7 := HB6.out.trans (hk7.below HB6.out.size (fun k hk => by have := hone k hk; omega))
        have hst7 := fun (W : World) (hb : Below w7.heap.size w7 W) => toStr (Rd.of_own (own_below ho7 hb (Nat.le_refl _)))
        have HST := Lib.hid hst7
        have HL := Lib.hid (fun (W : World) (hb : Below w7.heap.size w7 W) => HR.out.below (hB7.trans (hb.mono hB7.size)) (Nat.le_refl _))
        have HM := Lib.hid (fun (W : World) (hb : Below w7.heap.size w7 W) => hv7.rd.below hb (Nat.le_refl _))
        have HEN := Lib.hid (fun (W : World) (hb : Below w7.heap.size w7 W) => D.rend (some ⟨b, 0, none⟩) (some []) W (hs7.below hb))
        have HB7 := Lib.hid hB7
        have ht7 := hst7 w7.drew (Below.refl _ _).drew
        have hF1 : fs.length ≤ 5000 := by have := HS.out.1; omega
        have HF2 : Hid (∀ f ∈ fs, f.code.length ≤ 1048576) := fun f hf => by have := HS.out.2 f hf; omega
        clear hv7 hs7 hk7 ho7 hB7 hst7 hone H6 HO6 HB6 HB5 HB4 HB3 HB2 HDE HPB
        unfold S at ht7
        go_upto_region 18 with (fail)
        refine wp_region_held_drew (S := fun w' => (convert 36 9 p5).run Try.prog w' = .ok (.string ⟨(encL fs).toArray⟩) w') (by kernel_rfl) ht7 ?_
        intro hHeld
        refine wpAnyH_take (i := 0) (v := ?_) (by simp only [List.getElem?_toArray, List.getElem?_cons_zero]; rfl) (by kernel_rfl) (by kernel_rfl) (by kernel_rfl) (by intro _ _ _ h; exact h) (Or.inl ⟨by rfl, ?_⟩) (by assumption) ?_
        rotate_left
        · (intro w hSw; (try dsimp only at hSw); go_simp; try with_reducible rfl)
        try simp only [Act.put, List.setIfInBounds_toArray, List.set_cons_zero, List.set_cons_succ]
        refine wpAnyH_take (i := 1) (v := ?_) (by simp only [List.getElem?_toArray, List.getElem?_cons_succ, List.getElem?_cons_zero]; rfl) (by kernel_rfl) (by kernel_rfl) (by kernel_rfl) (by intro _ _ _ h; exact h) (Or.inl ⟨by rfl, ?_⟩) (by assumption) ?_
        rotate_left
        · (intro w hSw; (try dsimp only at hSw); go_simp; try with_reducible rfl)
        try simp only [Act.put, List.setIfInBounds_toArray, List.set_cons_zero, List.set_cons_succ]
        refine wpAnyH_take (i := 2) (v := ?_) (by simp only [List.getElem?_toArray, List.getElem?_cons_succ, List.getElem?_cons_zero]; rfl) (by kernel_rfl) (by kernel_rfl) (by kernel_rfl) (by intro _ _ _ h; exact h) (Or.inl ⟨by rfl, ?_⟩) (by assumption) ?_
        rotate_left
        · (intro w hSw; (try dsimp only at hSw); go_simp; try with_reducible rfl)
        try simp only [Act.put, List.setIfInBounds_toArray, List.set_cons_zero, List.set_cons_succ]
        refine wpAnyH_ready (rs := [3]) (by kernel_rfl) (by simp) ?_
        refine AllReadyH.cons (by simp only [List.getElem?_toArray, List.getElem?_cons_succ, List.getElem?_cons_zero]; rfl) (fun K hK => ?_) AllReadyH.nil
        go_simp
        refine (funs_big fs _ _ (HL.out _ (by first | exact Below.refl _ _ | exact (Below.refl _ _).drew)) hF1 HF2.out).mono ?_
        rintro e w8 ⟨v8, rfl, hr8, hb8⟩
        have hb8' : Below w7.heap.size w7 w8 := (by first | exact hb8 | exact (Below.refl _ _).drew.trans hb8)
        have HB8 := Lib.hid hb8'
        have HR8 := Lib.hid hr8
        have ht8 := HST.out _ hb8'
        unfold S at ht8
        clear hb8 hr8 hb8'
        dsimp only
        refine hK.out _ _ ht8 (fun hHeld => ?_)
        clear hK K
        try simp only [Act.put, List.setIfInBounds_toArray, List.set_cons_zero, List.set_cons_succ]
        refine wpAnyH_ready (rs := [4]) (by kernel_rfl) (by simp) ?_
        refine AllReadyH.cons (by simp only [List.getElem?_toArray, List.getElem?_cons_succ, List.getElem?_cons_zero]; rfl) (fun K hK => ?_) AllReadyH.nil
        go_simp
        refine (rencode fs v8 w8 HR8.out HOK.out HTL.out).mono ?_
        rintro e w9 ⟨p9, rfl, ho9, hb9⟩
        have hb9' := HB8.out.trans (hb9.mono HB8.out.size)
        have HB9 := Lib.hid hb9'
        have ht9 := HST.out _ hb9'
        have hc9 := toStr (Rd.of_own ho9)
        unfold S at ht9 hc9
        clear hb9 ho9 hb9'
        dsimp only
        refine hK.out _ _ ht9 (fun hHeld => ?_)
        clear hK K
        try simp only [Act.put, List.setIfInBounds_toArray, List.set_cons_zero, List.set_cons_succ]
        refine wpAnyH_ready (rs := [5]) (by kernel_rfl) (by simp) ?_
        refine AllReadyH.cons (by simp only [List.getElem?_toArray, List.getElem?_cons_succ, List.getElem?_cons_zero]; rfl) (fun K hK => ?_) AllReadyH.nil
        go_simp
        refine hK.out _ _ ht9 (fun hHeld => ?_)
        clear hK K
        try simp only [Act.put, List.setIfInBounds_toArray, List.set_cons_zero, List.set_cons_succ]
        refine wpAnyH_take (i := 6) (v := ?_) (by simp only [List.getElem?_toArray, List.getElem?_cons_succ, List.getElem?_cons_zero]; rfl) (by kernel_rfl) (by kernel_rfl) (by kernel_rfl) (by intro _ _ _ h; exact h) (Or.inl ⟨by rfl, ?_⟩) (by assumption) ?_
        rotate_left
        · (intro w hSw; (try dsimp only at hSw); go_simp; (try simp only [beq_self_eq_true]); try with_reducible rfl)
        try simp only [Act.put, List.setIfInBounds_toArray, List.set_cons_zero, List.set_cons_succ]
        refine wpAnyH_take (i := 7) (v := ?_) (by simp only [List.getElem?_toArray, List.getElem?_cons_succ, List.getElem?_cons_zero]; rfl) (by kernel_rfl) (by kernel_rfl) (by kernel_rfl) (by intro _ _ _ h; exact h) (Or.inl ⟨by rfl, ?_⟩) (by assumption) ?_
        rotate_left
        · (intro w hSw; (try dsimp only at hSw); go_simp; try with_reducible rfl)
        try simp only [Act.put, List.setIfInBounds_toArray, List.set_cons_zero, List.set_cons_succ]
        refine wpAnyH_take (i := 8) (v := ?_) (by simp only [List.getElem?_toArray, List.getElem?_cons_succ, List.getElem?_cons_zero]; rfl) (by kernel_rfl) (by kernel_rfl) (by kernel_rfl) (by intro _ _ _ h; exact h) (Or.inl ⟨by rfl, ?_⟩) (by assumption) ?_
        rotate_left
        · (intro w hSw; (try dsimp only at hSw); go_simp; try with_reducible rfl)
        try simp only [Act.put, List.setIfInBounds_toArray, List.set_cons_zero, List.set_cons_succ]
        refine wpAnyH_ready (rs := [9]) (by kernel_rfl) (by simp) ?_
        refine AllReadyH.cons (by simp only [List.getElem?_toArray, List.getElem?_cons_succ, List.getElem?_cons_zero]; rfl) (fun K hK => ?_) AllReadyH.nil
        go_simp
        refine (HEN.out _ HB9.out).mono ?_
        rintro e w10 ⟨rfl, rfl⟩
        dsimp only
        refine hK.out _ _ ht9 (fun hHeld => ?_)
        clear hK K
        try simp only [Act.put, List.setIfInBounds_toArray, List.set_cons_zero, List.set_cons_succ]
        refine wpAnyH_take (i := 10) (v := ?_) (by simp only [List.getElem?_toArray, List.getElem?_cons_succ, List.getElem?_cons_zero]; rfl) (by kernel_rfl) (by kernel_rfl) (by kernel_rfl) (by intro _ _ _ h; exact h) (Or.inl ⟨by rfl, ?_⟩) (by assumption) ?_
        rotate_left
        · (intro w hSw; (try dsimp only at hSw); go_simp; try with_reducible rfl)
        try simp only [Act.put, List.setIfInBounds_toArray, List.set_cons_zero, List.set_cons_succ]
        refine wpAnyH_take (i := 11) (v := ?_) (by simp only [List.getElem?_toArray, List.getElem?_cons_succ, List.getElem?_cons_zero]; rfl) (by kernel_rfl) (by kernel_rfl) (by kernel_rfl) (by intro _ _ _ h; exact h) (Or.inl ⟨by rfl, ?_⟩) (by assumption) ?_
        rotate_left
        · (intro w hSw; (try dsimp only at hSw); go_simp; try with_reducible rfl)
        try simp only [Act.put, List.setIfInBounds_toArray, List.set_cons_zero, List.set_cons_succ]
        refine wpAnyH_take (i := 12) (v := ?_) (by simp only [List.getElem?_toArray, List.getElem?_cons_succ, List.getElem?_cons_zero]; rfl) (by kernel_rfl) (by kernel_rfl) (by kernel_rfl) (by intro _ _ _ h; exact h) (Or.inl ⟨by rfl, ?_⟩) (by assumption) ?_
        rotate_left
        · (intro w hSw; (try dsimp only at hSw); go_simp; try with_reducible rfl)
        try simp only [Act.put, List.setIfInBounds_toArray, List.set_cons_zero, List.set_cons_succ]
        refine wpAnyH_take (i := 14) (v := ?_) (by simp only [List.getElem?_toArray, List.getElem?_cons_succ, List.getElem?_cons_zero]; rfl) (by kernel_rfl) (by kernel_rfl) (by kernel_rfl) (by intro _ _ _ h; exact h) (Or.inl ⟨by rfl, ?_⟩) (by assumption) ?_
        rotate_left
        · (intro w hSw; (try dsimp only at hSw); go_simp; try with_reducible rfl)
        try simp only [Act.put, List.setIfInBounds_toArray, List.set_cons_zero, List.set_cons_succ]
        refine wpAnyH_ready (rs := [13]) (by kernel_rfl) (by simp) ?_
        refine AllReadyH.cons (by simp only [List.getElem?_toArray, List.getElem?_cons_succ, List.getElem?_cons_zero]; rfl) (fun K hK => ?_) AllReadyH.nil
        go_simp
        refine (funs_big fs _ v7 (HM.out _ HB9.out) hF1 HF2.out).mono ?_
        rintro e w11 ⟨v11, rfl, hr11, hb11⟩
        have hb11' := HB9.out.trans (hb11.mono HB9.out.size)
        have HB11 := Lib.hid hb11'
        have HR11 := Lib.hid hr11
        have ht11 := HST.out _ hb11'
        unfold S at ht11
        clear hb11 hr11 hb11'
        dsimp only
        refine hK.out _ _ ht11 (fun hHeld => ?_)
        clear hK K
        try simp only [Act.put, List.setIfInBounds_toArray, List.set_cons_zero, List.set_cons_succ]
        refine wpAnyH_ready (rs := [15]) (by kernel_rfl) (by simp) ?_
        refine AllReadyH.cons (by simp only [List.getElem?_toArray, List.getElem?_cons_succ, List.getElem?_cons_zero]; rfl) (fun K hK => ?_) AllReadyH.nil
        go_simp
        refine (funs_big fs _ _ (HL.out _ HB11.out) hF1 HF2.out).mono ?_
        rintro e w12 ⟨v12, rfl, hr12, hb12⟩
        have hb12' := HB11.out.trans (hb12.mono HB11.out.size)
        have HB12 := Lib.hid hb12'
        have HR12 := Lib.hid hr12
        have HR11' := Lib.hid (HR11.out.below hb12 (Nat.le_refl _))
        have ht12 := HST.out _ hb12'
        unfold S at ht12
        clear hb12 hr12 hb12'
        dsimp only
        refine hK.out _ _ ht12 (fun hHeld => ?_)
        clear hK K
        try simp only [Act.put, List.setIfInBounds_toArray, List.set_cons_zero, List.set_cons_succ]
        refine wpAnyH_ready (rs := [16]) (by kernel_rfl) (by simp) ?_
        refine AllReadyH.cons (by simp only [List.getElem?_toArray, List.getElem?_cons_succ, List.getElem?_cons_zero]; rfl) (fun K hK => ?_) AllReadyH.nil
        go_simp
        refine (same_yes fs v11 v12 _ HR11'.out HR12.out).mono ?_
        rintro e w13 ⟨rfl, hb13⟩
        have hb13' := HB12.out.trans (hb13.mono HB12.out.size)
        have HB13 := Lib.hid hb13'
        have ht13 := HST.out _ hb13'
        unfold S at ht13
        clear hb13 hb13'
        dsimp only
        refine hK.out _ _ ht13 (fun hHeld => ?_)
        clear hK K
        try simp only [Act.put, List.setIfInBounds_toArray, List.set_cons_zero, List.set_cons_succ]
        refine wpAnyH_take (i := 17) (v := ?_) (by simp only [List.getElem?_toArray, List.getElem?_cons_succ, List.getElem?_cons_zero]; rfl) (by kernel_rfl) (by kernel_rfl) (by kernel_rfl) (by intro _ _ _ h; exact h) (Or.inl ⟨by rfl, ?_⟩) (by assumption) ?_
        rotate_left
        · (intro w hSw; (try dsimp only at hSw); go_simp; try with_reducible rfl)
        try simp only [Act.put, List.setIfInBounds_toArray, List.set_cons_zero, List.set_cons_succ]
        refine wpAnyH_take (i := 18) (v := ?_) (by simp only [List.getElem?_toArray, List.getElem?_cons_succ, List.getElem?_cons_zero]; rfl) (by kernel_rfl) (by kernel_rfl) (by kernel_rfl) (by intro _ _ _ h; exact h) (Or.inl ⟨by rfl, ?_⟩) (by assumption) ?_
        rotate_left
        · (intro w hSw; (try dsimp only at hSw); go_simp; try with_reducible rfl)
        try simp only [Act.put, List.setIfInBounds_toArray, List.set_cons_zero, List.set_cons_succ]
        refine wpAnyH_done (by kernel_rfl) ?_ _
        go_wp2_with fail
        go_ret
        exact ⟨rfl, HB7.out.trans (HB13.out.mono HB7.out.size)⟩
end Go.Proofs.Ythmnhacgcdcbiaa
