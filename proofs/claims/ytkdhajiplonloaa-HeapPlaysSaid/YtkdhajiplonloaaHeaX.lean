/- move: an object that is new in the other heap. -/
import Derived.Test.YtkdhajiplonloaaHeaV
namespace Go.Proofs.Ytkdhajiplonloaa
open Go.RowKit HeaM

theorem mv_new {W : List Nat} {F : List Bool} {s : St} {i : Nat} (hi : Ob W F i) (hj : look s.1 i = none) : mv W F s (2 * i) = ((s.1 ++ [(i, s.2.length)], s.2 ++ obj W i), 2 * s.2.length) := by
  have h1 := hi.fits
  have h2 := szX_pos (W.getD i 0)
  have hob : isObj W F (2 * i) = true := isObj_iff.2 ⟨by omega, by omega, by rw [show 2 * i / 2 = i by omega]; exact hi.mark⟩
  unfold mv
  rw [if_pos hob, show 2 * i / 2 = i by omega, hj]
theorem mv_old {W : List Nat} {F : List Bool} {s : St} {i j : Nat} (hi : Ob W F i) (hj : look s.1 i = some j) : mv W F s (2 * i) = (s, 2 * j) := by
  have h1 := hi.fits
  have h2 := szX_pos (W.getD i 0)
  have hob : isObj W F (2 * i) = true := isObj_iff.2 ⟨by omega, by omega, by rw [show 2 * i / 2 = i by omega]; exact hi.mark⟩
  unfold mv
  rw [if_pos hob, show 2 * i / 2 = i by omega, hj]
theorem mv_no {W : List Nat} {F : List Bool} {s : St} {x : Nat} (h : isObj W F x = false) : mv W F s x = (s, x) := by
  unfold mv
  rw [h]
  rfl

set_option maxHeartbeats 4000000 in
set_option maxRecDepth 100000 in
theorem move_new (b base q c : Nat) (v1 v2 : Value) (t B0 gt : Nat) (u2 : Value) (W : List Nat) (F : List Bool) (s : St) (i : Nat) (w : World) (h : MS w b base q c v1 v2 t B0 gt u2 W F s) (hg : Good W F) (hi : Ob W F i) (hj : look s.1 i = none) :
    Calls Try.prog 45 #[.pointer (some ⟨b, 0, none⟩), .pointer (some ⟨t, 0, none⟩), .int .u64 ((2 * i : Nat) : Int)] w fun e w' => MovePost w w' b base q c v1 v2 t B0 gt u2 W F (mv W F s (2 * i)) e := by
  have hinv := inv_mv h.inv hg (2 * i)
  rw [mv_new hi hj] at hinv ⊢
  have hmax := hg.max
  have hfit := hi.fits
  have hpos := szX_pos (W.getD i 0)
  have hXlt := hi.lt
  have hoa := fwd_objAt h.inv.ob hj hi
  have HO := isobject_t b base q c v1 v2 _ F (2 * i) w h.h (by omega) (by rw [fwd_length]; exact hg.len) (by rw [fwd_length]; omega)
  rw [hoa.isObj] at HO
  have H := Lib.hid HO
  have HOb := Lib.hid (object_t b base q c v1 v2 _ F i _ _ _ _ w h.h hoa (by rw [fwd_length]; exact hg.len) (by rw [fwd_length]; omega))
  obtain ⟨c0, c1, c2, c3⟩ := h.h.cells
  obtain ⟨g, cap, hv1, hcap, hcm⟩ : ∃ g cap, v1 = .slice (some ⟨g, 0, none⟩) W.length cap ∧ W.length ≤ cap ∧ cap ≤ maxLen := by
    rcases h.h.own1.2 with ⟨_, hn⟩ | ⟨g, cap, cur, e, _, _, hc, hm, _⟩
    · rw [fwd_length] at hn; omega
    · rw [fwd_length] at e hc
      exact ⟨g, cap, e, hc, hm⟩
  have own1 := h.h.own1
  rw [hv1] at own1
  unfold OwnW at own1
  rw [fwd_length] at own1
  have hcells : ∀ j, i ≤ j → j < i + szX (W.getD i 0) → w.cell? ⟨g, j, none⟩ = some (.int .u64 (W.getD j 0 : Int)) := by
    intro j h1 h2
    rw [own1.cellAt j (by omega)]
    simp only [Ws, List.getElem?_map, fwd_in h.inv.ob hj hi h1 h2]
    rw [List.getD_eq_getElem?_getD, List.getElem?_eq_getElem (by omega)]
    rfl
  have hfree := own1.frozenAt i
  have hgB : g < B0 := h.far g (.inr (.inl (by rw [hv1]; rfl)))
  have hgl := (own1.lt g rfl).2
  have hm := hcells i (Nat.le_refl _) (by omega)
  have hlen := hinv.len
  have htl := hinv.tot_le
  simp only [List.length_append, obj_length hi] at hlen
  obtain ⟨N, hN⟩ : ∃ N, szX (W.getD i 0) = N := ⟨_, rfl⟩
  obtain ⟨X, hX⟩ : ∃ X, W.getD i 0 = X := ⟨_, rfl⟩
  obtain ⟨k, hk⟩ : ∃ k, X % 256 = k := ⟨_, rfl⟩
  have hkind := hi.kind
  rw [hX, hk] at hkind
  have hk1 : 1 ≤ k ∧ k ≤ 6 := of_decide_eq_true hkind
  -- the rest of the object
  have hRl : ((W.drop (i + 1)).take (N - 1)).length = N - 1 := by rw [List.length_take, List.length_drop]; rw [hN] at hfit hpos; omega
  have hobj : obj W i = X :: (W.drop (i + 1)).take (N - 1) := by rw [obj_head hi, hN, hX]
  have hRcells : ∀ j u, (Ws ((W.drop (i + 1)).take (N - 1)))[j]? = some u → w.cell? ⟨g, i + 1 + j, none⟩ = some u := by
    intro j u hu
    have hjl : j < N - 1 := by have := (List.getElem?_eq_some_iff.1 hu).1; rw [Ws_length, hRl] at this; exact this
    simp only [Ws, List.getElem?_map, List.getElem?_take, if_pos hjl, List.getElem?_drop] at hu
    rw [hcells (i + 1 + j) (by omega) (by rw [hN]; omega)]
    rw [List.getD_eq_getElem?_getD]
    rw [List.getElem?_eq_getElem (by rw [hN] at hfit; omega)] at hu ⊢
    simpa [Wv] using hu
  have hmk : mk W (s.1 ++ [(i, s.2.length)]) = mk W s.1 ++ true :: List.replicate ((W.drop (i + 1)).take (N - 1)).length false := by
    rw [mk_snoc, hRl]
    simp only
    rw [hN]
  rw [hN] at hpos hfit hlen hoa HOb
  rw [hX] at hm hXlt hoa
  simp only at htl
  rw [← hlen] at htl
  rw [hobj] at hinv ⊢
  generalize (W.drop (i + 1)).take (N - 1) = R at *
  have hlay : ∀ (W1 : World) (_ : Below w.heap.size w W1) (A : Addr) (K : Nat), (N - 1 = 0 ∨ A = ⟨g, i + 1, none⟩) → N - 1 ≤ K → K ≤ maxLen → Calls Try.prog 38 #[.pointer (some ⟨t, 0, none⟩), .int .u64 (X : Int), .slice (some A) (N - 1) K] W1 fun e w' =>
      LayPost W1 w' t B0 0 0 (.slice (some ⟨gt, 0, none⟩) s.2.length W.length) u2 s.2 (mk W s.1) X R e := by
    intro W1 hb1 A K hA hK hKm
    have h1 := h.below hb1
    refine lay_t t B0 0 0 _ u2 s.2 (mk W s.1) X _ R _ h1.to h1.size ?_ (by have := h.inv.len; omega) (by rw [mk_length, h.inv.len]; exact Nat.le_refl _)
    intro w' hk'
    refine .inr ⟨A, K, by rw [Ws_length, hRl], by rw [Ws_length, hRl]; exact hK, hKm, fun j u hu => ?_⟩
    have hj0 : j < N - 1 := by have := (List.getElem?_eq_some_iff.1 hu).1; rw [Ws_length, hRl] at this; exact this
    rcases hA with hA | hA
    · omega
    · subst hA
      rw [add_none, hk'.cell (p := ⟨g, i + 1 + j, none⟩) (by have := hb1.size; simp only; omega) (fun hs => by have := h1.toB g hs; omega), hb1.cell (p := ⟨g, i + 1 + j, none⟩) hgl]
      exact hRcells j u hu
  have HLAY := Lib.hid hlay
  have HM : Hid (MS w b base q c v1 v2 t B0 gt u2 W F s) := h
  have HK : Hid (X % 256 = k) := hk
  have HN : Hid (szX (W.getD i 0) = N) := hN
  have HHOA := Lib.hid hoa
  have HINV := Lib.hid hinv
  have HMK := Lib.hid hmk
  have HOBJ := Lib.hid hobj
  have HRL := Lib.hid hRl
  have HTL : s.2.length + N ≤ W.length := htl
  have hX' : (X : Int) ≤ 18446744073709551615 := by omega
  have hi0 : (i : Int) < (W.length : Int) := by omega
  have hmx : (W.length : Int) ≤ 10000000 := by omega
  have hdiv : (2 * (i : Int)) / 2 = (i : Int) := by omega
  have hk0 : ((k : Int) == 0) = false := by rw [beq_eq_false_iff_ne]; omega
  have hNp : 0 < N := hpos
  have hNi : (1 : Int) ≤ (N : Int) := by omega
  have hT0 : (s.2.length : Int) ≤ 10000000 := by omega
  have hTd : (2 * (s.2.length : Int)) / 2 = (s.2.length : Int) := by omega
  unfold maxLen at hcm
  have HV := Lib.hid hv1
  clear HO hlay h hg hi hj hinv hoa own1 hcells hlen htl hk hkind hRl hobj hRcells hmk hN hX hv1
  by_cases hc1 : cap - i = 1
  · obtain rfl : N = 1 := by omega
    have hl0 : ∀ (W1 : World) (_ : Below w.heap.size w W1), Calls Try.prog 38 #[.pointer (some ⟨t, 0, none⟩), .int .u64 (X : Int), .slice (some ⟨g, i, none⟩) 0 0] W1 fun e w' =>
        LayPost W1 w' t B0 0 0 (.slice (some ⟨gt, 0, none⟩) s.2.length W.length) u2 s.2 (mk W s.1) X R e := fun W1 hb1 => HLAY.out W1 hb1 ⟨g, i, none⟩ 0 (.inl rfl) (Nat.le_refl _) (Nat.zero_le _)
    have HL0 := Lib.hid hl0
    clear hl0
    obtain rfl := HV.out
    go_enter Try.func45, Try.ntmps45
    go_wp2_with fail
    refine H.out.mono ?_
    rintro e w' ⟨rfl, rfl⟩
    go_wp2_with fail
    refine (kind_k X k _ hXlt HK).mono ?_
    rintro e w' ⟨rfl, rfl⟩
    go_wp2_with fail
    refine HOb.out.mono ?_
    rintro e w' ⟨g', cap', nq, hv, -, -, rfl, rfl⟩
    simp only [Value.slice.injEq, Option.some.injEq, Addr.mk.injEq, and_true] at hv
    obtain ⟨rfl, -, rfl⟩ := hv
    have hmq := (below_drewN w'.heap.size nq w').cell (p := ⟨g, i, none⟩) hgl
    have HBQ := Lib.hid (below_drewN w'.heap.size nq w')
    generalize w'.drewN nq = wq at *
    rw [hm] at hmq
    go_wp2_with fail
    go_region_held3 (fun w2 => w2.cell? ⟨g, i, none⟩ = some (.int .u64 (X : Int))) (go_keep)
      (first
        | (go_at_call 38; refine (HL0.out _ (by first | exact HBQ.out | exact HBQ.out.drew)).mono ?_; rintro e wl ⟨rfl, u1', u2', hL, hroom⟩; have HL := Lib.hid hL; have HROOM := Lib.hid hroom; have hml : wl.cell? ⟨g, i, none⟩ = some (.int .u64 (X : Int)) := (HL.out.kept.cell (p := ⟨g, i, none⟩) (by have := HBQ.out.size; simp; omega) (fun hs => by have := HM.out.toB g hs; omega)).trans hmq; clear hL hroom))
    have hgs : ¬ three t (.slice (some ⟨gt, 0, none⟩) s.2.length W.length) u2 g := fun hs => by have := HM.out.toB g hs; omega
    have hfl : wl.frozen? ⟨g, i, none⟩ = false := (World.frozen?_of_block (a := ⟨g, i, none⟩) (HL.out.kept.block g (by have := HBQ.out.size; simp; omega) hgs)).trans ((HBQ.out.frozen (p := ⟨g, i, none⟩) hgl).trans hfree)
    have hgll := World.block_lt_of_cell? wl _ hml
    have fin : MovePost w' (wl.setCell ⟨g, i, none⟩ (.int .u64 ((s.2.length * 256 + 0 : Nat) : Int))) b base q c (.slice (some ⟨g, 0, none⟩) W.length cap) v2 t B0 gt u2 W F ((s.1 ++ [(i, s.2.length)], s.2 ++ X :: R), 2 * s.2.length) (.returned (.int .u64 ((2 * s.2.length : Nat) : Int))) := by
      have hM := HM.out.below HBQ.out.drew
      have hk0 : Kept (S2 b (.slice (some ⟨g, 0, none⟩) W.length cap) v2 t gt u2) w' wl := (Below.kept (n := w'.heap.size) HBQ.out.drew (fun k h1 h2 => by omega)).step HL.out.kept (fun k hk => .inl (.inr (by rcases hk with hk | hk | hk; exact .inl hk; exact .inr (.inl (by simpa [Value.ownBlock] using hk.symm)); exact .inr (.inr hk))))
      have hu := HROOM.out gt W.length rfl (by rw [HRL.out]; omega)
      refine ⟨rfl, u2', ⟨?_, ?_, HINV.out, HM.out.far, HM.out.tB, ?_⟩, Kept.setCell (p := ⟨g, i, none⟩) hk0 (.inl (.inl (.inr (.inl rfl)))) _⟩
      · rw [fwd_snoc]
        exact (hM.h.kept HL.out.kept fun k hk hs => by have := hM.far k hk; have := hM.toB k hs; omega).store
      · have hT := HL.out.at_
        rw [hu] at hT
        have hlen : (s.2 ++ X :: R).length = s.2.length + (R.length + 1) := by rw [List.length_append, List.length_cons]
        simp only
        rw [HMK.out, hlen]
        refine hT.setOther fun hs => ?_
        rcases HL.out.new g (by rw [← hu] at hs; exact hs) with h1 | h1
        · exact hgs h1
        · have := HBQ.out.size; simp at h1; omega
      · have := hk0.size; have := HM.out.size; simp; omega
    have FIN := Lib.hid fin
    clear fin
    go_wp2_with fail
    refine (head_t' 0 s.2.length _ (s.2.length * 256 + 0) (by omega) (by omega) rfl).mono ?_
    rintro e w' ⟨rfl, rfl⟩
    generalize hY : s.2.length * 256 + 0 = Y at *
    go_wp2_with fail
    go_ret
    exact FIN.out
  · have hcN : N - 1 ≤ cap - i - 1 := by omega
    obtain rfl := HV.out
    go_enter Try.func45, Try.ntmps45
    go_wp2_with fail
    refine H.out.mono ?_
    rintro e w' ⟨rfl, rfl⟩
    go_wp2_with fail
    refine (kind_k X k _ hXlt HK).mono ?_
    rintro e w' ⟨rfl, rfl⟩
    go_wp2_with fail
    refine HOb.out.mono ?_
    rintro e w' ⟨g', cap', nq, hv, -, -, rfl, rfl⟩
    simp only [Value.slice.injEq, Option.some.injEq, Addr.mk.injEq, and_true] at hv
    obtain ⟨rfl, -, rfl⟩ := hv
    have hmq := (below_drewN w'.heap.size nq w').cell (p := ⟨g, i, none⟩) hgl
    have HBQ := Lib.hid (below_drewN w'.heap.size nq w')
    generalize w'.drewN nq = wq at *
    rw [hm] at hmq
    have eN1 : IntKind.i64.wrap ((N : Int) - 1) = (N : Int) - 1 := IntWalk.i64_in _ (by omega)
    go_wp2_with fail
    go_region_held3 (fun w2 => w2.cell? ⟨g, i, none⟩ = some (.int .u64 (X : Int))) (go_keep)
      (first
        | (go_at_call 38; refine (HLAY.out _ (by first | exact HBQ.out | exact HBQ.out.drew) _ _ (.inr rfl) hcN (by unfold maxLen; omega)).mono ?_; rintro e wl ⟨rfl, u1', u2', hL, hroom⟩; have HL := Lib.hid hL; have HROOM := Lib.hid hroom; have hml : wl.cell? ⟨g, i, none⟩ = some (.int .u64 (X : Int)) := (HL.out.kept.cell (p := ⟨g, i, none⟩) (by have := HBQ.out.size; simp; omega) (fun hs => by have := HM.out.toB g hs; omega)).trans hmq; clear hL hroom))
    have hgs : ¬ three t (.slice (some ⟨gt, 0, none⟩) s.2.length W.length) u2 g := fun hs => by have := HM.out.toB g hs; omega
    have hfl : wl.frozen? ⟨g, i, none⟩ = false := (World.frozen?_of_block (a := ⟨g, i, none⟩) (HL.out.kept.block g (by have := HBQ.out.size; simp; omega) hgs)).trans ((HBQ.out.frozen (p := ⟨g, i, none⟩) hgl).trans hfree)
    have hgll := World.block_lt_of_cell? wl _ hml
    have fin : MovePost w' (wl.setCell ⟨g, i, none⟩ (.int .u64 ((s.2.length * 256 + 0 : Nat) : Int))) b base q c (.slice (some ⟨g, 0, none⟩) W.length cap) v2 t B0 gt u2 W F ((s.1 ++ [(i, s.2.length)], s.2 ++ X :: R), 2 * s.2.length) (.returned (.int .u64 ((2 * s.2.length : Nat) : Int))) := by
      have hM := HM.out.below HBQ.out.drew
      have hk0 : Kept (S2 b (.slice (some ⟨g, 0, none⟩) W.length cap) v2 t gt u2) w' wl := (Below.kept (n := w'.heap.size) HBQ.out.drew (fun k h1 h2 => by omega)).step HL.out.kept (fun k hk => .inl (.inr (by rcases hk with hk | hk | hk; exact .inl hk; exact .inr (.inl (by simpa [Value.ownBlock] using hk.symm)); exact .inr (.inr hk))))
      have hu := HROOM.out gt W.length rfl (by rw [HRL.out]; omega)
      refine ⟨rfl, u2', ⟨?_, ?_, HINV.out, HM.out.far, HM.out.tB, ?_⟩, Kept.setCell (p := ⟨g, i, none⟩) hk0 (.inl (.inl (.inr (.inl rfl)))) _⟩
      · rw [fwd_snoc]
        exact (hM.h.kept HL.out.kept fun k hk hs => by have := hM.far k hk; have := hM.toB k hs; omega).store
      · have hT := HL.out.at_
        rw [hu] at hT
        have hlen : (s.2 ++ X :: R).length = s.2.length + (R.length + 1) := by rw [List.length_append, List.length_cons]
        simp only
        rw [HMK.out, hlen]
        refine hT.setOther fun hs => ?_
        rcases HL.out.new g (by rw [← hu] at hs; exact hs) with h1 | h1
        · exact hgs h1
        · have := HBQ.out.size; simp at h1; omega
      · have := hk0.size; have := HM.out.size; simp; omega
    have FIN := Lib.hid fin
    clear fin
    go_wp2_with fail
    refine (head_t' 0 s.2.length _ (s.2.length * 256 + 0) (by omega) (by omega) rfl).mono ?_
    rintro e w' ⟨rfl, rfl⟩
    generalize hY : s.2.length * 256 + 0 = Y at *
    go_wp2_with fail
    go_ret
    exact FIN.out


theorem move_any (b base q c : Nat) (v1 v2 : Value) (t B0 gt : Nat) (u2 : Value) (W : List Nat) (F : List Bool) (s : St) (x : Nat) (w : World) (h : MS w b base q c v1 v2 t B0 gt u2 W F s) (hg : Good W F) (hx : x < 18446744073709551616) :
    Calls Try.prog 45 #[.pointer (some ⟨b, 0, none⟩), .pointer (some ⟨t, 0, none⟩), .int .u64 (x : Int)] w fun e w' => MovePost w w' b base q c v1 v2 t B0 gt u2 W F (mv W F s x) e := by
  rcases ho : isObj W F x with _ | _
  · rw [mv_no ho]
    exact move_no b base q c v1 v2 t B0 gt u2 W F s x w h hg hx ho
  · obtain ⟨h1, h2, h3⟩ := isObj_iff.1 ho
    obtain ⟨i, rfl⟩ : ∃ i, x = 2 * i := ⟨x / 2, by omega⟩
    rw [show 2 * i / 2 = i by omega] at h3
    have hi := hg.obs i h3
    rcases hl : look s.1 i with _ | j
    · exact move_new b base q c v1 v2 t B0 gt u2 W F s i w h hg hi hl
    · rw [mv_old hi hl]
      exact move_old b base q c v1 v2 t B0 gt u2 W F s i j w h hg hi hl

/-- Many things moved, one behind the other: what there is then, and where they are. -/
def mvs (W : List Nat) (F : List Bool) (s : St) (xs : List Nat) : St × List Nat := xs.foldl (fun q x => ((mv W F q.1 x).1, q.2 ++ [(mv W F q.1 x).2])) (s, [])
theorem mvs_snoc (W : List Nat) (F : List Bool) (s : St) (xs : List Nat) (x : Nat) : mvs W F s (xs ++ [x]) = ((mv W F (mvs W F s xs).1 x).1, (mvs W F s xs).2 ++ [(mv W F (mvs W F s xs).1 x).2]) := by
  unfold mvs
  rw [List.foldl_append]
  rfl
theorem mvs_length (W : List Nat) (F : List Bool) (s : St) (xs : List Nat) : (mvs W F s xs).2.length = xs.length := by
  unfold mvs
  suffices h : ∀ q : St × List Nat, (xs.foldl (fun q x => ((mv W F q.1 x).1, q.2 ++ [(mv W F q.1 x).2])) q).2.length = q.2.length + xs.length by
    have := h (s, [])
    simpa using this
  induction xs with
  | nil => intro q; simp
  | cons x t ih => intro q; rw [List.foldl_cons, ih]; simp; omega
end Go.Proofs.Ytkdhajiplonloaa
