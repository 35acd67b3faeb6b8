/- MacBB, MacBD, in one text. -/
import Derived.Test.YteenlckpjncgoaaDoorMacBA
import Derived.BigRegion

namespace Go.Proofs.YteenlckpjncgoaaDoor
open Go.RowKit HeaM Ma

set_option maxHeartbeats 1000000 in
set_option maxRecDepth 100000 in
theorem operate_eqt {C : Cx} {s' : Ms} {n : Nat} {sign a b : Int} {w : World} (hs : sign = 5 ∨ sign = 6) (h : Calls Tryd.prog 69 #[.pointer (some ⟨C.lo, 0, none⟩), .int .i64 sign, .int .u64 a, .int .u64 b] w (OkRun C s' n)) :
    Calls Tryd.prog 50 #[.pointer (some ⟨C.lo, 0, none⟩), .int .i64 sign, .int .u64 a, .int .u64 b] w (OkRun C s' n) := by
  have HE := Lib.hid h
  clear h
  rcases hs with rfl | rfl
  all_goals
    go_enter Tryd.func50, Tryd.ntmps50
    go_wp2_with fail
    refine HE.out.mono ?_
    rintro e w' ⟨rfl, hw⟩
    have HW := Lib.hid hw
    clear hw
    go_wp2
    go_ret
    exact ⟨rfl, HW.out⟩

theorem dc_op (C : Cx) (n a : Int) (str : ByteArray) : DoC C ⟨20, n, a, str⟩ := by
  intro w s s' m f fs h hf hw hd
  have hd' : (match s.stk with | b :: a :: t => operate C.m { s with stk := t } n a b | _ => none) = some (m, s') := hd
  rcases hs : s.stk with _ | ⟨vb, _ | ⟨va, t⟩⟩
  · rw [hs] at hd'; cases hd'
  · rw [hs] at hd'; cases hd'
  rw [hs] at hd'
  have hn := hw.1
  have htl : t.length ≤ 1000000000 := by rw [hs] at hn; simp only [List.length_cons] at hn; omega
  refine do_op n a str h hs (by omega) fun w1 h1 => ?_
  have hra : Rep s.W s.F va ∧ Rep s.W s.F vb := by
    obtain ⟨_, _, _, _, _, _, _, h⟩ := h
    exact ⟨h.g.rstk va (by rw [hs]; simp), h.g.rstk vb (by rw [hs]; simp)⟩
  by_cases hsp : s.fuel = 0 ∧ (n = 5 ∨ n = 6)
  · have hd2 : operate C.m { s with stk := t } n va vb = some (m, s') := hd'
    unfold operate at hd2
    rw [if_pos hsp.2] at hd2
    rw [if_pos (show ({ s with stk := t } : Ms).fuel = 0 from hsp.1)] at hd2
    simp only [Option.some.injEq, Prod.mk.injEq] at hd2
    obtain ⟨rfl, rfl⟩ := hd2
    exact operate_spent hsp.2 hsp.1 h1
  · have hnsp : s.fuel ≠ 0 ∨ ¬ (n = 5 ∨ n = 6) := by
      by_cases h0 : s.fuel = 0
      · exact .inr fun h5 => hsp ⟨h0, h5⟩
      · exact .inl h0
    rcases operate_shape (s := { s with stk := t }) (va := va) (vb := vb) hnsp hd' with ⟨x, y, rfl, rfl⟩ | ⟨i, l, j, k, rfl, rfl, hsg⟩
    · exact operate_num h1 hra.1 hra.2 (Lib.hid rfl) (Lib.hid rfl) hd' htl (by have := hw.2.1; show s.frs.length ≤ _; omega) (by have := hw.2.2.1; show s.trs.length ≤ _; omega)
    · by_cases h9 : n = 9
      · subst h9
        have hd2 : Ma.text C.m { s with stk := t } (l ++ k) = some (m, s') := hd'
        exact operate_cat h1 hra.1 hra.2 (Lib.hid rfl) (Lib.hid rfl) hd2 htl (by have := hw.2.1; show s.frs.length ≤ _; omega) (by have := hw.2.2.1; show s.trs.length ≤ _; omega)
      · have h56 : n = 5 ∨ n = 6 := by omega
        have hfu : s.fuel ≠ 0 := hnsp.elim id fun g => absurd h56 g
        have hd2 : operate C.m { s with stk := t } n (.txt i l) (.txt j k) = some (m, s') := hd'
        unfold operate at hd2
        rw [if_pos h56, if_neg (show ¬ ({ s with stk := t } : Ms).fuel = 0 from hfu)] at hd2
        simp only [truth, ok, Option.some.injEq, Prod.mk.injEq] at hd2
        obtain ⟨rfl, rfl⟩ := hd2
        exact operate_eqt h56 (equal_yes h56 htl (examine_txt h1 hfu hra.1 hra.2 (Lib.hid rfl) (Lib.hid rfl)))

set_option maxHeartbeats 1000000 in
set_option maxRecDepth 100000 in
/-- A global. -/
theorem dc_glob (C : Cx) (n a : Int) (str : ByteArray) : DoC C ⟨5, n, a, str⟩ := by
  intro w s s' m f fs h hf hw hd
  have hd' : (if 0 ≤ n then match C.m.globs[n.toNat]? with
    | some v => ok (Ma.push s v)
    | none => none else none) = some (m, s') := hd
  by_cases h0 : 0 ≤ n
  · rw [if_pos h0] at hd'
    rcases hg : C.m.globs[n.toNat]? with _ | v
    · rw [hg] at hd'; cases hd'
    · rw [hg] at hd'
      simp only [ok, Option.some.injEq, Prod.mk.injEq] at hd'
      obtain ⟨rfl, rfl⟩ := hd'
      obtain ⟨k, rfl⟩ : ∃ k : Nat, n = (k : Int) := ⟨n.toNat, by omega⟩
      rw [Int.toNat_natCast] at hg
      have hkl : k < C.m.globs.length := (List.getElem?_eq_some_iff.1 hg).1
      have h2 : RunE C (w.alloc (.cells #[.int .u8 5, .int .i64 (k : Int), .int .i64 a, .string str] 33)) s := h.ins 5 (k : Int) a str
      have hblk := cell_of_row _ w.heap.size 1 _ _ (0, 0) (heap_alloc_new w (.cells #[.int .u8 5, .int .i64 (k : Int), .int .i64 a, .string str] 33))
      simp only [List.getElem?_toArray, List.getElem?_cons_succ, List.getElem?_cons_zero] at hblk
      have HE := Lib.hid h2
      have hrep : Rep s.W s.F v := by
        obtain ⟨_, _, _, _, _, _, _, h3⟩ := h2
        exact h3.g.rglb v (List.mem_of_getElem? hg)
      have hgc : ∃ o c, C.vg = .slice o C.m.globs.length c ∧ C.m.globs.length ≤ c ∧ c ≤ maxLen ∧ ∀ W : World, RunE C W s → W.cell? ⟨C.M, 2, none⟩ = some C.vg ∧ ∃ b off, o = some ⟨b, off, none⟩ ∧ W.cell? ⟨b, off + k, none⟩ = some (.int .u64 (v.word : Int)) := by
        have key : ∀ W : World, RunE C W s → ∃ a c, C.vg = .slice (some a) C.m.globs.length c ∧ C.m.globs.length ≤ c ∧ c ≤ maxLen ∧ a.spot = none ∧ W.cell? (a.add k) = some (.int .u64 (v.word : Int)) := by
          rintro W ⟨_, _, _, _, _, _, _, h3⟩
          rcases (h3.fit.stat W h3.g.kept).2.1 with ⟨_, hnil⟩ | ⟨a, c, hv, hl, hm, hc⟩
          · have := congrArg List.length hnil
            simp only [Ws, List.length_map, List.length_nil] at this
            omega
          · have e : (Ws (C.m.globs.map V.word)).length = C.m.globs.length := by simp [Ws]
            rw [e] at hv hl
            have h0 := hc 0 (.int .u64 ((C.m.globs[0]'(by omega)).word : Int)) (by
              rw [Ws, List.getElem?_map, List.getElem?_map, List.getElem?_eq_getElem (by omega)]
              rfl)
            have hsp : a.spot = none := by
              have := World.cell?_spot h0
              unfold Addr.add at this
              rw [if_pos rfl] at this
              exact this
            exact ⟨a, c, hv, hl, hm, hsp, hc k _ (by
              rw [Ws, List.getElem?_map, List.getElem?_map, hg]
              rfl)⟩
        obtain ⟨a0, c0, hv, hl, hm, hsp, _⟩ := key _ h2
        refine ⟨some a0, c0, hv, hl, hm, fun W hW => ⟨?_, ?_⟩⟩
        · obtain ⟨_, _, _, _, _, _, _, h3⟩ := hW
          exact h3.mach.2.2
        · obtain ⟨a1, c1, hv1, _, _, _, hc1⟩ := key W hW
          rw [hv] at hv1
          injection hv1 with hv1 _ _
          injection hv1 with hv1
          subst hv1
          obtain ⟨b, off, spot⟩ := a0
          obtain rfl : spot = none := hsp
          rw [add_none] at hc1
          exact ⟨b, off, rfl, hc1⟩
      obtain ⟨o, c, hvg, hgc1, hgc2, hgc3⟩ := hgc
      have HG := Lib.hid hgc3
      have HP := Lib.hid fun (W : World) (h : RunE C W s) => push_t (v := v) h hrep (Lib.hid rfl) (by have := hw.1; omega)
      have hki : (k : Int) < (C.m.globs.length : Int) := by omega
      unfold maxLen at hgc2
      clear h h2 hf hw hd hg hrep hgc3
      obtain ⟨c0, m0⟩ := HE.out.at
      obtain ⟨m2, b, off, rfl, cg⟩ := HG.out _ HE.out
      rw [hvg] at m2
      generalize v.word = x at *
      generalize C.m.globs.length = GL at *
      go_enter Tryd.func30, Tryd.ntmps30
      go_wp2_with fail
      generalize (w.alloc (.cells #[.int .u8 5, .int .i64 (k : Int), .int .i64 a, .string str] 33)) = w1 at *
      have HD := Lib.hid (HP.out _ (HE.out.drewN 1))
      go_region_law (first
        | (go_simp; go_at_call 41; refine HD.out.mono ?_; rintro e w2 ⟨rfl, hw2⟩; have HW2 := Lib.hid hw2; clear hw2))
      all_goals
        go_wp2
        go_ret
        exact ⟨rfl, HW2.out⟩
  · rw [if_neg h0] at hd'; cases hd'
end Go.Proofs.YteenlckpjncgoaaDoor

namespace Go.Proofs.YteenlckpjncgoaaDoor
open Go.RowKit HeaM Ma

theorem RunE.textB {C : Cx} {w : World} {s : Ms} {i : Nat} {l : List UInt8} {x : Nat} (h : RunE C w s) (hr : Rep s.W s.F (.txt i l)) (hx : Hid ((V.txt i l).word = x)) :
    Calls Tryd.prog 10 #[.pointer (some ⟨C.H, 0, none⟩), .int .u64 (x : Int)] w fun e w' => e = .returned (.string ⟨l.toArray⟩) ∧ RunE C w' s ∧ Below w.heap.size w w' := by
  obtain ⟨a1, a2, a3, a4, a5, a6, a7, h1⟩ := h
  exact (text_v w h1.g.heap h1.g.len (by have := h1.g.wl; have := h1.fit.q; omega) h1.g.ws hr hx).mono fun e w' ⟨h2, h3⟩ => ⟨h2, RunE.below ⟨a1, a2, a3, a4, a5, a6, a7, h1⟩ h3, h3⟩

set_option maxHeartbeats 4000000 in
set_option maxRecDepth 100000 in
theorem is_txt {C : Cx} {s : Ms} {i : Nat} {l : List UInt8} {x : Nat} {w : World} (n a : Int) (str : ByteArray) (h : RunE C w s) (hx : Rep s.W s.F (.txt i l)) (ha : Hid ((V.txt i l).word = x)) :
    Calls Tryd.prog 54 #[.pointer (some ⟨C.lo, 0, none⟩), .agg #[.int .u8 15, .int .i64 n, .int .i64 a, .string str], .int .u64 (x : Int)] w fun e w' => e = .returned (.bool (decide (l = str.data.toList))) ∧ RunE C w' s := by
  have h1 : RunE C (w.alloc (.cells #[.int .u8 15, .int .i64 n, .int .i64 a, .string str] 33)) s := h.ins 15 n a str
  have hblk := cell_of_row _ w.heap.size 3 _ _ (0, 0) (heap_alloc_new w (.cells #[.int .u8 15, .int .i64 n, .int .i64 a, .string str] 33))
  simp only [List.getElem?_toArray, List.getElem?_cons_succ, List.getElem?_cons_zero] at hblk
  have hlt : w.heap.size < (w.alloc (.cells #[.int .u8 15, .int .i64 n, .int .i64 a, .string str] 33)).heap.size := by simp
  have HX : Hid (Rep s.W s.F (.txt i l)) := hx
  have heq : (l == str.toList) = decide (l = str.data.toList) := by
    rw [ByteArray.toList_eq, Bool.eq_iff_iff]
    simp
  clear h hx
  go_enter Tryd.func54, Tryd.ntmps54
  go_wp2_with fail
  generalize (w.alloc (.cells #[.int .u8 15, .int .i64 n, .int .i64 a, .string str] 33)) = w1 at *
  obtain ⟨c0, m0⟩ := h1.at
  have H1 := Lib.hid h1
  have KD : Hid (Calls Tryd.prog 65 #[.pointer (some ⟨C.H, 0, none⟩), .int .u64 (x : Int)] w1.drew fun e w' => e = .returned (.int .u8 3) ∧ ∃ mq, w' = w1.drewN mq) := h1.kind HX.out ha 1
  have HT := Lib.hid fun (W : World) (h : RunE C W s) => h.textB HX.out ha
  clear h1
  go_region_law (first
    | (go_simp; go_at_call 65; (with_reducible refine KD.out.mono ?_); rintro e w' ⟨rfl, mq, rfl⟩; have HM : Hid (RunE C (w1.drewN mq) s) := H1.out.drewN mq)
    | (go_simp; go_at_call 10; (with_reducible refine (HT.out _ HM.out).mono ?_); rintro e w4 ⟨rfl, hw4, hb4⟩; have HZ := Lib.hid hw4; have z3 := (hb4.cell (p := ⟨w.heap.size, 3, none⟩) hlt).trans hblk; clear hw4 hb4))
  all_goals
    go_wp2
    go_ret
    exact ⟨rfl, HZ.out⟩

set_option maxHeartbeats 4000000 in
set_option maxRecDepth 100000 in
theorem dc_istext (C : Cx) (n a : Int) (str : ByteArray) : DoC C ⟨15, n, a, str⟩ := by
  intro w s s' m f fs h hf hw hd
  have hd' : (match s.stk with | .txt _ l :: t => truth { s with stk := t } (decide (l = str.data.toList)) | _ => none) = some (m, s') := hd
  rcases hs : s.stk with _ | ⟨v, t⟩
  · rw [hs] at hd'; cases hd'
  rw [hs] at hd'
  rcases v with x | ⟨i, l⟩ | ⟨i, k⟩ | ⟨i, p⟩
  · cases hd'
  · simp only [truth, ok, Option.some.injEq, Prod.mk.injEq] at hd'
    obtain ⟨rfl, hs'⟩ := hd'
    have htl : t.length ≤ 100000000 := by have := hw.1; rw [hs] at this; simp only [List.length_cons] at this; omega
    have h1 : RunE C (w.alloc (.cells #[.int .u8 15, .int .i64 n, .int .i64 a, .string str] 33)) s := h.ins 15 n a str
    have hrep : Rep s.W s.F (.txt i l) := by
      obtain ⟨_, _, _, _, _, _, _, h3⟩ := h
      exact h3.g.rstk _ (by rw [hs]; simp)
    have hblk := fun j => cell_of_row _ w.heap.size j _ _ (0, 0) (heap_alloc_new w (.cells #[.int .u8 15, .int .i64 n, .int .i64 a, .string str] 33))
    have b0 := hblk 0
    have b1 := hblk 1
    have b2 := hblk 2
    have b3 := hblk 3
    simp only [List.getElem?_toArray, List.getElem?_cons_succ, List.getElem?_cons_zero] at b0 b1 b2 b3
    have hlt := h.lt
    have hsz : w.heap.size < (w.alloc (.cells #[.int .u8 15, .int .i64 n, .int .i64 a, .string str] 33)).heap.size := by simp
    have HPK := Lib.hid fun (W : World) (h : RunE C W s) => pop_k h hs (by rw [hs]; simp only [List.length_cons]; omega)
    have HI := Lib.hid fun (W : World) (h : RunE C W { s with stk := t }) => is_txt (x := (V.txt i l).word) n a str h hrep (Lib.hid rfl)
    have HTR : Hid (∀ W : World, RunE C W { s with stk := t } → Calls Tryd.prog 53 #[.pointer (some ⟨C.lo, 0, none⟩), .bool (decide (l = str.data.toList))] W (OkRun C s' 0)) := fun W h => by
      rw [← hs']
      exact truth_t (decide (l = str.data.toList)) h (by show t.length ≤ _; omega)
    clear h hf hw hd hrep hblk hs'
    generalize decide (l = str.data.toList) = bq at *
    go_enter Tryd.func30, Tryd.ntmps30
    go_wp2_with fail
    generalize (w.alloc (.cells #[.int .u8 15, .int .i64 n, .int .i64 a, .string str] 33)) = w1 at *
    have HD : Hid (RunE C w1.drew s) := h1.drewN 1
    clear h1
    go_region_law (first
      | (go_simp; go_at_call 49; (with_reducible refine (HPK.out _ HD.out).mono ?_); rintro e w2 ⟨rfl, hw2, hk2⟩; have H2 := Lib.hid hw2; have y0 := (hk2.cell (p := ⟨w.heap.size, 0, none⟩) hsz (by show w.heap.size ≠ C.lo; omega)).trans b0; have y1 := (hk2.cell (p := ⟨w.heap.size, 1, none⟩) hsz (by show w.heap.size ≠ C.lo; omega)).trans b1; have y2 := (hk2.cell (p := ⟨w.heap.size, 2, none⟩) hsz (by show w.heap.size ≠ C.lo; omega)).trans b2; have y3 := (hk2.cell (p := ⟨w.heap.size, 3, none⟩) hsz (by show w.heap.size ≠ C.lo; omega)).trans b3; clear hw2 hk2)
      | (go_simp; go_at_call 54; refine (HI.out _ H2.out).mono ?_; rintro e w3 ⟨rfl, hw3⟩; have H3 := Lib.hid hw3; clear hw3)
      | (go_simp; go_at_call 53; refine (HTR.out _ H3.out).mono ?_; rintro e w4 ⟨rfl, hw4⟩; have H4 := Lib.hid hw4; clear hw4))
    all_goals
      go_wp2
      go_ret
      exact ⟨rfl, H4.out⟩
  · cases hd'
  · cases hd'
end Go.Proofs.YteenlckpjncgoaaDoor
