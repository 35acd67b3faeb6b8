/- The text of parts: the walk. -/
import Derived.Test.YtiimofdbconlhaaDoorPriF
namespace Go.Proofs.YtiimofdbconlhaaDoor
open Go.RowKit PriM

theorem pushed_any (base : Nat) (todo row : Value) (ts ps : List Pv) (w : World)
    (hown : OwnP w base todo ts) (hbase : base ≤ w.heap.size) (hI : RdZ w.heap.size (fun k => todo.ownBlock = some k) w row ps) (hlen : ts.length + ps.length ≤ 5000000000000) :
    Calls Tryd.prog 31 #[todo, row] w (PushPost w base todo (ts ++ ps.reverse)) := by
  obtain ⟨o, tl, tc, rfl⟩ : ∃ o n c, todo = .slice o n c := by
    rcases hown.2 with ⟨rfl, _⟩ | ⟨_, _, _, rfl, _⟩
    · exact ⟨_, _, _, rfl⟩
    · exact ⟨_, _, _, rfl⟩
  obtain ⟨ro, rl, rc, rfl⟩ : ∃ o n c, row = .slice o n c := by
    rcases hI with ⟨_, _, rfl, _⟩ | ⟨_, _, _, rfl, _⟩
    · exact ⟨_, _, _, rfl⟩
    · exact ⟨_, _, _, rfl⟩
  exact callsIn_wide.1 (pushed_in Fence.wide 3 trivial trivial trivial rfl (by omega) o ro tl tc rl rc base ts ps w hown hbase hI hlen)

theorem rdZ_own {w : World} {base : Nat} {v : Value} {ps : List Pv} (h : OwnP w base v ps) {Z : Nat → Prop} (hZ : ∀ k, Z k → k < base) : RdZ w.heap.size Z w v ps := by
  rcases h.rd with ⟨o, c, e, h0⟩ | ⟨b, off, c, e, hn, _, _, hc⟩
  · exact .inl ⟨o, c, e, h0⟩
  · have hb := World.ownsRow.lt h b (by rw [e]; rfl)
    exact .inr ⟨b, off, c, e, hb.2, fun hz => by have := hZ b hz; omega, hc⟩

theorem neq_nil (w : World) : (binOp .neq 49 .nilFunc .nilFunc).run Tryd.prog w = .ok (.bool false) w := by kernel_rfl
theorem neq_fn (w : World) (k b : Nat) : (binOp .neq 49 (.func (.func k) #[] #[.pointer (some ⟨b, 0, none⟩)]) .nilFunc).run Tryd.prog w = .ok (.bool true) w := by kernel_rfl

/-- What text leaves. -/
def TextPost (w : World) (s : List UInt8) (e : Ending) (w' : World) : Prop := e = .returned (.string ⟨s.toArray⟩) ∧ Below w.heap.size w w'

theorem own_str {_w w1 : World} {base : Nat} {_v v' : Value} {l : List UInt8} {t : ByteArray} (h : w1.ownsRow base 5 1 v' (l.length + t.size) (Bs l ++ Lib.strCells t)) : w1.ownsRow base 5 1 v' (l.length + t.size) (Bs l ++ Lib.strCells t) := h

theorem size_mk (l : List UInt8) : (⟨l.toArray⟩ : ByteArray).size = l.length := by simp [ByteArray.size]

theorem ti_nil {n₀ : Nat} {w wr : World} {S : List UInt8} {out todo : Value} {o : List UInt8} {K : Nat} (h : TI n₀ w wr S out todo o [] K) : o = S ∧ Below w.heap.size w wr ∧ (convert 63 9 out).run Tryd.prog wr = .ok (.string ⟨S.toArray⟩) wr ∧ ∃ t c, todo = .slice t 0 c := by
  have e : o = S := by have := h.eq; simpa [cats] using this
  refine ⟨e, h.bel, by rw [← e]; exact toStr' h.out, ?_⟩
  rcases h.todo.2 with ⟨h1, _⟩ | ⟨_, _, _, h1, _⟩
  · exact ⟨_, _, h1⟩
  · exact ⟨_, _, h1⟩

theorem ti_top {n₀ : Nat} {w wr : World} {S : List UInt8} {out todo : Value} {o : List UInt8} {L : List Pw} {x : Pw} {K : Nat} (h : TI n₀ w wr S out todo o (L ++ [x]) K) :
    ∃ g c, todo = .slice (some ⟨g, 0, none⟩) (L.length + 1) c ∧ L.length + 1 ≤ c ∧ c ≤ maxLen ∧ wr.cell? ⟨g, L.length * 2, none⟩ = some (.string x.1.s) ∧ wr.cell? ⟨g, L.length * 2 + 1, none⟩ = some (fnV x.1.f) ∧ L.length + 1 ≤ K := by
  have h1 := h.todo
  rw [map_fst_append] at h1
  have hc := h1
  have hl := wsum_len h.parts
  have hle := h.le
  rw [List.length_append, List.length_singleton] at hl
  rcases h1.2 with ⟨_, h2⟩ | ⟨g, cap, cur, h2, hb, hg, hn, hm, _⟩
  · simp at h2
  · simp at h2 hn
    refine ⟨g, cap, h2, hn, hm, ?_, ?_, by omega⟩
    · have := World.ownsRow.cells hc (g := g) (by rw [h2]; rfl) _ _ (Cs_get _ L.length x.1 (by simp)).1
      rw [add_none, Nat.zero_add] at this
      exact this
    · have := World.ownsRow.cells hc (g := g) (by rw [h2]; rfl) _ _ (Cs_get _ L.length x.1 (by simp)).2
      rw [add_none, Nat.zero_add] at this
      exact this

theorem box_grown {wr w1 : World} {cs : Array Value} {T : TypeId} {v : Value} {base size n : Nat} {e : TypeId} {xs : List Value} (h : wr.ownsRow base e size v n xs) (hg : (wr.alloc (.cells cs T)).grownBy w1 v.ownBlock) : w1.heap[wr.heap.size]? = some (.cells cs T (0, 0)) := by
  rw [hg.block wr.heap.size (by simp) (fun e' => by have := (h.lt _ e'.symm).2; omega)]
  exact heap_alloc_new wr _

set_option maxHeartbeats 8000000 in
set_option maxRecDepth 100000 in
theorem text_any (n₀ : Nat) (w : World) (row : Value) (L0 : List Pw) (hrow : RdP w row (L0.map (·.1))) (hparts : ∀ x ∈ L0, AnyV n₀ x.2.2 w x.1 x.2.1) (hn : n₀ ≤ w.heap.size) (hw : wsum L0 ≤ 1000000000000) (hlen : (cats L0).length ≤ 100000000000000) :
    Calls Tryd.prog 20 #[row] w (TextPost w (cats L0)) := by
  obtain ⟨i0, hi0, hz0, hz1, hz2⟩ := info_parts u8info
  have hl0 := wsum_len hparts
  have hP := pushed_any w.heap.size (.slice none 0 0) row [] (L0.map (·.1)) w (World.ownsRow_nil _ _ _ _) (Nat.le_refl _) (by
    rcases hrow with h | ⟨b, off, c, e, h0, _, _, hc⟩
    · exact .inl h
    · have hb : b < w.heap.size := by
        have h1 : (L0.map (·.1))[0]? = some (L0.map (·.1))[0] := List.getElem?_eq_getElem h0
        exact World.block_lt_of_cell? w _ (hc 0 _ h1).1
      exact .inr ⟨b, off, c, e, hb, by simp [Value.ownBlock], hc⟩) (by simp; omega)
  have HP := Lib.hid hP
  have HST := Lib.hid (fun v w' (h : OwnP w' w.heap.size v ([] ++ (L0.map (·.1)).reverse)) (hg : w.grownBy w' (Value.slice none 0 0).ownBlock) => (show TI n₀ w w' (cats L0) (.slice none 0 0) v [] L0.reverse (wsum L0) from
    ⟨World.ownsRow_nil _ _ _ _, by rw [List.map_reverse]; exact h, fun x hx => (hparts x (List.mem_reverse.1 hx)).kept (KeepT.of_below (below_of_grownBy hg (Nat.le_refl _) (fun g e => by cases e)) hn), by rw [List.reverse_reverse]; rfl, by rw [wsum_reverse]; exact Nat.le_refl _, below_of_grownBy hg (Nat.le_refl _) (fun g e => by cases e), hn⟩))
  clear hP hrow hparts hl0
  generalize cats L0 = S at *
  generalize wsum L0 = K0 at *
  have n1 := neq_nil
  have n2 := neq_fn
  go_enter Tryd.func20, Tryd.ntmps20
  go_wp2_with (go_at_call 31; refine (HP.out).mono ?_; rintro e w1 ⟨v, rfl, hv, hg, _⟩; have HT := Lib.hid (HST.out v w1 hv hg); clear hv hg)
  go_loopg [3, 4] K0 (fun K out todo wr => ∃ (o : List UInt8) (L : List Pw) (O T : Value), O = out ∧ T = todo ∧ TI n₀ w wr S O T o L K ∧ K ≤ 1000000000000)
  case atStart => exact ⟨_, _, _, _, rfl, rfl, HT.out, hw⟩
  case round =>
    obtain ⟨o, L, out, todo, rfl, rfl, ht, hK⟩ := hrel
    clear HP HST HT
    rcases List.eq_nil_or_concat L with rfl | ⟨L, x, rfl⟩
    · obtain ⟨-, hb, hcv, t, c, rfl⟩ := ti_nil ht
      have HF := Lib.hid (show TextPost w S (.returned (.string ⟨S.toArray⟩)) wr from ⟨rfl, hb⟩)
      clear ht hb
      go_wp2
      go_ret
      exact HF.out
    · rw [List.concat_eq_append] at ht
      obtain ⟨g, c, rfl, hlc, hcm, c0, c1, hLK⟩ := ti_top ht
      have hou := ht.out
      have hsz := ht.bel.size
      have HT := Lib.hid ht
      have hob := ht.parts x (List.mem_append_right _ (List.mem_singleton.2 rfl))
      have hol : o.length + x.2.1.length ≤ 100000000000000 := by
        have := congrArg List.length ht.eq
        rw [List.reverse_append, cats_append, List.reverse_singleton, cats_one] at this
        simp only [List.length_append] at this
        omega
      clear ht
      obtain ⟨⟨s, f⟩, str, k⟩ := x
      dsimp only at hob hol c0 c1
      rcases hob.split with ⟨hk1, he⟩ | ⟨fn, b, he, hen, hcl⟩
      · injection he with he1 he2
        subst he1 he2
        unfold fnV at c1
        have hss : (⟨str.toArray⟩ : ByteArray).size = str.length := by simp [ByteArray.size]
        have HSS := Lib.hid hss
        clear hob hss
        obtain ⟨sb, hsb⟩ : ∃ sb : ByteArray, sb = ⟨str.toArray⟩ := ⟨_, rfl⟩
        rw [← hsb] at c0 HSS
        have HSB := Lib.hid hsb
        clear hsb
        have STEP := Lib.hid (fun w1 out' hown hg => ti_text (w1 := w1) (out' := out') (t := sb) (f := none) (tmp := .cells #[.string sb, .nilFunc] 51) HT.out (by rw [HSB.out]) rfl hown hg)
        have FIN := Lib.hid (fun w1 out' h1 h2 h3 h4 => ti_text_end (w1 := w1) (out' := out') (g := g) (c := c) (s := str) (k := k) HT.out rfl hk1 h1 h2 h3 h4)
        go_wp2_with ((at_builtin; refine Lib.wpList_append_own_string _ rfl _ _ 63 9 rfl w.heap.size 5 i0 Tryd.underlying63 Tryd.underlying9 hi0 hz0 hz1 hz2 out _ _ rfl (World.ownsRow.alloc hou _) sb rfl (by rw [HSB.out, size_mk]; unfold maxLen; omega) (by rw [HSB.out, size_mk]; omega) (by simp; omega) ?_; intro out' w1 hown hgr _; have hbx := box_grown hou hgr; have hst := STEP.out w1 out' hown hgr; have e1 : sb.data.toList = str := (by rw [HSB.out]); rw [e1] at hst; have hfin := FIN.out w1 out' hst.1 hst.2.1 hst.2.2.1 hst.2.2.2.1; have HFIN := Lib.hid hfin; have hb0 := cell_of_row _ _ 1 _ _ _ hbx; clear hfin hst e1 hown hgr))
        go_roundg (wsum L)
        case measure => exact HFIN.out.2
        case rel => exact ⟨_, L, _, _, rfl, rfl, HFIN.out.1, by have := HFIN.out.2; omega⟩
      · injection he with he1 he2
        subst he1 he2
        unfold fnV at c1
        clear hob
        have STEP := Lib.hid (fun w1 out' hown hg => ti_text (w1 := w1) (out' := out') (t := ⟨#[]⟩) (f := some (fn, b)) (tmp := .cells #[.string ⟨#[]⟩, .func (.func fn) #[] #[.pointer (some ⟨b, 0, none⟩)]] 51) HT.out rfl rfl hown hg)
        go_wp2_with (first
          | (at_builtin; refine Lib.wpList_append_own_string _ rfl _ _ 63 9 rfl w.heap.size 5 i0 Tryd.underlying63 Tryd.underlying9 hi0 hz0 hz1 hz2 out _ _ rfl (World.ownsRow.alloc hou _) ⟨#[]⟩ rfl (by show o.length + 0 ≤ _; unfold maxLen; omega) (by show o.length + 0 ≤ _; omega) (by simp; omega) ?_; intro out' w1 hown hgr _; have hbx := box_grown hou hgr; have hst := STEP.out w1 out' hown hgr; have HST := Lib.hid hst; have hb0 := cell_of_row _ _ 1 _ _ _ hbx; clear hst hown hgr)
          | (go_at_fn fn; refine (hcl w1 HST.out.2.2.1).mono ?_; rintro e w2 ⟨V, l, rfl, m2, m3, m4, m5, m6, m7⟩; have HM := Lib.hid (And.intro m2 (And.intro m3 (And.intro m4 (And.intro m5 m6)))); have HB2 := Lib.hid m6; clear m2 m3 m4 m5 m6 m7))
        go_at_call 31
        have hsz1 := HST.out.2.2.2.2
        have hsz2 := HB2.out.size
        have hl2 := wsum_len HM.out.2.1
        have hl3 := HM.out.2.2.2.1
        have hl4 := HT.out.le
        rw [wsum_append] at hl4
        simp only [wsum] at hl4
        refine (pushed_any w.heap.size _ V (L.map (·.1)) (l.map (·.1)) w2 (OwnP.grow HST.out.2.1 HB2.out) (by omega) (rdZ_own HM.out.1 (fun k e => (World.ownsRow.lt HST.out.2.1 k e).2)) (by simp; omega)).mono ?_
        rintro e w3 ⟨todo', rfl, p1, p2, _⟩
        have FIN := Lib.hid (ti_push_end HT.out rfl (g := g) (c := c) HST.out.1 HST.out.2.1 HST.out.2.2.1 HST.out.2.2.2.1 HM.out.1 HM.out.2.1 HM.out.2.2.1 HM.out.2.2.2.1 HM.out.2.2.2.2 p1 p2)
        clear p1 p2
        go_wp2
        go_roundg (wsum (L ++ l.reverse))
        case measure => exact FIN.out.2
        case rel => exact ⟨_, _, _, _, rfl, rfl, FIN.out.1, by have := FIN.out.2; omega⟩
end Go.Proofs.YtiimofdbconlhaaDoor
