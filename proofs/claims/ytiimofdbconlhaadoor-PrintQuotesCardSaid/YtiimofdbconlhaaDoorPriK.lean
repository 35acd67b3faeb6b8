/- A type as it stands before an arrow, in a product. -/
import Derived.Test.YtiimofdbconlhaaDoorPriJ
namespace Go.Proofs.YtiimofdbconlhaaDoor
open Go.RowKit PriM

theorem row_free (w : World) (b j : Nat) (cs : Array Value) (t : TypeId) (h : w.heap[b]? = some (.cells cs t (0, 0))) : w.frozen? ⟨b, j, none⟩ = false := by
  simp [World.frozen?, h]

/-- What lies while a part is made: the type's box, the result's. -/
structure Two (w w1 : World) (c0 c1 c2 : Value) : Prop where
  box : BoxT w1 w.heap.size c0 c1 c2
  res : w1.heap[w.heap.size + 1]? = some (.cells #[.string ⟨#[]⟩, .nilFunc] 51 (0, 0))
  bel : Below w.heap.size w w1
  size : w.heap.size + 2 ≤ w1.heap.size

theorem Two.new (w : World) (c0 c1 c2 : Value) : Two w ((w.alloc (.cells #[c0, c1, c2] 24)).alloc (.cells #[.string ⟨#[]⟩, .nilFunc] 51)) c0 c1 c2 := by
  refine ⟨(Below.heap_alloc _ _ _ (by simp)).trans (heap_alloc_new w _), ?_, ((Below.refl _ _).alloc (Nat.le_refl _) _).alloc (by simp) _, by simp⟩
  have := heap_alloc_new (w.alloc (.cells #[c0, c1, c2] 24)) (.cells #[.string ⟨#[]⟩, .nilFunc] 51)
  simp only [World.size_alloc] at this
  exact this
theorem Two.on {w w1 w2 : World} {c0 c1 c2 : Value} (h : Two w w1 c0 c1 c2) (hb : Below w1.heap.size w1 w2) : Two w w2 c0 c1 c2 := by
  have hs := h.size
  exact ⟨(hb.block _ (by omega)).trans h.box, (hb.block _ (by omega)).trans h.res, h.bel.trans (hb.mono (by omega)), Nat.le_trans hs hb.size⟩

/-- The cells' facts, for the walk. -/
theorem Two.facts {w w1 : World} {c0 c1 c2 : Value} (h : Two w w1 c0 c1 c2) : (w1.cell? ⟨w.heap.size, 0, none⟩ = some c0 ∧ w1.cell? ⟨w.heap.size, 1, none⟩ = some c1 ∧ w1.cell? ⟨w.heap.size, 2, none⟩ = some c2) ∧
    w1.cell? ⟨w.heap.size + 1, 0, none⟩ = some (.string ⟨#[]⟩) ∧ w1.cell? ⟨w.heap.size + 1, 1, none⟩ = some .nilFunc ∧ w1.frozen? ⟨w.heap.size + 1, 0, none⟩ = false ∧ w1.frozen? ⟨w.heap.size + 1, 1, none⟩ = false ∧ w.heap.size + 1 < w1.heap.size :=
  ⟨h.box.cells, by rw [cell_of_row _ _ _ _ _ _ h.res]; rfl, by rw [cell_of_row _ _ _ _ _ _ h.res]; rfl, row_free _ _ _ _ _ h.res, row_free _ _ _ _ _ h.res, by have := h.size; omega⟩

/-- The end: a closure over the box. -/
theorem Two.fin {w w1 : World} {c0 c1 c2 x y : Value} {k : Nat} (h : Two w w1 c0 c1 c2) : PartR k w c0 c1 c2 (.returned (.agg #[.string ⟨#[]⟩, .func (.func (fnOf k)) #[] #[.pointer (some ⟨w.heap.size, 0, none⟩)]])) ((w1.setCell ⟨w.heap.size + 1, 0, none⟩ x).setCell ⟨w.heap.size + 1, 1, none⟩ y) :=
  ⟨w.heap.size, rfl, (Below.heap_setCell _ _ _ _ (by simp)).trans ((Below.heap_setCell _ _ _ _ (by simp)).trans h.box), (h.bel.setCell (by simp) _).setCell (by simp) _, Nat.le_refl _⟩
/-- The end: what typ has left. -/
theorem Two.fin2 {w w1 w2 : World} {c0 c1 c2 x y : Value} {b k : Nat} (h : Two w w1 c0 c1 c2) (hb : BoxT w2 b c0 c1 c2) (hbel : Below w1.heap.size w1 w2) (hle : w1.heap.size ≤ b) :
    PartR k w c0 c1 c2 (.returned (.agg #[.string ⟨#[]⟩, .func (.func (fnOf k)) #[] #[.pointer (some ⟨b, 0, none⟩)]])) ((w2.setCell ⟨w.heap.size + 1, 0, none⟩ x).setCell ⟨w.heap.size + 1, 1, none⟩ y) := by
  have hs := h.size
  have h2 := h.on hbel
  exact ⟨b, rfl, (Below.heap_setCell _ _ _ _ (by show b ≠ _; simp only; omega)).trans ((Below.heap_setCell _ _ _ _ (by show b ≠ _; simp only; omega)).trans hb), (h2.bel.setCell (by simp) _).setCell (by simp) _, by omega⟩

set_option maxRecDepth 100000 in
set_option maxHeartbeats 1000000 in
theorem left_any (s : ByteArray) (nm : List UInt8) (hs : s.toList = nm) (v : Int) (o : Option Addr) (n c : Nat) (w : World) (hn : n ≤ 1000000000000) :
    Calls Tryd.prog 46 #[.agg #[.string s, .int .i64 v, .slice o n c]] w (PartR (if isFn nm n then 1 else 0) w (.string s) (.int .i64 v) (.slice o n c)) := by
  have HIS := Lib.hid (fun W => isFunction_any s nm hs v o n c W hn)
  have HT := Lib.hid (fun W => typ_any s v o n c W)
  have H2 := Lib.hid (Two.new w (.string s) (.int .i64 v) (.slice o n c))
  clear hs
  generalize isFn nm n = f at *
  rcases f with _ | _
  · simp only [Bool.false_eq_true, if_false]
    go_enter Tryd.func46, Tryd.ntmps46
    go_wp2_with fail
    go_at_call 45
    refine (HIS.out _).mono ?_
    rintro e w1 ⟨rfl, hb⟩
    have h2 := H2.out.on hb
    obtain ⟨⟨a0, a1, a2⟩, b0, b1, f0, f1, hl⟩ := h2.facts
    have H3 := Lib.hid h2
    clear h2 hb H2
    go_wp2_with fail
    go_at_call 21
    refine (HT.out _).mono ?_
    rintro e w2 ⟨b, rfl, hbx, hbl, hle⟩
    have h2 := H3.out.on hbl
    obtain ⟨_, b0, b1, f0, f1, hl⟩ := h2.facts
    have HF := Lib.hid (fun x y => Two.fin2 (k := 0) (x := x) (y := y) H3.out hbx hbl hle)
    clear h2 hbx hbl hle
    unfold Pv.agg fnV fnOf
    unfold fnOf at HF
    go_wp2_with fail
    exact bodyPost_ret (v := .agg #[.string ⟨#[]⟩, .func (.func 32) #[] #[.pointer (some ⟨b, 0, none⟩)]]) (by simp [results, Tryd.results46, go_sem, b0, b1]) rfl (HF.out _ _)
  · simp only [if_true]
    go_enter Tryd.func46, Tryd.ntmps46
    go_wp2_with fail
    go_at_call 45
    refine (HIS.out _).mono ?_
    rintro e w1 ⟨rfl, hb⟩
    have h2 := H2.out.on hb
    obtain ⟨⟨a0, a1, a2⟩, b0, b1, f0, f1, hl⟩ := h2.facts
    have HF := Lib.hid (fun x y => Two.fin (k := 1) (x := x) (y := y) h2)
    clear h2 hb H2
    unfold fnOf at HF
    go_wp2_with fail
    exact bodyPost_ret (v := .agg #[.string ⟨#[]⟩, .func (.func 75) #[] #[.pointer (some ⟨w.heap.size, 0, none⟩)]]) (by simp [results, Tryd.results46, go_sem, b0, b1]) rfl (HF.out _ _)

set_option maxRecDepth 100000 in
set_option maxHeartbeats 1000000 in
theorem tight_any (s : ByteArray) (nm : List UInt8) (hs : s.toList = nm) (v : Int) (o : Option Addr) (n c : Nat) (w : World) (hn : n ≤ 1000000000000) :
    Calls Tryd.prog 49 #[.agg #[.string s, .int .i64 v, .slice o n c]] w (PartR (if isFn nm n || isPr nm n then 2 else 0) w (.string s) (.int .i64 v) (.slice o n c)) := by
  have HIS := Lib.hid (fun W => isFunction_any s nm hs v o n c W hn)
  have HIP := Lib.hid (fun W => isProduct_any s nm hs v o n c W hn)
  have HT := Lib.hid (fun W => typ_any s v o n c W)
  have H2 := Lib.hid (Two.new w (.string s) (.int .i64 v) (.slice o n c))
  clear hs
  generalize isFn nm n = f at *
  generalize isPr nm n = g at *
  rcases f with _ | _
  · rcases g with _ | _
    · simp only [Bool.or_self, Bool.false_eq_true, if_false]
      go_enter Tryd.func49, Tryd.ntmps49
      go_wp2_with fail
      go_at_call 45
      refine (HIS.out _).mono ?_
      rintro e w0 ⟨rfl, hb⟩
      have h2 := H2.out.on hb
      obtain ⟨⟨a0, a1, a2⟩, b0, b1, f0, f1, hl⟩ := h2.facts
      have H3 := Lib.hid h2
      clear h2 hb H2
      go_wp2_with fail
      go_at_call 47
      refine (HIP.out _).mono ?_
      rintro e w1 ⟨rfl, hb⟩
      have h2 := H3.out.on hb
      obtain ⟨⟨a0, a1, a2⟩, b0, b1, f0, f1, hl⟩ := h2.facts
      have H4 := Lib.hid h2
      clear h2 hb H3
      go_wp2_with fail
      go_at_call 21
      refine (HT.out _).mono ?_
      rintro e w2 ⟨b, rfl, hbx, hbl, hle⟩
      have h2 := H4.out.on hbl
      obtain ⟨_, b0, b1, f0, f1, hl⟩ := h2.facts
      have HF := Lib.hid (fun x y => Two.fin2 (k := 0) (x := x) (y := y) H4.out hbx hbl hle)
      clear h2 hbx hbl hle
      unfold Pv.agg fnV fnOf
      unfold fnOf at HF
      go_wp2_with fail
      exact bodyPost_ret (v := .agg #[.string ⟨#[]⟩, .func (.func 32) #[] #[.pointer (some ⟨b, 0, none⟩)]]) (by simp [results, Tryd.results49, go_sem, b0, b1]) rfl (HF.out _ _)
    · simp only [Bool.or_true, if_true]
      go_enter Tryd.func49, Tryd.ntmps49
      go_wp2_with fail
      go_at_call 45
      refine (HIS.out _).mono ?_
      rintro e w0 ⟨rfl, hb⟩
      have h2 := H2.out.on hb
      obtain ⟨⟨a0, a1, a2⟩, b0, b1, f0, f1, hl⟩ := h2.facts
      have H3 := Lib.hid h2
      clear h2 hb H2
      go_wp2_with fail
      go_at_call 47
      refine (HIP.out _).mono ?_
      rintro e w1 ⟨rfl, hb⟩
      have h2 := H3.out.on hb
      obtain ⟨⟨a0, a1, a2⟩, b0, b1, f0, f1, hl⟩ := h2.facts
      have HF := Lib.hid (fun x y => Two.fin (k := 2) (x := x) (y := y) h2)
      clear h2 hb H3
      unfold fnOf at HF
      go_wp2_with fail
      exact bodyPost_ret (v := .agg #[.string ⟨#[]⟩, .func (.func 76) #[] #[.pointer (some ⟨w.heap.size, 0, none⟩)]]) (by simp [results, Tryd.results49, go_sem, b0, b1]) rfl (HF.out _ _)
  · simp only [Bool.true_or, if_true]
    go_enter Tryd.func49, Tryd.ntmps49
    go_wp2_with fail
    go_at_call 45
    refine (HIS.out _).mono ?_
    rintro e w1 ⟨rfl, hb⟩
    have h2 := H2.out.on hb
    obtain ⟨⟨a0, a1, a2⟩, b0, b1, f0, f1, hl⟩ := h2.facts
    have HF := Lib.hid (fun x y => Two.fin (k := 2) (x := x) (y := y) h2)
    clear h2 hb H2
    unfold fnOf at HF
    go_wp2_with fail
    exact bodyPost_ret (v := .agg #[.string ⟨#[]⟩, .func (.func 76) #[] #[.pointer (some ⟨w.heap.size, 0, none⟩)]]) (by simp [results, Tryd.results49, go_sem, b0, b1]) rfl (HF.out _ _)
end Go.Proofs.YtiimofdbconlhaaDoor
