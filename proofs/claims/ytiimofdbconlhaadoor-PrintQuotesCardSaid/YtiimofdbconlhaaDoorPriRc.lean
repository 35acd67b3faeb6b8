/- The reference's expression of one text token. -/
import Derived.Test.YtiimofdbconlhaaDoorPriRb
namespace Go.Proofs.YtiimofdbconlhaaDoor
open Go.RowKit PriM

abbrev zEx : Obj := .cells #[.int .u8 0, .string ⟨#[]⟩, .int .i64 0, .bool false, .slice none 0 0, .slice none 0 0] 36 (0, 0)
/-- The expression. -/
abbrev xEx (T : ByteArray) : Value := .agg #[.int .u8 2, .string T, .int .i64 0, .bool false, .slice none 0 0, .slice none 0 0]
abbrev xObj (T : ByteArray) : Obj := .cells #[.int .u8 2, .string T, .int .i64 0, .bool false, .slice none 0 0, .slice none 0 0] 36 (0, 0)
abbrev set6 (W : World) (g : Nat) (v0 v1 v2 v3 v4 v5 : Value) : World :=
  (((((W.setCell ⟨g, 0, none⟩ v0).setCell ⟨g, 1, none⟩ v1).setCell ⟨g, 2, none⟩ v2).setCell ⟨g, 3, none⟩ v3).setCell ⟨g, 4, none⟩ v4).setCell ⟨g, 5, none⟩ v5
theorem set6_self {W : World} {g : Nat} {c0 c1 c2 c3 c4 c5 v0 v1 v2 v3 v4 v5 : Value} {t : TypeId} (h : W.heap[g]? = some (.cells #[c0, c1, c2, c3, c4, c5] t (0, 0))) : (set6 W g v0 v1 v2 v3 v4 v5).heap[g]? = some (.cells #[v0, v1, v2, v3, v4, v5] t (0, 0)) := by
  simp [World.setCell, Array.getElem?_modify, h]
theorem set6_other {W : World} {g k : Nat} {v0 v1 v2 v3 v4 v5 : Value} (h : k ≠ g) : (set6 W g v0 v1 v2 v3 v4 v5).heap[k]? = W.heap[k]? := by
  rw [Below.heap_setCell _ _ _ _ h, Below.heap_setCell _ _ _ _ h, Below.heap_setCell _ _ _ _ h, Below.heap_setCell _ _ _ _ h, Below.heap_setCell _ _ _ _ h, Below.heap_setCell _ _ _ _ h]
theorem set6_size {W : World} {g : Nat} {v0 v1 v2 v3 v4 v5 : Value} : (set6 W g v0 v1 v2 v3 v4 v5).heap.size = W.heap.size := by simp
theorem Kept.set6 {S : Nat → Prop} {a W : World} {g : Nat} (h : Kept S a W) (hg : a.heap.size ≤ g) (v0 v1 v2 v3 v4 v5 : Value) : Kept S a (set6 W g v0 v1 v2 v3 v4 v5) :=
  (((((h.setCell (.inr hg) _).setCell (.inr hg) _).setCell (.inr hg) _).setCell (.inr hg) _).setCell (.inr hg) _).setCell (.inr hg) _
section
variable {W : World} {r b cap : Nat} {T : ByteArray} {A : Nat} {i d : Int}
theorem Rdr.blocks {W' : World} (h : Rdr W r b cap T A i d) (h1 : W'.heap[b]? = W.heap[b]?) (h2 : W'.heap[r]? = W.heap[r]?) : Rdr W' r b cap T A i d := by
  have hc : ∀ j, W'.cell? ⟨b, j, none⟩ = W.cell? ⟨b, j, none⟩ := fun j => World.cell?_of_block h1
  exact ⟨h2.trans h.blk, (hc 0).trans h.k0, (hc 1).trans h.t0, (hc 2).trans h.a0, (hc 3).trans h.k1, (hc 4).trans h.t1, (hc 5).trans h.a1, h.ne, h.c2, h.cm⟩
theorem Rdr.set6 (h : Rdr W r b cap T A i d) {g : Nat} (hr : r ≠ g) (hb : b ≠ g) (v0 v1 v2 v3 v4 v5 : Value) : Rdr (set6 W g v0 v1 v2 v3 v4 v5) r b cap T A i d := h.blocks (set6_other hb) (set6_other hr)
theorem Rdr.deep (h : Rdr W r b cap T A i d) (d' : Int) : Rdr (W.setCell ⟨r, 2, none⟩ (.int .i64 d')) r b cap T A i d' := h.kept (kept_set _) (five_set2 h.blk)
end
/-- What a method leaves that reads the expression. -/
def XPost (w : World) (r b cap : Nat) (T : ByteArray) (A : Nat) (d : Int) (e : Ending) (w' : World) : Prop := e = .returned (xEx T) ∧ Kept (fun k => k = r) w w' ∧ Rdr w' r b cap T A 1 d

/-- What lies while a method works: its result's block, or two. -/
structure Fr1 (w W : World) (r : Nat) : Prop where
  kept : Kept (fun k => k = r) w W
  b0 : W.heap[w.heap.size]? = some zEx
structure Fr2 (w W : World) (r : Nat) (o : Obj) : Prop where
  kept : Kept (fun k => k = r) w W
  b0 : W.heap[w.heap.size]? = some zEx
  b1 : W.heap[w.heap.size + 1]? = some o
theorem Fr1.new (w : World) (r : Nat) : Fr1 w (w.alloc zEx) r := ⟨(Kept.refl _ w).alloc _, heap_alloc_new w _⟩
theorem Fr2.new (w : World) (r : Nat) : Fr2 w ((w.alloc zEx).alloc zEx) r zEx := by
  have h1 := heap_alloc_new w zEx
  have h2 : Below (w.alloc zEx).heap.size (w.alloc zEx) ((w.alloc zEx).alloc zEx) := (Below.refl _ _).alloc (Nat.le_refl _) _
  have h3 := heap_alloc_new (w.alloc zEx) zEx
  rw [show (w.alloc zEx).heap.size = w.heap.size + 1 by simp] at h3
  exact ⟨((Kept.refl _ w).alloc _).alloc _, (h2.block _ (by simp)).trans h1, h3⟩
theorem Fr1.on {w W W' : World} {r : Nat} (h : Fr1 w W r) (hk : Kept (fun k => k = r) W W') (hr : r < w.heap.size) : Fr1 w W' r :=
  ⟨h.kept.trans hk, (hk.block _ (lt_of_blk h.b0) (by omega)).trans h.b0⟩
theorem Fr2.on {w W W' : World} {r : Nat} {o : Obj} (h : Fr2 w W r o) (hk : Kept (fun k => k = r) W W') (hr : r < w.heap.size) : Fr2 w W' r o :=
  ⟨h.kept.trans hk, (hk.block _ (lt_of_blk h.b0) (by omega)).trans h.b0, (hk.block _ (lt_of_blk h.b1) (by omega)).trans h.b1⟩
/-- The end of a method of one block. -/
theorem fin1 {w W : World} {r b cap : Nat} {T : ByteArray} {A : Nat} {d : Int} (h : Fr1 w W r) (hR : Rdr W r b cap T A 1 d) (hr : r < w.heap.size) (hb : b < w.heap.size) :
    XPost w r b cap T A d (.returned (xEx T)) (set6 W w.heap.size (.int .u8 2) (.string T) (.int .i64 0) (.bool false) (.slice none 0 0) (.slice none 0 0)) :=
  ⟨rfl, h.kept.set6 (Nat.le_refl _) _ _ _ _ _ _, hR.set6 (by omega) (by omega) _ _ _ _ _ _⟩
theorem fin2 {w W : World} {r b cap : Nat} {T : ByteArray} {A : Nat} {d d' : Int} {o : Obj} (h : Fr2 w W r o) (hR : Rdr W r b cap T A 1 d) (hr : r < w.heap.size) (hb : b < w.heap.size) :
    XPost w r b cap T A d' (.returned (xEx T)) (set6 ((set6 W (w.heap.size + 1) (.int .u8 2) (.string T) (.int .i64 0) (.bool false) (.slice none 0 0) (.slice none 0 0)).setCell ⟨r, 2, none⟩ (.int .i64 d')) w.heap.size (.int .u8 2) (.string T) (.int .i64 0) (.bool false) (.slice none 0 0) (.slice none 0 0)) :=
  ⟨rfl, ((h.kept.set6 (by omega) _ _ _ _ _ _).setCell (.inl rfl) _).set6 (Nat.le_refl _) _ _ _ _ _ _, ((hR.set6 (by omega) (by omega) _ _ _ _ _ _).deep d').set6 (by omega) (by omega) _ _ _ _ _ _⟩
theorem fin3 {w W : World} {r b cap : Nat} {T : ByteArray} {A : Nat} {d d' : Int} {o : Obj} (h : Fr2 w W r o) (hR : Rdr W r b cap T A 1 d) (hr : r < w.heap.size) (hb : b < w.heap.size) :
    XPost w r b cap T A d' (.returned (xEx T)) (set6 (W.setCell ⟨r, 2, none⟩ (.int .i64 d')) w.heap.size (.int .u8 2) (.string T) (.int .i64 0) (.bool false) (.slice none 0 0) (.slice none 0 0)) :=
  ⟨rfl, (h.kept.setCell (.inl rfl) _).set6 (Nat.le_refl _) _ _ _ _ _ _, (hR.deep d').set6 (by omega) (by omega) _ _ _ _ _ _⟩
/-- A block's six cells, as a walk reads and writes them. -/
theorem six {W : World} {g : Nat} {c0 c1 c2 c3 c4 c5 : Value} {t : TypeId} (h : W.heap[g]? = some (.cells #[c0, c1, c2, c3, c4, c5] t (0, 0))) :
    (W.cell? ⟨g, 0, none⟩ = some c0 ∧ W.cell? ⟨g, 1, none⟩ = some c1 ∧ W.cell? ⟨g, 2, none⟩ = some c2 ∧ W.cell? ⟨g, 3, none⟩ = some c3 ∧ W.cell? ⟨g, 4, none⟩ = some c4 ∧ W.cell? ⟨g, 5, none⟩ = some c5) ∧
    (W.frozen? ⟨g, 0, none⟩ = false ∧ W.frozen? ⟨g, 1, none⟩ = false ∧ W.frozen? ⟨g, 2, none⟩ = false ∧ W.frozen? ⟨g, 3, none⟩ = false ∧ W.frozen? ⟨g, 4, none⟩ = false ∧ W.frozen? ⟨g, 5, none⟩ = false) ∧ g < W.heap.size :=
  ⟨⟨by rw [cell_of_row _ _ _ _ _ _ h]; rfl, by rw [cell_of_row _ _ _ _ _ _ h]; rfl, by rw [cell_of_row _ _ _ _ _ _ h]; rfl, by rw [cell_of_row _ _ _ _ _ _ h]; rfl, by rw [cell_of_row _ _ _ _ _ _ h]; rfl, by rw [cell_of_row _ _ _ _ _ _ h]; rfl⟩,
   ⟨row_free W g 0 _ _ h, row_free W g 1 _ _ h, row_free W g 2 _ _ h, row_free W g 3 _ _ h, row_free W g 4 _ _ h, row_free W g 5 _ _ h⟩, lt_of_blk h⟩

set_option maxRecDepth 100000 in
set_option maxHeartbeats 8000000 in
theorem r4thing_any {w : World} {r b cap : Nat} {T : ByteArray} {A : Nat} {d : Int} (h : Rdr w r b cap T A 0 d) :
    Calls Tryd.prog 112 #[.pointer (some ⟨r, 0, none⟩)] w (XPost w r b cap T A d) := by
  have hrl := h.lt
  have hbl := h.ltb
  have F0 := Lib.hid (Fr1.new w r)
  have R0 := Lib.hid (h.below (w' := w.alloc zEx) ((Below.refl _ _).alloc (Nat.le_refl _) _))
  clear h
  go_enter Tryd.func112, Tryd.ntmps112
  go_wp2_with fail
  go_at_call 24
  refine (r4kind_first R0.out 4 false (by rfl)).mono ?_
  rintro e w1 ⟨rfl, hb⟩
  have R1 := Lib.hid (R0.out.below hb)
  have F1 := Lib.hid (F0.out.on (kept_of_below hb) hrl)
  clear hb
  go_wp2_with fail
  go_at_call 24
  refine (r4kind_first R1.out 5 true (by rfl)).mono ?_
  rintro e w2 ⟨rfl, hb⟩
  have R2 := Lib.hid (R1.out.below hb)
  have F2 := Lib.hid (F1.out.on (kept_of_below hb) hrl)
  clear hb
  go_wp2_with fail
  go_at_call 59
  refine (r4text_any R2.out).mono ?_
  rintro e w3 ⟨rfl, hk, hR⟩
  have R3 := Lib.hid hR
  have F3 := Lib.hid (F2.out.on hk hrl)
  clear hk hR
  obtain ⟨⟨c0, c1, c2, c3, c4, c5⟩, ⟨f0, f1, f2, f3, f4, f5⟩, l0⟩ := six F3.out.b0
  have fin := Lib.hid (fin1 F3.out R3.out hrl hbl)
  go_wp2_with fail
  refine bodyPost_ret (v := xEx T) (by simp [results, Tryd.results112, go_sem, c0, c1, c2, c3, c4, c5]) rfl ?_
  exact fin.out

set_option maxRecDepth 100000 in
set_option maxHeartbeats 8000000 in
theorem r4atom_any {w : World} {r b cap : Nat} {T : ByteArray} {A : Nat} {d : Int} (h : Rdr w r b cap T A 0 d) (h0 : 0 ≤ d) (h1 : d ≤ 40) :
    Calls Tryd.prog 110 #[.pointer (some ⟨r, 0, none⟩)] w (XPost w r b cap T A d) := by
  have hrl := h.lt
  have hbl := h.ltb
  have F0 := Lib.hid (Fr2.new w r)
  have R0 := Lib.hid (h.below (w' := (w.alloc zEx).alloc zEx) (((Below.refl _ _).alloc (Nat.le_refl _) _).alloc (by simp) _))
  clear h
  go_enter Tryd.func110, Tryd.ntmps110
  go_wp2_with fail
  go_at_call 64
  refine (r4open_any R0.out h0 h1).mono ?_
  rintro e w1 ⟨rfl, hk, hR⟩
  have R1 := Lib.hid hR
  have F1 := Lib.hid (F0.out.on hk hrl)
  clear hk hR
  go_wp2_with fail
  go_at_call 112
  refine (r4thing_any R1.out).mono ?_
  rintro e w2 ⟨rfl, hk, hR⟩
  have R2 := Lib.hid hR
  have F2 := Lib.hid (F1.out.on hk hrl)
  clear hk hR
  obtain ⟨⟨c0, c1, c2, c3, c4, c5⟩, ⟨f0, f1, f2, f3, f4, f5⟩, l0⟩ := six F2.out.b0
  obtain ⟨⟨d0, d1, d2, d3, d4, d5⟩, ⟨g0, g1, g2, g3, g4, g5⟩, l1⟩ := six F2.out.b1
  obtain ⟨-, -, rd, -⟩ := R2.out.cells
  have rf := row_free _ r 2 _ _ R2.out.blk
  have rl := R2.out.lt
  have fin := Lib.hid (fin2 (d' := d) F2.out R2.out hrl hbl)
  have hne : r ≠ w.heap.size := by omega
  have hne1 : r ≠ w.heap.size + 1 := by omega
  go_wp2_with fail
  refine bodyPost_ret (v := xEx T) (by simp [results, Tryd.results110, go_sem, c0, c1, c2, c3, c4, c5]) rfl ?_
  exact fin.out

set_option maxRecDepth 100000 in
set_option maxHeartbeats 8000000 in
theorem r4call_any {w : World} {r b cap : Nat} {T : ByteArray} {A : Nat} {d : Int} (h : Rdr w r b cap T A 0 d) (h0 : 0 ≤ d) (h1 : d ≤ 40) :
    Calls Tryd.prog 102 #[.pointer (some ⟨r, 0, none⟩)] w (XPost w r b cap T A d) := by
  have hrl := h.lt
  have hbl := h.ltb
  have F0 := Lib.hid (Fr1.new w r)
  have R0 := Lib.hid (h.below (w' := w.alloc zEx) ((Below.refl _ _).alloc (Nat.le_refl _) _))
  clear h
  go_enter Tryd.func102, Tryd.ntmps102
  go_wp2_with fail
  go_at_call 24
  refine (r4kind_first R0.out 2 false (by rfl)).mono ?_
  rintro e w1 ⟨rfl, hb⟩
  have R1 := Lib.hid (R0.out.below hb)
  have F1 := Lib.hid (F0.out.on (kept_of_below hb) hrl)
  clear hb
  go_wp2_with fail
  go_at_call 110
  refine (r4atom_any R1.out h0 h1).mono ?_
  rintro e w2 ⟨rfl, hk, hR⟩
  have R2 := Lib.hid hR
  have F2 := Lib.hid (F1.out.on hk hrl)
  clear hk hR
  have hbx := heap_alloc_new w2 (xObj T)
  have hbel : Below w2.heap.size w2 (w2.alloc (xObj T)) := (Below.refl _ _).alloc (Nat.le_refl _) _
  have HS := Lib.hid (show Fr1 w (w2.alloc (xObj T)) r ∧ Rdr (w2.alloc (xObj T)) r b cap T A 1 d ∧ (w2.alloc (xObj T)).heap[w2.heap.size]? = some (xObj T) from ⟨F2.out.on (kept_of_below hbel) hrl, R2.out.below hbel, hbx⟩)
  have hl2 : w.heap.size < w2.heap.size := lt_of_blk F2.out.b0
  clear hbx hbel
  go_wp2_with fail
  go_loopw [5] (fun _ wr => Fr1 w wr r ∧ Rdr wr r b cap T A 1 d ∧ wr.heap[w2.heap.size]? = some (xObj T)) (fun _ _ => 0)
  case atStart => exact HS.out
  case round =>
    obtain ⟨hF, hR, hX⟩ := hrel
    have FF := Lib.hid hF
    have RR := Lib.hid hR
    have XX := Lib.hid hX
    clear hF hR hX
    go_wp2_with fail
    go_at_call 109
    refine (r4begins_no RR.out).mono ?_
    rintro e w3 ⟨rfl, hb⟩
    have F3 := Lib.hid (FF.out.on (kept_of_below hb) hrl)
    have R3 := Lib.hid (RR.out.below hb)
    have hx3 : w3.heap[w2.heap.size]? = some (xObj T) := (hb.block _ (lt_of_blk XX.out)).trans XX.out
    obtain ⟨⟨c0, c1, c2, c3, c4, c5⟩, ⟨f0, f1, f2, f3, f4, f5⟩, l0⟩ := six F3.out.b0
    obtain ⟨⟨d0, d1, d2, d3, d4, d5⟩, ⟨g0, g1, g2, g3, g4, g5⟩, l1⟩ := six hx3
    clear hb hx3
    have fin := Lib.hid (fin1 F3.out R3.out hrl hbl)
    go_wp2_with fail
    refine bodyPost_ret (v := xEx T) (by simp [results, Tryd.results102, go_sem, c0, c1, c2, c3, c4, c5]) rfl ?_
    exact fin.out

set_option maxRecDepth 100000 in
set_option maxHeartbeats 8000000 in
theorem r4prefix_any {w : World} {r b cap : Nat} {T : ByteArray} {A : Nat} {d : Int} (h : Rdr w r b cap T A 0 d) (h0 : 0 ≤ d) (h1 : d ≤ 40) :
    Calls Tryd.prog 90 #[.pointer (some ⟨r, 0, none⟩)] w (XPost w r b cap T A d) := by
  have hrl := h.lt
  have hbl := h.ltb
  have F0 := Lib.hid (Fr1.new w r)
  have R0 := Lib.hid (h.below (w' := w.alloc zEx) ((Below.refl _ _).alloc (Nat.le_refl _) _))
  clear h
  go_enter Tryd.func90, Tryd.ntmps90
  go_wp2_with fail
  go_at_call 23
  refine (r4take_no R0.out (.inl rfl) ⟨#[45]⟩ (ne_nil _ _)).mono ?_
  rintro e w1 ⟨rfl, hb⟩
  have R1 := Lib.hid (R0.out.below hb)
  have F1 := Lib.hid (F0.out.on (kept_of_below hb) hrl)
  clear hb
  go_wp2_with fail
  go_at_call 102
  refine (r4call_any R1.out h0 h1).mono ?_
  rintro e w2 ⟨rfl, hk, hR⟩
  have R2 := Lib.hid hR
  have F2 := Lib.hid (F1.out.on hk hrl)
  clear hk hR
  obtain ⟨⟨c0, c1, c2, c3, c4, c5⟩, ⟨f0, f1, f2, f3, f4, f5⟩, l0⟩ := six F2.out.b0
  have fin := Lib.hid (fin1 F2.out R2.out hrl hbl)
  go_wp2_with fail
  refine bodyPost_ret (v := xEx T) (by simp [results, Tryd.results90, go_sem, c0, c1, c2, c3, c4, c5]) rfl ?_
  exact fin.out

set_option maxRecDepth 100000 in
set_option maxHeartbeats 8000000 in
theorem r4op_7 {w : World} {r b cap : Nat} {T : ByteArray} {A : Nat} {d : Int} (h : Rdr w r b cap T A 0 d) (h0 : 0 ≤ d) (h1 : d ≤ 40) :
    Calls Tryd.prog 80 #[.pointer (some ⟨r, 0, none⟩), .int .i64 7] w (XPost w r b cap T A d) := by
  have hrl := h.lt
  have hbl := h.ltb
  have F0 := Lib.hid (Fr1.new w r)
  have R0 := Lib.hid (h.below (w' := w.alloc zEx) ((Below.refl _ _).alloc (Nat.le_refl _) _))
  clear h
  go_enter Tryd.func80, Tryd.ntmps80
  go_wp2_with fail
  go_at_call 90
  refine (r4prefix_any R0.out h0 h1).mono ?_
  rintro e w1 ⟨rfl, hk, hR⟩
  have R1 := Lib.hid hR
  have F1 := Lib.hid (F0.out.on hk hrl)
  clear hk hR
  obtain ⟨⟨c0, c1, c2, c3, c4, c5⟩, ⟨f0, f1, f2, f3, f4, f5⟩, l0⟩ := six F1.out.b0
  have fin := Lib.hid (fin1 F1.out R1.out hrl hbl)
  go_wp2_with fail
  refine bodyPost_ret (v := xEx T) (by simp [results, Tryd.results80, go_sem, c0, c1, c2, c3, c4, c5]) rfl ?_
  exact fin.out

set_option maxRecDepth 100000 in
set_option maxHeartbeats 8000000 in
theorem r4op_6 {w : World} {r b cap : Nat} {T : ByteArray} {A : Nat} {d : Int} (h : Rdr w r b cap T A 0 d) (h0 : 0 ≤ d) (h1 : d ≤ 40) :
    Calls Tryd.prog 80 #[.pointer (some ⟨r, 0, none⟩), .int .i64 6] w (XPost w r b cap T A d) := by
  have hrl := h.lt
  have hbl := h.ltb
  have F0 := Lib.hid (Fr1.new w r)
  have R0 := Lib.hid (h.below (w' := w.alloc zEx) ((Below.refl _ _).alloc (Nat.le_refl _) _))
  clear h
  go_enter Tryd.func80, Tryd.ntmps80
  go_wp2_with fail
  go_at_call 80
  refine (r4op_7 R0.out h0 h1).mono ?_
  rintro e w1 ⟨rfl, hk, hR⟩
  have R1 := Lib.hid hR
  have F1 := Lib.hid (F0.out.on hk hrl)
  clear hk hR
  have hbx := heap_alloc_new w1 (xObj T)
  have hbel : Below w1.heap.size w1 (w1.alloc (xObj T)) := (Below.refl _ _).alloc (Nat.le_refl _) _
  have HS := Lib.hid (show Fr1 w (w1.alloc (xObj T)) r ∧ Rdr (w1.alloc (xObj T)) r b cap T A 1 d ∧ (w1.alloc (xObj T)).heap[w1.heap.size]? = some (xObj T) from ⟨F1.out.on (kept_of_below hbel) hrl, R1.out.below hbel, hbx⟩)
  have hl1 : w.heap.size < w1.heap.size := lt_of_blk F1.out.b0
  clear hbx hbel
  go_wp2_with fail
  go_loopw [6] (fun _ wr => Fr1 w wr r ∧ Rdr wr r b cap T A 1 d ∧ wr.heap[w1.heap.size]? = some (xObj T)) (fun _ _ => 0)
  case atStart => exact HS.out
  case round =>
    obtain ⟨hF, hR, hX⟩ := hrel
    have FF := Lib.hid hF
    have RR := Lib.hid hR
    have XX := Lib.hid hX
    clear hF hR hX
    go_wp2_with fail
    go_at_call 91
    refine (r4sign_6 RR.out).mono ?_
    rintro e w3 ⟨rfl, hb⟩
    have F3 := Lib.hid (FF.out.on (kept_of_below hb) hrl)
    have R3 := Lib.hid (RR.out.below hb)
    have hx3 : w3.heap[w1.heap.size]? = some (xObj T) := (hb.block _ (lt_of_blk XX.out)).trans XX.out
    obtain ⟨⟨c0, c1, c2, c3, c4, c5⟩, ⟨f0, f1, f2, f3, f4, f5⟩, l0⟩ := six F3.out.b0
    obtain ⟨⟨d0, d1, d2, d3, d4, d5⟩, ⟨g0, g1, g2, g3, g4, g5⟩, l1⟩ := six hx3
    clear hb hx3
    have fin := Lib.hid (fin1 F3.out R3.out hrl hbl)
    go_wp2_with fail
    refine bodyPost_ret (v := xEx T) (by simp [results, Tryd.results80, go_sem, c0, c1, c2, c3, c4, c5]) rfl ?_
    exact fin.out

set_option maxRecDepth 100000 in
set_option maxHeartbeats 8000000 in
theorem r4op_5 {w : World} {r b cap : Nat} {T : ByteArray} {A : Nat} {d : Int} (h : Rdr w r b cap T A 0 d) (h0 : 0 ≤ d) (h1 : d ≤ 40) :
    Calls Tryd.prog 80 #[.pointer (some ⟨r, 0, none⟩), .int .i64 5] w (XPost w r b cap T A d) := by
  have hrl := h.lt
  have hbl := h.ltb
  have F0 := Lib.hid (Fr1.new w r)
  have R0 := Lib.hid (h.below (w' := w.alloc zEx) ((Below.refl _ _).alloc (Nat.le_refl _) _))
  clear h
  go_enter Tryd.func80, Tryd.ntmps80
  go_wp2_with fail
  go_at_call 80
  refine (r4op_6 R0.out h0 h1).mono ?_
  rintro e w1 ⟨rfl, hk, hR⟩
  have R1 := Lib.hid hR
  have F1 := Lib.hid (F0.out.on hk hrl)
  clear hk hR
  have hbx := heap_alloc_new w1 (xObj T)
  have hbel : Below w1.heap.size w1 (w1.alloc (xObj T)) := (Below.refl _ _).alloc (Nat.le_refl _) _
  have HS := Lib.hid (show Fr1 w (w1.alloc (xObj T)) r ∧ Rdr (w1.alloc (xObj T)) r b cap T A 1 d ∧ (w1.alloc (xObj T)).heap[w1.heap.size]? = some (xObj T) from ⟨F1.out.on (kept_of_below hbel) hrl, R1.out.below hbel, hbx⟩)
  have hl1 : w.heap.size < w1.heap.size := lt_of_blk F1.out.b0
  clear hbx hbel
  go_wp2_with fail
  go_loopw [6] (fun _ wr => Fr1 w wr r ∧ Rdr wr r b cap T A 1 d ∧ wr.heap[w1.heap.size]? = some (xObj T)) (fun _ _ => 0)
  case atStart => exact HS.out
  case round =>
    obtain ⟨hF, hR, hX⟩ := hrel
    have FF := Lib.hid hF
    have RR := Lib.hid hR
    have XX := Lib.hid hX
    clear hF hR hX
    go_wp2_with fail
    go_at_call 91
    refine (r4sign_5 RR.out).mono ?_
    rintro e w3 ⟨rfl, hb⟩
    have F3 := Lib.hid (FF.out.on (kept_of_below hb) hrl)
    have R3 := Lib.hid (RR.out.below hb)
    have hx3 : w3.heap[w1.heap.size]? = some (xObj T) := (hb.block _ (lt_of_blk XX.out)).trans XX.out
    obtain ⟨⟨c0, c1, c2, c3, c4, c5⟩, ⟨f0, f1, f2, f3, f4, f5⟩, l0⟩ := six F3.out.b0
    obtain ⟨⟨d0, d1, d2, d3, d4, d5⟩, ⟨g0, g1, g2, g3, g4, g5⟩, l1⟩ := six hx3
    clear hb hx3
    have fin := Lib.hid (fin1 F3.out R3.out hrl hbl)
    go_wp2_with fail
    refine bodyPost_ret (v := xEx T) (by simp [results, Tryd.results80, go_sem, c0, c1, c2, c3, c4, c5]) rfl ?_
    exact fin.out

set_option maxRecDepth 100000 in
set_option maxHeartbeats 8000000 in
theorem r4op_4 {w : World} {r b cap : Nat} {T : ByteArray} {A : Nat} {d : Int} (h : Rdr w r b cap T A 0 d) (h0 : 0 ≤ d) (h1 : d ≤ 40) :
    Calls Tryd.prog 80 #[.pointer (some ⟨r, 0, none⟩), .int .i64 4] w (XPost w r b cap T A d) := by
  have hrl := h.lt
  have hbl := h.ltb
  have F0 := Lib.hid (Fr1.new w r)
  have R0 := Lib.hid (h.below (w' := w.alloc zEx) ((Below.refl _ _).alloc (Nat.le_refl _) _))
  clear h
  go_enter Tryd.func80, Tryd.ntmps80
  go_wp2_with fail
  go_at_call 80
  refine (r4op_5 R0.out h0 h1).mono ?_
  rintro e w1 ⟨rfl, hk, hR⟩
  have R1 := Lib.hid hR
  have F1 := Lib.hid (F0.out.on hk hrl)
  clear hk hR
  have hbx := heap_alloc_new w1 (xObj T)
  have hbel : Below w1.heap.size w1 (w1.alloc (xObj T)) := (Below.refl _ _).alloc (Nat.le_refl _) _
  have HS := Lib.hid (show Fr1 w (w1.alloc (xObj T)) r ∧ Rdr (w1.alloc (xObj T)) r b cap T A 1 d ∧ (w1.alloc (xObj T)).heap[w1.heap.size]? = some (xObj T) from ⟨F1.out.on (kept_of_below hbel) hrl, R1.out.below hbel, hbx⟩)
  have hl1 : w.heap.size < w1.heap.size := lt_of_blk F1.out.b0
  clear hbx hbel
  go_wp2_with fail
  go_loopw [6] (fun _ wr => Fr1 w wr r ∧ Rdr wr r b cap T A 1 d ∧ wr.heap[w1.heap.size]? = some (xObj T)) (fun _ _ => 0)
  case atStart => exact HS.out
  case round =>
    obtain ⟨hF, hR, hX⟩ := hrel
    have FF := Lib.hid hF
    have RR := Lib.hid hR
    have XX := Lib.hid hX
    clear hF hR hX
    go_wp2_with fail
    go_at_call 91
    refine (r4sign_4 RR.out).mono ?_
    rintro e w3 ⟨rfl, hb⟩
    have F3 := Lib.hid (FF.out.on (kept_of_below hb) hrl)
    have R3 := Lib.hid (RR.out.below hb)
    have hx3 : w3.heap[w1.heap.size]? = some (xObj T) := (hb.block _ (lt_of_blk XX.out)).trans XX.out
    obtain ⟨⟨c0, c1, c2, c3, c4, c5⟩, ⟨f0, f1, f2, f3, f4, f5⟩, l0⟩ := six F3.out.b0
    obtain ⟨⟨d0, d1, d2, d3, d4, d5⟩, ⟨g0, g1, g2, g3, g4, g5⟩, l1⟩ := six hx3
    clear hb hx3
    have fin := Lib.hid (fin1 F3.out R3.out hrl hbl)
    go_wp2_with fail
    refine bodyPost_ret (v := xEx T) (by simp [results, Tryd.results80, go_sem, c0, c1, c2, c3, c4, c5]) rfl ?_
    exact fin.out

set_option maxRecDepth 100000 in
set_option maxHeartbeats 8000000 in
theorem r4op_3 {w : World} {r b cap : Nat} {T : ByteArray} {A : Nat} {d : Int} (h : Rdr w r b cap T A 0 d) (h0 : 0 ≤ d) (h1 : d ≤ 40) :
    Calls Tryd.prog 80 #[.pointer (some ⟨r, 0, none⟩), .int .i64 3] w (XPost w r b cap T A d) := by
  have hrl := h.lt
  have hbl := h.ltb
  have F0 := Lib.hid (Fr1.new w r)
  have R0 := Lib.hid (h.below (w' := w.alloc zEx) ((Below.refl _ _).alloc (Nat.le_refl _) _))
  clear h
  go_enter Tryd.func80, Tryd.ntmps80
  go_wp2_with fail
  go_at_call 80
  refine (r4op_4 R0.out h0 h1).mono ?_
  rintro e w1 ⟨rfl, hk, hR⟩
  have R1 := Lib.hid hR
  have F1 := Lib.hid (F0.out.on hk hrl)
  clear hk hR
  have hbx := heap_alloc_new w1 (xObj T)
  have hbel : Below w1.heap.size w1 (w1.alloc (xObj T)) := (Below.refl _ _).alloc (Nat.le_refl _) _
  have HS := Lib.hid (show Fr1 w (w1.alloc (xObj T)) r ∧ Rdr (w1.alloc (xObj T)) r b cap T A 1 d ∧ (w1.alloc (xObj T)).heap[w1.heap.size]? = some (xObj T) from ⟨F1.out.on (kept_of_below hbel) hrl, R1.out.below hbel, hbx⟩)
  have hl1 : w.heap.size < w1.heap.size := lt_of_blk F1.out.b0
  clear hbx hbel
  go_wp2_with fail
  go_loopw [6] (fun _ wr => Fr1 w wr r ∧ Rdr wr r b cap T A 1 d ∧ wr.heap[w1.heap.size]? = some (xObj T)) (fun _ _ => 0)
  case atStart => exact HS.out
  case round =>
    obtain ⟨hF, hR, hX⟩ := hrel
    have FF := Lib.hid hF
    have RR := Lib.hid hR
    have XX := Lib.hid hX
    clear hF hR hX
    go_wp2_with fail
    go_at_call 91
    refine (r4sign_3 RR.out).mono ?_
    rintro e w3 ⟨rfl, hb⟩
    have F3 := Lib.hid (FF.out.on (kept_of_below hb) hrl)
    have R3 := Lib.hid (RR.out.below hb)
    have hx3 : w3.heap[w1.heap.size]? = some (xObj T) := (hb.block _ (lt_of_blk XX.out)).trans XX.out
    obtain ⟨⟨c0, c1, c2, c3, c4, c5⟩, ⟨f0, f1, f2, f3, f4, f5⟩, l0⟩ := six F3.out.b0
    obtain ⟨⟨d0, d1, d2, d3, d4, d5⟩, ⟨g0, g1, g2, g3, g4, g5⟩, l1⟩ := six hx3
    clear hb hx3
    have fin := Lib.hid (fin1 F3.out R3.out hrl hbl)
    go_wp2_with fail
    refine bodyPost_ret (v := xEx T) (by simp [results, Tryd.results80, go_sem, c0, c1, c2, c3, c4, c5]) rfl ?_
    exact fin.out

set_option maxRecDepth 100000 in
set_option maxHeartbeats 8000000 in
theorem r4op_2 {w : World} {r b cap : Nat} {T : ByteArray} {A : Nat} {d : Int} (h : Rdr w r b cap T A 0 d) (h0 : 0 ≤ d) (h1 : d ≤ 40) :
    Calls Tryd.prog 80 #[.pointer (some ⟨r, 0, none⟩), .int .i64 2] w (XPost w r b cap T A d) := by
  have hrl := h.lt
  have hbl := h.ltb
  have F0 := Lib.hid (Fr1.new w r)
  have R0 := Lib.hid (h.below (w' := w.alloc zEx) ((Below.refl _ _).alloc (Nat.le_refl _) _))
  clear h
  go_enter Tryd.func80, Tryd.ntmps80
  go_wp2_with fail
  go_at_call 80
  refine (r4op_3 R0.out h0 h1).mono ?_
  rintro e w1 ⟨rfl, hk, hR⟩
  have R1 := Lib.hid hR
  have F1 := Lib.hid (F0.out.on hk hrl)
  clear hk hR
  have hbx := heap_alloc_new w1 (xObj T)
  have hbel : Below w1.heap.size w1 (w1.alloc (xObj T)) := (Below.refl _ _).alloc (Nat.le_refl _) _
  have HS := Lib.hid (show Fr1 w (w1.alloc (xObj T)) r ∧ Rdr (w1.alloc (xObj T)) r b cap T A 1 d ∧ (w1.alloc (xObj T)).heap[w1.heap.size]? = some (xObj T) from ⟨F1.out.on (kept_of_below hbel) hrl, R1.out.below hbel, hbx⟩)
  have hl1 : w.heap.size < w1.heap.size := lt_of_blk F1.out.b0
  clear hbx hbel
  go_wp2_with fail
  go_loopw [6] (fun _ wr => Fr1 w wr r ∧ Rdr wr r b cap T A 1 d ∧ wr.heap[w1.heap.size]? = some (xObj T)) (fun _ _ => 0)
  case atStart => exact HS.out
  case round =>
    obtain ⟨hF, hR, hX⟩ := hrel
    have FF := Lib.hid hF
    have RR := Lib.hid hR
    have XX := Lib.hid hX
    clear hF hR hX
    go_wp2_with fail
    go_at_call 91
    refine (r4sign_2 RR.out).mono ?_
    rintro e w3 ⟨rfl, hb⟩
    have F3 := Lib.hid (FF.out.on (kept_of_below hb) hrl)
    have R3 := Lib.hid (RR.out.below hb)
    have hx3 : w3.heap[w1.heap.size]? = some (xObj T) := (hb.block _ (lt_of_blk XX.out)).trans XX.out
    obtain ⟨⟨c0, c1, c2, c3, c4, c5⟩, ⟨f0, f1, f2, f3, f4, f5⟩, l0⟩ := six F3.out.b0
    obtain ⟨⟨d0, d1, d2, d3, d4, d5⟩, ⟨g0, g1, g2, g3, g4, g5⟩, l1⟩ := six hx3
    clear hb hx3
    have fin := Lib.hid (fin1 F3.out R3.out hrl hbl)
    go_wp2_with fail
    refine bodyPost_ret (v := xEx T) (by simp [results, Tryd.results80, go_sem, c0, c1, c2, c3, c4, c5]) rfl ?_
    exact fin.out

set_option maxRecDepth 100000 in
set_option maxHeartbeats 8000000 in
theorem r4op_1 {w : World} {r b cap : Nat} {T : ByteArray} {A : Nat} {d : Int} (h : Rdr w r b cap T A 0 d) (h0 : 0 ≤ d) (h1 : d ≤ 40) :
    Calls Tryd.prog 80 #[.pointer (some ⟨r, 0, none⟩), .int .i64 1] w (XPost w r b cap T A d) := by
  have hrl := h.lt
  have hbl := h.ltb
  have F0 := Lib.hid (Fr1.new w r)
  have R0 := Lib.hid (h.below (w' := w.alloc zEx) ((Below.refl _ _).alloc (Nat.le_refl _) _))
  clear h
  go_enter Tryd.func80, Tryd.ntmps80
  go_wp2_with fail
  go_at_call 80
  refine (r4op_2 R0.out h0 h1).mono ?_
  rintro e w1 ⟨rfl, hk, hR⟩
  have R1 := Lib.hid hR
  have F1 := Lib.hid (F0.out.on hk hrl)
  clear hk hR
  have hbx := heap_alloc_new w1 (xObj T)
  have hbel : Below w1.heap.size w1 (w1.alloc (xObj T)) := (Below.refl _ _).alloc (Nat.le_refl _) _
  have HS := Lib.hid (show Fr1 w (w1.alloc (xObj T)) r ∧ Rdr (w1.alloc (xObj T)) r b cap T A 1 d ∧ (w1.alloc (xObj T)).heap[w1.heap.size]? = some (xObj T) from ⟨F1.out.on (kept_of_below hbel) hrl, R1.out.below hbel, hbx⟩)
  have hl1 : w.heap.size < w1.heap.size := lt_of_blk F1.out.b0
  clear hbx hbel
  go_wp2_with fail
  go_loopw [6] (fun _ wr => Fr1 w wr r ∧ Rdr wr r b cap T A 1 d ∧ wr.heap[w1.heap.size]? = some (xObj T)) (fun _ _ => 0)
  case atStart => exact HS.out
  case round =>
    obtain ⟨hF, hR, hX⟩ := hrel
    have FF := Lib.hid hF
    have RR := Lib.hid hR
    have XX := Lib.hid hX
    clear hF hR hX
    go_wp2_with fail
    go_at_call 91
    refine (r4sign_1 RR.out).mono ?_
    rintro e w3 ⟨rfl, hb⟩
    have F3 := Lib.hid (FF.out.on (kept_of_below hb) hrl)
    have R3 := Lib.hid (RR.out.below hb)
    have hx3 : w3.heap[w1.heap.size]? = some (xObj T) := (hb.block _ (lt_of_blk XX.out)).trans XX.out
    obtain ⟨⟨c0, c1, c2, c3, c4, c5⟩, ⟨f0, f1, f2, f3, f4, f5⟩, l0⟩ := six F3.out.b0
    obtain ⟨⟨d0, d1, d2, d3, d4, d5⟩, ⟨g0, g1, g2, g3, g4, g5⟩, l1⟩ := six hx3
    clear hb hx3
    have fin := Lib.hid (fin1 F3.out R3.out hrl hbl)
    go_wp2_with fail
    refine bodyPost_ret (v := xEx T) (by simp [results, Tryd.results80, go_sem, c0, c1, c2, c3, c4, c5]) rfl ?_
    exact fin.out

set_option maxRecDepth 100000 in
set_option maxHeartbeats 8000000 in
theorem r4op_0 {w : World} {r b cap : Nat} {T : ByteArray} {A : Nat} {d : Int} (h : Rdr w r b cap T A 0 d) (h0 : 0 ≤ d) (h1 : d ≤ 40) :
    Calls Tryd.prog 80 #[.pointer (some ⟨r, 0, none⟩), .int .i64 0] w (XPost w r b cap T A d) := by
  have hrl := h.lt
  have hbl := h.ltb
  have F0 := Lib.hid (Fr1.new w r)
  have R0 := Lib.hid (h.below (w' := w.alloc zEx) ((Below.refl _ _).alloc (Nat.le_refl _) _))
  clear h
  go_enter Tryd.func80, Tryd.ntmps80
  go_wp2_with fail
  go_at_call 80
  refine (r4op_1 R0.out h0 h1).mono ?_
  rintro e w1 ⟨rfl, hk, hR⟩
  have R1 := Lib.hid hR
  have F1 := Lib.hid (F0.out.on hk hrl)
  clear hk hR
  have hbx := heap_alloc_new w1 (xObj T)
  have hbel : Below w1.heap.size w1 (w1.alloc (xObj T)) := (Below.refl _ _).alloc (Nat.le_refl _) _
  have HS := Lib.hid (show Fr1 w (w1.alloc (xObj T)) r ∧ Rdr (w1.alloc (xObj T)) r b cap T A 1 d ∧ (w1.alloc (xObj T)).heap[w1.heap.size]? = some (xObj T) from ⟨F1.out.on (kept_of_below hbel) hrl, R1.out.below hbel, hbx⟩)
  have hl1 : w.heap.size < w1.heap.size := lt_of_blk F1.out.b0
  clear hbx hbel
  go_wp2_with fail
  go_loopw [6] (fun _ wr => Fr1 w wr r ∧ Rdr wr r b cap T A 1 d ∧ wr.heap[w1.heap.size]? = some (xObj T)) (fun _ _ => 0)
  case atStart => exact HS.out
  case round =>
    obtain ⟨hF, hR, hX⟩ := hrel
    have FF := Lib.hid hF
    have RR := Lib.hid hR
    have XX := Lib.hid hX
    clear hF hR hX
    go_wp2_with fail
    go_at_call 91
    refine (r4sign_0 RR.out).mono ?_
    rintro e w3 ⟨rfl, hb⟩
    have F3 := Lib.hid (FF.out.on (kept_of_below hb) hrl)
    have R3 := Lib.hid (RR.out.below hb)
    have hx3 : w3.heap[w1.heap.size]? = some (xObj T) := (hb.block _ (lt_of_blk XX.out)).trans XX.out
    obtain ⟨⟨c0, c1, c2, c3, c4, c5⟩, ⟨f0, f1, f2, f3, f4, f5⟩, l0⟩ := six F3.out.b0
    obtain ⟨⟨d0, d1, d2, d3, d4, d5⟩, ⟨g0, g1, g2, g3, g4, g5⟩, l1⟩ := six hx3
    clear hb hx3
    have fin := Lib.hid (fin1 F3.out R3.out hrl hbl)
    go_wp2_with fail
    refine bodyPost_ret (v := xEx T) (by simp [results, Tryd.results80, go_sem, c0, c1, c2, c3, c4, c5]) rfl ?_
    exact fin.out
end Go.Proofs.YtiimofdbconlhaaDoor
