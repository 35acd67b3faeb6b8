/- The reference's declaration of one text token. -/
import Derived.Test.YtiimofdbconlhaaDoorPriRd
namespace Go.Proofs.YtiimofdbconlhaaDoor
open Go.RowKit PriM

/-- A declaration's cells. -/
abbrev dCs (T : ByteArray) : List Value := [.int .u8 1, .string ⟨#[]⟩, .bool false, .int .u8 2, .string T, .int .i64 0, .bool false, .slice none 0 0, .slice none 0 0, .int .i64 0, .slice none 0 0]
abbrev zDc : Obj := .cells #[.int .u8 0, .string ⟨#[]⟩, .bool false, .int .u8 0, .string ⟨#[]⟩, .int .i64 0, .bool false, .slice none 0 0, .slice none 0 0, .int .i64 0, .slice none 0 0] 39 (0, 0)
abbrev dVal (T : ByteArray) : Value := .agg #[.int .u8 1, .string ⟨#[]⟩, .bool false, .int .u8 2, .string T, .int .i64 0, .bool false, .slice none 0 0, .slice none 0 0, .int .i64 0, .slice none 0 0]
abbrev set11 (W : World) (g : Nat) (v0 v1 v2 v3 v4 v5 v6 v7 v8 v9 v10 : Value) : World :=
  ((((((((((W.setCell ⟨g, 0, none⟩ v0).setCell ⟨g, 1, none⟩ v1).setCell ⟨g, 2, none⟩ v2).setCell ⟨g, 3, none⟩ v3).setCell ⟨g, 4, none⟩ v4).setCell ⟨g, 5, none⟩ v5).setCell ⟨g, 6, none⟩ v6).setCell ⟨g, 7, none⟩ v7).setCell ⟨g, 8, none⟩ v8).setCell ⟨g, 9, none⟩ v9).setCell ⟨g, 10, none⟩ v10
theorem set11_other {W : World} {g k : Nat} {v0 v1 v2 v3 v4 v5 v6 v7 v8 v9 v10 : Value} (h : k ≠ g) : (set11 W g v0 v1 v2 v3 v4 v5 v6 v7 v8 v9 v10).heap[k]? = W.heap[k]? := by
  rw [Below.heap_setCell _ _ _ _ h, Below.heap_setCell _ _ _ _ h, Below.heap_setCell _ _ _ _ h, Below.heap_setCell _ _ _ _ h, Below.heap_setCell _ _ _ _ h, Below.heap_setCell _ _ _ _ h, Below.heap_setCell _ _ _ _ h, Below.heap_setCell _ _ _ _ h, Below.heap_setCell _ _ _ _ h, Below.heap_setCell _ _ _ _ h, Below.heap_setCell _ _ _ _ h]
theorem Kept.set11 {S : Nat → Prop} {a W : World} {g : Nat} (h : Kept S a W) (hg : a.heap.size ≤ g) (v0 v1 v2 v3 v4 v5 v6 v7 v8 v9 v10 : Value) : Kept S a (set11 W g v0 v1 v2 v3 v4 v5 v6 v7 v8 v9 v10) :=
  (((((((((((h.setCell (.inr hg) _).setCell (.inr hg) _).setCell (.inr hg) _).setCell (.inr hg) _).setCell (.inr hg) _).setCell (.inr hg) _).setCell (.inr hg) _).setCell (.inr hg) _).setCell (.inr hg) _).setCell (.inr hg) _).setCell (.inr hg) _)
theorem Rdr.set11 {W : World} {r b cap : Nat} {T : ByteArray} {A : Nat} {i d : Int} (h : Rdr W r b cap T A i d) {g : Nat} (hr : r ≠ g) (hb : b ≠ g) (v0 v1 v2 v3 v4 v5 v6 v7 v8 v9 v10 : Value) : Rdr (set11 W g v0 v1 v2 v3 v4 v5 v6 v7 v8 v9 v10) r b cap T A i d := h.blocks (set11_other hb) (set11_other hr)
theorem eleven {W : World} {g : Nat} {c0 c1 c2 c3 c4 c5 c6 c7 c8 c9 c10 : Value} {t : TypeId} (h : W.heap[g]? = some (.cells #[c0, c1, c2, c3, c4, c5, c6, c7, c8, c9, c10] t (0, 0))) :
    (W.cell? ⟨g, 0, none⟩ = some c0 ∧ W.cell? ⟨g, 1, none⟩ = some c1 ∧ W.cell? ⟨g, 2, none⟩ = some c2 ∧ W.cell? ⟨g, 3, none⟩ = some c3 ∧ W.cell? ⟨g, 4, none⟩ = some c4 ∧ W.cell? ⟨g, 5, none⟩ = some c5 ∧ W.cell? ⟨g, 6, none⟩ = some c6 ∧ W.cell? ⟨g, 7, none⟩ = some c7 ∧ W.cell? ⟨g, 8, none⟩ = some c8 ∧ W.cell? ⟨g, 9, none⟩ = some c9 ∧ W.cell? ⟨g, 10, none⟩ = some c10) ∧ (W.frozen? ⟨g, 0, none⟩ = false ∧ W.frozen? ⟨g, 1, none⟩ = false ∧ W.frozen? ⟨g, 2, none⟩ = false ∧ W.frozen? ⟨g, 3, none⟩ = false ∧ W.frozen? ⟨g, 4, none⟩ = false ∧ W.frozen? ⟨g, 5, none⟩ = false ∧ W.frozen? ⟨g, 6, none⟩ = false ∧ W.frozen? ⟨g, 7, none⟩ = false ∧ W.frozen? ⟨g, 8, none⟩ = false ∧ W.frozen? ⟨g, 9, none⟩ = false ∧ W.frozen? ⟨g, 10, none⟩ = false) ∧ g < W.heap.size :=
  ⟨⟨by rw [cell_of_row _ _ _ _ _ _ h]; rfl, by rw [cell_of_row _ _ _ _ _ _ h]; rfl, by rw [cell_of_row _ _ _ _ _ _ h]; rfl, by rw [cell_of_row _ _ _ _ _ _ h]; rfl, by rw [cell_of_row _ _ _ _ _ _ h]; rfl, by rw [cell_of_row _ _ _ _ _ _ h]; rfl, by rw [cell_of_row _ _ _ _ _ _ h]; rfl, by rw [cell_of_row _ _ _ _ _ _ h]; rfl, by rw [cell_of_row _ _ _ _ _ _ h]; rfl, by rw [cell_of_row _ _ _ _ _ _ h]; rfl, by rw [cell_of_row _ _ _ _ _ _ h]; rfl⟩, ⟨row_free W g 0 _ _ h, row_free W g 1 _ _ h, row_free W g 2 _ _ h, row_free W g 3 _ _ h, row_free W g 4 _ _ h, row_free W g 5 _ _ h, row_free W g 6 _ _ h, row_free W g 7 _ _ h, row_free W g 8 _ _ h, row_free W g 9 _ _ h, row_free W g 10 _ _ h⟩, lt_of_blk h⟩
/-- What decl leaves. -/
def DPost (w : World) (r b cap : Nat) (T : ByteArray) (A : Nat) (d : Int) (e : Ending) (w' : World) : Prop := e = .returned (dVal T) ∧ Kept (fun k => k = r) w w' ∧ Rdr w' r b cap T A 1 d
structure FrD (w W : World) (r : Nat) : Prop where
  kept : Kept (fun k => k = r) w W
  b0 : W.heap[w.heap.size]? = some zDc
theorem FrD.new (w : World) (r : Nat) : FrD w (w.alloc zDc) r := ⟨(Kept.refl _ w).alloc _, heap_alloc_new w _⟩
theorem FrD.on {w W W' : World} {r : Nat} (h : FrD w W r) (hk : Kept (fun k => k = r) W W') (hr : r < w.heap.size) : FrD w W' r :=
  ⟨h.kept.trans hk, (hk.block _ (lt_of_blk h.b0) (by omega)).trans h.b0⟩
theorem finD {w W : World} {r b cap : Nat} {T : ByteArray} {A : Nat} {d : Int} (h : FrD w W r) (hR : Rdr W r b cap T A 1 d) (hr : r < w.heap.size) (hb : b < w.heap.size) :
    DPost w r b cap T A d (.returned (dVal T)) (set11 W w.heap.size (.int .u8 1) (.string ⟨#[]⟩) (.bool false) (.int .u8 2) (.string T) (.int .i64 0) (.bool false) (.slice none 0 0) (.slice none 0 0) (.int .i64 0) (.slice none 0 0)) :=
  ⟨rfl, h.kept.set11 (Nat.le_refl _) _ _ _ _ _ _ _ _ _ _ _, hR.set11 (by omega) (by omega) _ _ _ _ _ _ _ _ _ _ _⟩

set_option maxRecDepth 100000 in
set_option maxHeartbeats 8000000 in
theorem r4decl_any {w : World} {r b cap : Nat} {T : ByteArray} {A : Nat} (h : Rdr w r b cap T A 0 0) : Calls Tryd.prog 25 #[.pointer (some ⟨r, 0, none⟩)] w (DPost w r b cap T A 0) := by
  have hrl := h.lt
  have hbl := h.ltb
  have F0 := Lib.hid (FrD.new w r)
  have R0 := Lib.hid (h.below (w' := w.alloc zDc) ((Below.refl _ _).alloc (Nat.le_refl _) _))
  clear h
  go_enter Tryd.func25, Tryd.ntmps25
  go_wp2_with fail
  go_at_call 23
  refine (r4take_no R0.out (.inl rfl) ⟨#[116, 121, 112, 101]⟩ (ne_nil _ _)).mono ?_
  rintro e w1 ⟨rfl, hb⟩
  have R1 := Lib.hid (R0.out.below hb)
  have F1 := Lib.hid (F0.out.on (kept_of_below hb) hrl)
  clear hb
  go_wp2_with fail
  go_at_call 26
  refine (r4is_no R1.out (.inl rfl) ⟨#[108, 101, 116]⟩ (ne_nil _ _)).mono ?_
  rintro e w2 ⟨rfl, hb⟩
  have R2 := Lib.hid (R1.out.below hb)
  have F2 := Lib.hid (F1.out.on (kept_of_below hb) hrl)
  clear hb
  go_wp2_with fail
  go_at_call 38
  refine (r4expr_any R2.out (by omega) (by omega)).mono ?_
  rintro e w3 ⟨rfl, hk, hR⟩
  have R3 := Lib.hid hR
  have F3 := Lib.hid (F2.out.on hk hrl)
  clear hk hR
  obtain ⟨⟨c0, c1, c2, c3, c4, c5, c6, c7, c8, c9, c10⟩, ⟨f0, f1, f2, f3, f4, f5, f6, f7, f8, f9, f10⟩, l0⟩ := eleven F3.out.b0
  have fin := Lib.hid (finD F3.out R3.out hrl hbl)
  go_wp2_with fail
  refine bodyPost_ret (v := dVal T) (by simp [results, Tryd.results25, go_sem, c0, c1, c2, c3, c4, c5, c6, c7, c8, c9, c10]) rfl ?_
  exact fin.out
end Go.Proofs.YtiimofdbconlhaaDoor
