/- The reference's expression of one text token: one, expr. -/
import Derived.Test.YtiimofdbconlhaaDoorPriRc
namespace Go.Proofs.YtiimofdbconlhaaDoor
open Go.RowKit PriM

set_option maxRecDepth 100000 in
set_option maxHeartbeats 8000000 in
theorem r4one_any {w : World} {r b cap : Nat} {T : ByteArray} {A : Nat} {d : Int} (h : Rdr w r b cap T A 0 d) (h0 : 0 ≤ d) (h1 : d ≤ 30) :
    Calls Tryd.prog 65 #[.pointer (some ⟨r, 0, none⟩)] w (XPost w r b cap T A d) := by
  have hrl := h.lt
  have hbl := h.ltb
  have F0 := Lib.hid (Fr2.new w r)
  have R0 := Lib.hid (h.below (w' := (w.alloc zEx).alloc zEx) (((Below.refl _ _).alloc (Nat.le_refl _) _).alloc (by simp) _))
  clear h
  go_enter Tryd.func65, Tryd.ntmps65
  go_wp2_with fail
  go_at_call 64
  refine (r4open_any R0.out h0 (by omega)).mono ?_
  rintro e w1 ⟨rfl, hk, hR⟩
  have R1 := Lib.hid hR
  have F1 := Lib.hid (F0.out.on hk hrl)
  clear hk hR
  go_wp2_with fail
  go_at_call 23
  refine (r4take_no R1.out (.inl rfl) ⟨#[108, 101, 116]⟩ (ne_nil _ _)).mono ?_
  rintro e w2 ⟨rfl, hb⟩
  have R2 := Lib.hid (R1.out.below hb)
  have F2 := Lib.hid (F1.out.on (kept_of_below hb) hrl)
  clear hb
  go_wp2_with fail
  go_at_call 23
  refine (r4take_no R2.out (.inl rfl) ⟨#[102, 117, 110]⟩ (ne_nil _ _)).mono ?_
  rintro e w3 ⟨rfl, hb⟩
  have R3 := Lib.hid (R2.out.below hb)
  have F3 := Lib.hid (F2.out.on (kept_of_below hb) hrl)
  clear hb
  go_wp2_with fail
  go_at_call 23
  refine (r4take_no R3.out (.inl rfl) ⟨#[105, 102]⟩ (ne_nil _ _)).mono ?_
  rintro e w4 ⟨rfl, hb⟩
  have R4 := Lib.hid (R3.out.below hb)
  have F4 := Lib.hid (F3.out.on (kept_of_below hb) hrl)
  clear hb
  go_wp2_with fail
  go_at_call 23
  refine (r4take_no R4.out (.inl rfl) ⟨#[109, 97, 116, 99, 104]⟩ (ne_nil _ _)).mono ?_
  rintro e w5 ⟨rfl, hb⟩
  have R5 := Lib.hid (R4.out.below hb)
  have F5 := Lib.hid (F4.out.on (kept_of_below hb) hrl)
  clear hb
  go_wp2_with fail
  go_at_call 23
  refine (r4take_no R5.out (.inl rfl) ⟨#[116, 114, 121]⟩ (ne_nil _ _)).mono ?_
  rintro e w6 ⟨rfl, hb⟩
  have R6 := Lib.hid (R5.out.below hb)
  have F6 := Lib.hid (F5.out.on (kept_of_below hb) hrl)
  clear hb
  go_wp2_with fail
  go_at_call 80
  refine (r4op_0 R6.out (by omega) (by omega)).mono ?_
  rintro e w7 ⟨rfl, hk, hR⟩
  have R7 := Lib.hid hR
  have F7 := Lib.hid (F6.out.on hk hrl)
  clear hk hR
  obtain ⟨⟨c0, c1, c2, c3, c4, c5⟩, ⟨f0, f1, f2, f3, f4, f5⟩, l0⟩ := six F7.out.b0
  obtain ⟨⟨d0, d1, d2, d3, d4, d5⟩, ⟨g0, g1, g2, g3, g4, g5⟩, l1⟩ := six F7.out.b1
  obtain ⟨-, -, rd, -⟩ := R7.out.cells
  have rf := row_free _ r 2 _ _ R7.out.blk
  have rl := R7.out.lt
  have fin := Lib.hid (fin2 (d' := d) F7.out R7.out hrl hbl)
  have hne : r ≠ w.heap.size := by omega
  have hne1 : r ≠ w.heap.size + 1 := by omega
  go_wp2_with fail
  refine bodyPost_ret (v := xEx T) (by simp [results, Tryd.results65, go_sem, c0, c1, c2, c3, c4, c5]) rfl ?_
  exact fin.out

set_option maxRecDepth 100000 in
set_option maxHeartbeats 8000000 in
theorem r4expr_any {w : World} {r b cap : Nat} {T : ByteArray} {A : Nat} {d : Int} (h : Rdr w r b cap T A 0 d) (h0 : 0 ≤ d) (h1 : d ≤ 20) :
    Calls Tryd.prog 38 #[.pointer (some ⟨r, 0, none⟩)] w (XPost w r b cap T A d) := by
  have hrl := h.lt
  have hbl := h.ltb
  have F0 := Lib.hid (Fr2.new w r)
  have R0 := Lib.hid (h.below (w' := (w.alloc zEx).alloc zEx) (((Below.refl _ _).alloc (Nat.le_refl _) _).alloc (by simp) _))
  clear h
  go_enter Tryd.func38, Tryd.ntmps38
  go_wp2_with fail
  go_at_call 64
  refine (r4open_any R0.out h0 (by omega)).mono ?_
  rintro e w1 ⟨rfl, hk, hR⟩
  have R1 := Lib.hid hR
  have F1 := Lib.hid (F0.out.on hk hrl)
  clear hk hR
  go_wp2_with fail
  go_at_call 65
  refine (r4one_any R1.out (by omega) (by omega)).mono ?_
  rintro e w2 ⟨rfl, hk, hR⟩
  have R2 := Lib.hid hR
  have F2 := Lib.hid (F1.out.on hk hrl)
  clear hk hR
  obtain ⟨⟨d0, d1, d2, d3, d4, d5⟩, ⟨g0, g1, g2, g3, g4, g5⟩, l1⟩ := six F2.out.b1
  have R3 := Lib.hid (R2.out.set6 (g := w.heap.size + 1) (by omega) (by omega) (.int .u8 2) (.string T) (.int .i64 0) (.bool false) (.slice none 0 0) (.slice none 0 0))
  have F3 := Lib.hid (show Fr2 w (set6 w2 (w.heap.size + 1) (.int .u8 2) (.string T) (.int .i64 0) (.bool false) (.slice none 0 0) (.slice none 0 0)) r (xObj T) from ⟨F2.out.kept.set6 (by omega) _ _ _ _ _ _, (set6_other (by omega)).trans F2.out.b0, set6_self F2.out.b1⟩)
  go_wp2_with fail
  go_at_call 23
  refine (r4take_no R3.out (.inr rfl) ⟨#[59]⟩ (ne_nil _ _)).mono ?_
  rintro e w4 ⟨rfl, hb⟩
  have R4 := Lib.hid (R3.out.below hb)
  have F4 := Lib.hid (F3.out.on (kept_of_below hb) hrl)
  clear hb d0 d1 d2 d3 d4 d5 g0 g1 g2 g3 g4 g5 l1
  obtain ⟨⟨c0, c1, c2, c3, c4, c5⟩, ⟨f0, f1, f2, f3, f4, f5⟩, l0⟩ := six F4.out.b0
  obtain ⟨⟨d0, d1, d2, d3, d4, d5⟩, ⟨g0, g1, g2, g3, g4, g5⟩, l1⟩ := six F4.out.b1
  obtain ⟨-, -, rd, -⟩ := R4.out.cells
  have rf := row_free _ r 2 _ _ R4.out.blk
  have rl := R4.out.lt
  have fin := Lib.hid (fin3 (d' := d) F4.out R4.out hrl hbl)
  have hne : r ≠ w.heap.size := by omega
  have hne1 : r ≠ w.heap.size + 1 := by omega
  go_wp2_with fail
  refine bodyPost_ret (v := xEx T) (by simp [results, Tryd.results38, go_sem, c0, c1, c2, c3, c4, c5]) rfl ?_
  exact fin.out
end Go.Proofs.YtiimofdbconlhaaDoor
