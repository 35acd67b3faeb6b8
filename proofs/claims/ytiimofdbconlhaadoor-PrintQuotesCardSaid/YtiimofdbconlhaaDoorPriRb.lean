/- The reference's reader behind a text token: nothing begins there, and no sign stands there. -/
import Derived.Test.YtiimofdbconlhaaDoorPriRa
namespace Go.Proofs.YtiimofdbconlhaaDoor
open Go.RowKit PriM

theorem ne_nil (a : UInt8) (l : List UInt8) : (⟨(a :: l).toArray⟩ : ByteArray).toList ≠ [] := by rw [toList_mk]; simp

set_option maxRecDepth 100000 in
set_option maxHeartbeats 4000000 in
theorem r4begins_no {w : World} {r b cap : Nat} {T : ByteArray} {A : Nat} {d : Int} (h : Rdr w r b cap T A 1 d) : Calls Tryd.prog 109 #[.pointer (some ⟨r, 0, none⟩)] w (NoPost w) := by
  have HR := Lib.hid h
  have B0 := Lib.hid (Below.refl w.heap.size w)
  clear h
  go_enter Tryd.func109, Tryd.ntmps109
  go_wp2_with fail
  go_at_call 24
  refine (r4kind_last (HR.out.below B0.out) 1 false (by rfl)).mono ?_
  rintro e w1 ⟨rfl, hb⟩
  have B1 := Lib.hid (B0.out.trans (hb.mono B0.out.size))
  clear hb
  go_wp2_with fail
  go_at_call 24
  refine (r4kind_last (HR.out.below B1.out) 2 false (by rfl)).mono ?_
  rintro e w2 ⟨rfl, hb⟩
  have B2 := Lib.hid (B1.out.trans (hb.mono B1.out.size))
  clear hb
  go_wp2_with fail
  go_at_call 24
  refine (r4kind_last (HR.out.below B2.out) 4 false (by rfl)).mono ?_
  rintro e w3 ⟨rfl, hb⟩
  have B3 := Lib.hid (B2.out.trans (hb.mono B2.out.size))
  clear hb
  go_wp2_with fail
  go_at_call 24
  refine (r4kind_last (HR.out.below B3.out) 5 false (by rfl)).mono ?_
  rintro e w4 ⟨rfl, hb⟩
  have B4 := Lib.hid (B3.out.trans (hb.mono B3.out.size))
  clear hb
  go_wp2_with fail
  go_at_call 26
  refine (r4is_no (HR.out.below B4.out) (.inr rfl) ⟨#[40]⟩ (ne_nil _ _)).mono ?_
  rintro e w5 ⟨rfl, hb⟩
  have B5 := Lib.hid (B4.out.trans (hb.mono B4.out.size))
  clear hb
  go_wp2_with fail
  go_at_call 26
  refine (r4is_no (HR.out.below B5.out) (.inr rfl) ⟨#[91]⟩ (ne_nil _ _)).mono ?_
  rintro e w6 ⟨rfl, hb⟩
  have B6 := Lib.hid (B5.out.trans (hb.mono B5.out.size))
  clear hb
  go_wp2_with fail
  go_at_call 26
  refine (r4is_no (HR.out.below B6.out) (.inr rfl) ⟨#[33]⟩ (ne_nil _ _)).mono ?_
  rintro e w7 ⟨rfl, hb⟩
  have B7 := Lib.hid (B6.out.trans (hb.mono B6.out.size))
  clear hb
  go_wp2_with fail
  go_at_call 26
  refine (r4is_no (HR.out.below B7.out) (.inr rfl) ⟨#[116, 114, 117, 101]⟩ (ne_nil _ _)).mono ?_
  rintro e w8 ⟨rfl, hb⟩
  have B8 := Lib.hid (B7.out.trans (hb.mono B7.out.size))
  clear hb
  go_wp2_with fail
  go_at_call 26
  refine (r4is_no (HR.out.below B8.out) (.inr rfl) ⟨#[102, 97, 108, 115, 101]⟩ (ne_nil _ _)).mono ?_
  rintro e w9 ⟨rfl, hb⟩
  have B9 := Lib.hid (B8.out.trans (hb.mono B8.out.size))
  clear hb
  go_wp2_with fail
  go_ret
  exact ⟨rfl, B9.out⟩

/-- The signs, level by level, as a literal lays them. -/
abbrev sgObjs (a : Nat) : List Obj := [
  .cells #[.string ⟨#[58, 61]⟩] 9 (0, 0),
  .cells #[.string ⟨#[124, 124]⟩] 9 (0, 0),
  .cells #[.string ⟨#[38, 38]⟩] 9 (0, 0),
  .cells #[.string ⟨#[61]⟩, .string ⟨#[60, 62]⟩, .string ⟨#[60, 61]⟩, .string ⟨#[60]⟩] 9 (0, 0),
  .cells #[.string ⟨#[58, 58]⟩, .string ⟨#[94]⟩] 9 (0, 0),
  .cells #[.string ⟨#[43]⟩, .string ⟨#[45]⟩] 9 (0, 0),
  .cells #[.string ⟨#[42]⟩, .string ⟨#[47]⟩, .string ⟨#[109, 111, 100]⟩] 9 (0, 0),
  .cells #[.slice (some ⟨a, 0, none⟩) 1 1, .slice (some ⟨a + 1, 0, none⟩) 1 1, .slice (some ⟨a + 2, 0, none⟩) 1 1, .slice (some ⟨a + 3, 0, none⟩) 4 4, .slice (some ⟨a + 4, 0, none⟩) 2 2, .slice (some ⟨a + 5, 0, none⟩) 2 2, .slice (some ⟨a + 6, 0, none⟩) 3 3] 87 (0, 0)]
theorem sg_at (w : World) (i : Nat) (o : Obj) (h : (sgObjs w.heap.size)[i]? = some o) : (allocs w (sgObjs w.heap.size)).heap[w.heap.size + i]? = some o := allocs_at w _ i o h

set_option maxRecDepth 100000 in
set_option maxHeartbeats 8000000 in
theorem r4sign_0 {w : World} {r b cap : Nat} {T : ByteArray} {A : Nat} {d : Int} (h : Rdr w r b cap T A 1 d) : Calls Tryd.prog 91 #[.pointer (some ⟨r, 0, none⟩), .int .i64 0] w fun e w' => e = .returned (.string ⟨#[]⟩) ∧ Below w.heap.size w w' := by
  have hA : Below w.heap.size w (allocs w (sgObjs w.heap.size)) := allocs_below w _
  have hS := allocs_size w (sgObjs w.heap.size)
  have h7 := sg_at w 7 _ rfl
  have h0 := sg_at w 0 _ rfl
  rw [Nat.add_zero] at h0
  have HF := Lib.hid (fun W (hb : Below (allocs w (sgObjs w.heap.size)).heap.size (allocs w (sgObjs w.heap.size)) W) =>
    (show W.cell? ⟨w.heap.size + 7, 0, none⟩ = some (.slice (some ⟨w.heap.size, 0, none⟩) 1 1) ∧ W.cell? ⟨w.heap.size, 0, none⟩ = some (.string ⟨#[58, 61]⟩) from
      ⟨by rw [cell_of_row _ _ _ _ _ _ ((hb.block _ (lt_of_blk h7)).trans h7)]; rfl, by have hk := (hb.block _ (lt_of_blk h0)).trans h0; rw [cell_of_row _ _ _ _ _ _ hk]; rfl⟩))
  have HR := Lib.hid (h.below hA)
  have HA := Lib.hid hA
  have HB0 := Lib.hid (Below.refl (allocs w (sgObjs w.heap.size)).heap.size (allocs w (sgObjs w.heap.size)))
  clear h7 h0 hA hS h
  go_enter Tryd.func91, Tryd.ntmps91
  go_wp2_with fail
  go_loopw [6] (fun i wr => (i = .int .i64 0 ∨ i = .int .i64 1) ∧ Below (allocs w (sgObjs w.heap.size)).heap.size (allocs w (sgObjs w.heap.size)) wr) (fun i _ => 1 - (intOf i).toNat)
  case atStart => exact ⟨.inl rfl, HB0.out⟩
  case round =>
    obtain ⟨hi, hbel⟩ := hrel
    have HW := Lib.hid hbel
    obtain ⟨e7, g0⟩ := HF.out wr hbel
    clear hbel
    rcases hi with rfl | rfl
    · go_wp2_with fail
      go_at_call 23
      refine (r4take_no (HR.out.below HW.out) (.inr rfl) ⟨#[58, 61]⟩ (ne_nil _ _)).mono ?_
      rintro e w2 ⟨rfl, hb⟩
      have HW2 := Lib.hid (HW.out.trans (hb.mono HW.out.size))
      clear hb
      go_wp2_with fail
      go_roundw
      case rel => exact ⟨Or.inr (rfl), HW2.out⟩
      case measure => simp [intOf]
    · go_wp2_with fail
      go_ret
      exact ⟨rfl, HA.out.trans (HW.out.mono HA.out.size)⟩

set_option maxRecDepth 100000 in
set_option maxHeartbeats 8000000 in
theorem r4sign_1 {w : World} {r b cap : Nat} {T : ByteArray} {A : Nat} {d : Int} (h : Rdr w r b cap T A 1 d) : Calls Tryd.prog 91 #[.pointer (some ⟨r, 0, none⟩), .int .i64 1] w fun e w' => e = .returned (.string ⟨#[]⟩) ∧ Below w.heap.size w w' := by
  have hA : Below w.heap.size w (allocs w (sgObjs w.heap.size)) := allocs_below w _
  have hS := allocs_size w (sgObjs w.heap.size)
  have h7 := sg_at w 7 _ rfl
  have h1 := sg_at w 1 _ rfl
  have HF := Lib.hid (fun W (hb : Below (allocs w (sgObjs w.heap.size)).heap.size (allocs w (sgObjs w.heap.size)) W) =>
    (show W.cell? ⟨w.heap.size + 7, 1, none⟩ = some (.slice (some ⟨w.heap.size + 1, 0, none⟩) 1 1) ∧ W.cell? ⟨w.heap.size + 1, 0, none⟩ = some (.string ⟨#[124, 124]⟩) from
      ⟨by rw [cell_of_row _ _ _ _ _ _ ((hb.block _ (lt_of_blk h7)).trans h7)]; rfl, by have hk := (hb.block _ (lt_of_blk h1)).trans h1; rw [cell_of_row _ _ _ _ _ _ hk]; rfl⟩))
  have HR := Lib.hid (h.below hA)
  have HA := Lib.hid hA
  have HB0 := Lib.hid (Below.refl (allocs w (sgObjs w.heap.size)).heap.size (allocs w (sgObjs w.heap.size)))
  clear h7 h1 hA hS h
  go_enter Tryd.func91, Tryd.ntmps91
  go_wp2_with fail
  go_loopw [6] (fun i wr => (i = .int .i64 0 ∨ i = .int .i64 1) ∧ Below (allocs w (sgObjs w.heap.size)).heap.size (allocs w (sgObjs w.heap.size)) wr) (fun i _ => 1 - (intOf i).toNat)
  case atStart => exact ⟨.inl rfl, HB0.out⟩
  case round =>
    obtain ⟨hi, hbel⟩ := hrel
    have HW := Lib.hid hbel
    obtain ⟨e7, g0⟩ := HF.out wr hbel
    clear hbel
    rcases hi with rfl | rfl
    · go_wp2_with fail
      go_at_call 23
      refine (r4take_no (HR.out.below HW.out) (.inr rfl) ⟨#[124, 124]⟩ (ne_nil _ _)).mono ?_
      rintro e w2 ⟨rfl, hb⟩
      have HW2 := Lib.hid (HW.out.trans (hb.mono HW.out.size))
      clear hb
      go_wp2_with fail
      go_roundw
      case rel => exact ⟨Or.inr (rfl), HW2.out⟩
      case measure => simp [intOf]
    · go_wp2_with fail
      go_ret
      exact ⟨rfl, HA.out.trans (HW.out.mono HA.out.size)⟩

set_option maxRecDepth 100000 in
set_option maxHeartbeats 8000000 in
theorem r4sign_2 {w : World} {r b cap : Nat} {T : ByteArray} {A : Nat} {d : Int} (h : Rdr w r b cap T A 1 d) : Calls Tryd.prog 91 #[.pointer (some ⟨r, 0, none⟩), .int .i64 2] w fun e w' => e = .returned (.string ⟨#[]⟩) ∧ Below w.heap.size w w' := by
  have hA : Below w.heap.size w (allocs w (sgObjs w.heap.size)) := allocs_below w _
  have hS := allocs_size w (sgObjs w.heap.size)
  have h7 := sg_at w 7 _ rfl
  have h2 := sg_at w 2 _ rfl
  have HF := Lib.hid (fun W (hb : Below (allocs w (sgObjs w.heap.size)).heap.size (allocs w (sgObjs w.heap.size)) W) =>
    (show W.cell? ⟨w.heap.size + 7, 2, none⟩ = some (.slice (some ⟨w.heap.size + 2, 0, none⟩) 1 1) ∧ W.cell? ⟨w.heap.size + 2, 0, none⟩ = some (.string ⟨#[38, 38]⟩) from
      ⟨by rw [cell_of_row _ _ _ _ _ _ ((hb.block _ (lt_of_blk h7)).trans h7)]; rfl, by have hk := (hb.block _ (lt_of_blk h2)).trans h2; rw [cell_of_row _ _ _ _ _ _ hk]; rfl⟩))
  have HR := Lib.hid (h.below hA)
  have HA := Lib.hid hA
  have HB0 := Lib.hid (Below.refl (allocs w (sgObjs w.heap.size)).heap.size (allocs w (sgObjs w.heap.size)))
  clear h7 h2 hA hS h
  go_enter Tryd.func91, Tryd.ntmps91
  go_wp2_with fail
  go_loopw [6] (fun i wr => (i = .int .i64 0 ∨ i = .int .i64 1) ∧ Below (allocs w (sgObjs w.heap.size)).heap.size (allocs w (sgObjs w.heap.size)) wr) (fun i _ => 1 - (intOf i).toNat)
  case atStart => exact ⟨.inl rfl, HB0.out⟩
  case round =>
    obtain ⟨hi, hbel⟩ := hrel
    have HW := Lib.hid hbel
    obtain ⟨e7, g0⟩ := HF.out wr hbel
    clear hbel
    rcases hi with rfl | rfl
    · go_wp2_with fail
      go_at_call 23
      refine (r4take_no (HR.out.below HW.out) (.inr rfl) ⟨#[38, 38]⟩ (ne_nil _ _)).mono ?_
      rintro e w2 ⟨rfl, hb⟩
      have HW2 := Lib.hid (HW.out.trans (hb.mono HW.out.size))
      clear hb
      go_wp2_with fail
      go_roundw
      case rel => exact ⟨Or.inr (rfl), HW2.out⟩
      case measure => simp [intOf]
    · go_wp2_with fail
      go_ret
      exact ⟨rfl, HA.out.trans (HW.out.mono HA.out.size)⟩

set_option maxRecDepth 100000 in
set_option maxHeartbeats 8000000 in
theorem r4sign_3 {w : World} {r b cap : Nat} {T : ByteArray} {A : Nat} {d : Int} (h : Rdr w r b cap T A 1 d) : Calls Tryd.prog 91 #[.pointer (some ⟨r, 0, none⟩), .int .i64 3] w fun e w' => e = .returned (.string ⟨#[]⟩) ∧ Below w.heap.size w w' := by
  have hA : Below w.heap.size w (allocs w (sgObjs w.heap.size)) := allocs_below w _
  have hS := allocs_size w (sgObjs w.heap.size)
  have h7 := sg_at w 7 _ rfl
  have h3 := sg_at w 3 _ rfl
  have HF := Lib.hid (fun W (hb : Below (allocs w (sgObjs w.heap.size)).heap.size (allocs w (sgObjs w.heap.size)) W) =>
    (show W.cell? ⟨w.heap.size + 7, 3, none⟩ = some (.slice (some ⟨w.heap.size + 3, 0, none⟩) 4 4) ∧ W.cell? ⟨w.heap.size + 3, 0, none⟩ = some (.string ⟨#[61]⟩) ∧ W.cell? ⟨w.heap.size + 3, 1, none⟩ = some (.string ⟨#[60, 62]⟩) ∧ W.cell? ⟨w.heap.size + 3, 2, none⟩ = some (.string ⟨#[60, 61]⟩) ∧ W.cell? ⟨w.heap.size + 3, 3, none⟩ = some (.string ⟨#[60]⟩) from
      ⟨by rw [cell_of_row _ _ _ _ _ _ ((hb.block _ (lt_of_blk h7)).trans h7)]; rfl, by have hk := (hb.block _ (lt_of_blk h3)).trans h3; rw [cell_of_row _ _ _ _ _ _ hk]; rfl, by have hk := (hb.block _ (lt_of_blk h3)).trans h3; rw [cell_of_row _ _ _ _ _ _ hk]; rfl, by have hk := (hb.block _ (lt_of_blk h3)).trans h3; rw [cell_of_row _ _ _ _ _ _ hk]; rfl, by have hk := (hb.block _ (lt_of_blk h3)).trans h3; rw [cell_of_row _ _ _ _ _ _ hk]; rfl⟩))
  have HR := Lib.hid (h.below hA)
  have HA := Lib.hid hA
  have HB0 := Lib.hid (Below.refl (allocs w (sgObjs w.heap.size)).heap.size (allocs w (sgObjs w.heap.size)))
  clear h7 h3 hA hS h
  go_enter Tryd.func91, Tryd.ntmps91
  go_wp2_with fail
  go_loopw [6] (fun i wr => (i = .int .i64 0 ∨ i = .int .i64 1 ∨ i = .int .i64 2 ∨ i = .int .i64 3 ∨ i = .int .i64 4) ∧ Below (allocs w (sgObjs w.heap.size)).heap.size (allocs w (sgObjs w.heap.size)) wr) (fun i _ => 4 - (intOf i).toNat)
  case atStart => exact ⟨.inl rfl, HB0.out⟩
  case round =>
    obtain ⟨hi, hbel⟩ := hrel
    have HW := Lib.hid hbel
    obtain ⟨e7, g0, g1, g2, g3⟩ := HF.out wr hbel
    clear hbel
    rcases hi with rfl | rfl | rfl | rfl | rfl
    · go_wp2_with fail
      go_at_call 23
      refine (r4take_no (HR.out.below HW.out) (.inr rfl) ⟨#[61]⟩ (ne_nil _ _)).mono ?_
      rintro e w2 ⟨rfl, hb⟩
      have HW2 := Lib.hid (HW.out.trans (hb.mono HW.out.size))
      clear hb
      go_wp2_with fail
      go_roundw
      case rel => exact ⟨Or.inr (Or.inl rfl), HW2.out⟩
      case measure => simp [intOf]
    · go_wp2_with fail
      go_at_call 23
      refine (r4take_no (HR.out.below HW.out) (.inr rfl) ⟨#[60, 62]⟩ (ne_nil _ _)).mono ?_
      rintro e w2 ⟨rfl, hb⟩
      have HW2 := Lib.hid (HW.out.trans (hb.mono HW.out.size))
      clear hb
      go_wp2_with fail
      go_roundw
      case rel => exact ⟨Or.inr (Or.inr (Or.inl rfl)), HW2.out⟩
      case measure => simp [intOf]
    · go_wp2_with fail
      go_at_call 23
      refine (r4take_no (HR.out.below HW.out) (.inr rfl) ⟨#[60, 61]⟩ (ne_nil _ _)).mono ?_
      rintro e w2 ⟨rfl, hb⟩
      have HW2 := Lib.hid (HW.out.trans (hb.mono HW.out.size))
      clear hb
      go_wp2_with fail
      go_roundw
      case rel => exact ⟨Or.inr (Or.inr (Or.inr (Or.inl rfl))), HW2.out⟩
      case measure => simp [intOf]
    · go_wp2_with fail
      go_at_call 23
      refine (r4take_no (HR.out.below HW.out) (.inr rfl) ⟨#[60]⟩ (ne_nil _ _)).mono ?_
      rintro e w2 ⟨rfl, hb⟩
      have HW2 := Lib.hid (HW.out.trans (hb.mono HW.out.size))
      clear hb
      go_wp2_with fail
      go_roundw
      case rel => exact ⟨Or.inr (Or.inr (Or.inr (Or.inr (rfl)))), HW2.out⟩
      case measure => simp [intOf]
    · go_wp2_with fail
      go_ret
      exact ⟨rfl, HA.out.trans (HW.out.mono HA.out.size)⟩

set_option maxRecDepth 100000 in
set_option maxHeartbeats 8000000 in
theorem r4sign_4 {w : World} {r b cap : Nat} {T : ByteArray} {A : Nat} {d : Int} (h : Rdr w r b cap T A 1 d) : Calls Tryd.prog 91 #[.pointer (some ⟨r, 0, none⟩), .int .i64 4] w fun e w' => e = .returned (.string ⟨#[]⟩) ∧ Below w.heap.size w w' := by
  have hA : Below w.heap.size w (allocs w (sgObjs w.heap.size)) := allocs_below w _
  have hS := allocs_size w (sgObjs w.heap.size)
  have h7 := sg_at w 7 _ rfl
  have h4 := sg_at w 4 _ rfl
  have HF := Lib.hid (fun W (hb : Below (allocs w (sgObjs w.heap.size)).heap.size (allocs w (sgObjs w.heap.size)) W) =>
    (show W.cell? ⟨w.heap.size + 7, 4, none⟩ = some (.slice (some ⟨w.heap.size + 4, 0, none⟩) 2 2) ∧ W.cell? ⟨w.heap.size + 4, 0, none⟩ = some (.string ⟨#[58, 58]⟩) ∧ W.cell? ⟨w.heap.size + 4, 1, none⟩ = some (.string ⟨#[94]⟩) from
      ⟨by rw [cell_of_row _ _ _ _ _ _ ((hb.block _ (lt_of_blk h7)).trans h7)]; rfl, by have hk := (hb.block _ (lt_of_blk h4)).trans h4; rw [cell_of_row _ _ _ _ _ _ hk]; rfl, by have hk := (hb.block _ (lt_of_blk h4)).trans h4; rw [cell_of_row _ _ _ _ _ _ hk]; rfl⟩))
  have HR := Lib.hid (h.below hA)
  have HA := Lib.hid hA
  have HB0 := Lib.hid (Below.refl (allocs w (sgObjs w.heap.size)).heap.size (allocs w (sgObjs w.heap.size)))
  clear h7 h4 hA hS h
  go_enter Tryd.func91, Tryd.ntmps91
  go_wp2_with fail
  go_loopw [6] (fun i wr => (i = .int .i64 0 ∨ i = .int .i64 1 ∨ i = .int .i64 2) ∧ Below (allocs w (sgObjs w.heap.size)).heap.size (allocs w (sgObjs w.heap.size)) wr) (fun i _ => 2 - (intOf i).toNat)
  case atStart => exact ⟨.inl rfl, HB0.out⟩
  case round =>
    obtain ⟨hi, hbel⟩ := hrel
    have HW := Lib.hid hbel
    obtain ⟨e7, g0, g1⟩ := HF.out wr hbel
    clear hbel
    rcases hi with rfl | rfl | rfl
    · go_wp2_with fail
      go_at_call 23
      refine (r4take_no (HR.out.below HW.out) (.inr rfl) ⟨#[58, 58]⟩ (ne_nil _ _)).mono ?_
      rintro e w2 ⟨rfl, hb⟩
      have HW2 := Lib.hid (HW.out.trans (hb.mono HW.out.size))
      clear hb
      go_wp2_with fail
      go_roundw
      case rel => exact ⟨Or.inr (Or.inl rfl), HW2.out⟩
      case measure => simp [intOf]
    · go_wp2_with fail
      go_at_call 23
      refine (r4take_no (HR.out.below HW.out) (.inr rfl) ⟨#[94]⟩ (ne_nil _ _)).mono ?_
      rintro e w2 ⟨rfl, hb⟩
      have HW2 := Lib.hid (HW.out.trans (hb.mono HW.out.size))
      clear hb
      go_wp2_with fail
      go_roundw
      case rel => exact ⟨Or.inr (Or.inr (rfl)), HW2.out⟩
      case measure => simp [intOf]
    · go_wp2_with fail
      go_ret
      exact ⟨rfl, HA.out.trans (HW.out.mono HA.out.size)⟩

set_option maxRecDepth 100000 in
set_option maxHeartbeats 8000000 in
theorem r4sign_5 {w : World} {r b cap : Nat} {T : ByteArray} {A : Nat} {d : Int} (h : Rdr w r b cap T A 1 d) : Calls Tryd.prog 91 #[.pointer (some ⟨r, 0, none⟩), .int .i64 5] w fun e w' => e = .returned (.string ⟨#[]⟩) ∧ Below w.heap.size w w' := by
  have hA : Below w.heap.size w (allocs w (sgObjs w.heap.size)) := allocs_below w _
  have hS := allocs_size w (sgObjs w.heap.size)
  have h7 := sg_at w 7 _ rfl
  have h5 := sg_at w 5 _ rfl
  have HF := Lib.hid (fun W (hb : Below (allocs w (sgObjs w.heap.size)).heap.size (allocs w (sgObjs w.heap.size)) W) =>
    (show W.cell? ⟨w.heap.size + 7, 5, none⟩ = some (.slice (some ⟨w.heap.size + 5, 0, none⟩) 2 2) ∧ W.cell? ⟨w.heap.size + 5, 0, none⟩ = some (.string ⟨#[43]⟩) ∧ W.cell? ⟨w.heap.size + 5, 1, none⟩ = some (.string ⟨#[45]⟩) from
      ⟨by rw [cell_of_row _ _ _ _ _ _ ((hb.block _ (lt_of_blk h7)).trans h7)]; rfl, by have hk := (hb.block _ (lt_of_blk h5)).trans h5; rw [cell_of_row _ _ _ _ _ _ hk]; rfl, by have hk := (hb.block _ (lt_of_blk h5)).trans h5; rw [cell_of_row _ _ _ _ _ _ hk]; rfl⟩))
  have HR := Lib.hid (h.below hA)
  have HA := Lib.hid hA
  have HB0 := Lib.hid (Below.refl (allocs w (sgObjs w.heap.size)).heap.size (allocs w (sgObjs w.heap.size)))
  clear h7 h5 hA hS h
  go_enter Tryd.func91, Tryd.ntmps91
  go_wp2_with fail
  go_loopw [6] (fun i wr => (i = .int .i64 0 ∨ i = .int .i64 1 ∨ i = .int .i64 2) ∧ Below (allocs w (sgObjs w.heap.size)).heap.size (allocs w (sgObjs w.heap.size)) wr) (fun i _ => 2 - (intOf i).toNat)
  case atStart => exact ⟨.inl rfl, HB0.out⟩
  case round =>
    obtain ⟨hi, hbel⟩ := hrel
    have HW := Lib.hid hbel
    obtain ⟨e7, g0, g1⟩ := HF.out wr hbel
    clear hbel
    rcases hi with rfl | rfl | rfl
    · go_wp2_with fail
      go_at_call 23
      refine (r4take_no (HR.out.below HW.out) (.inr rfl) ⟨#[43]⟩ (ne_nil _ _)).mono ?_
      rintro e w2 ⟨rfl, hb⟩
      have HW2 := Lib.hid (HW.out.trans (hb.mono HW.out.size))
      clear hb
      go_wp2_with fail
      go_roundw
      case rel => exact ⟨Or.inr (Or.inl rfl), HW2.out⟩
      case measure => simp [intOf]
    · go_wp2_with fail
      go_at_call 23
      refine (r4take_no (HR.out.below HW.out) (.inr rfl) ⟨#[45]⟩ (ne_nil _ _)).mono ?_
      rintro e w2 ⟨rfl, hb⟩
      have HW2 := Lib.hid (HW.out.trans (hb.mono HW.out.size))
      clear hb
      go_wp2_with fail
      go_roundw
      case rel => exact ⟨Or.inr (Or.inr (rfl)), HW2.out⟩
      case measure => simp [intOf]
    · go_wp2_with fail
      go_ret
      exact ⟨rfl, HA.out.trans (HW.out.mono HA.out.size)⟩

set_option maxRecDepth 100000 in
set_option maxHeartbeats 8000000 in
theorem r4sign_6 {w : World} {r b cap : Nat} {T : ByteArray} {A : Nat} {d : Int} (h : Rdr w r b cap T A 1 d) : Calls Tryd.prog 91 #[.pointer (some ⟨r, 0, none⟩), .int .i64 6] w fun e w' => e = .returned (.string ⟨#[]⟩) ∧ Below w.heap.size w w' := by
  have hA : Below w.heap.size w (allocs w (sgObjs w.heap.size)) := allocs_below w _
  have hS := allocs_size w (sgObjs w.heap.size)
  have h7 := sg_at w 7 _ rfl
  have h6 := sg_at w 6 _ rfl
  have HF := Lib.hid (fun W (hb : Below (allocs w (sgObjs w.heap.size)).heap.size (allocs w (sgObjs w.heap.size)) W) =>
    (show W.cell? ⟨w.heap.size + 7, 6, none⟩ = some (.slice (some ⟨w.heap.size + 6, 0, none⟩) 3 3) ∧ W.cell? ⟨w.heap.size + 6, 0, none⟩ = some (.string ⟨#[42]⟩) ∧ W.cell? ⟨w.heap.size + 6, 1, none⟩ = some (.string ⟨#[47]⟩) ∧ W.cell? ⟨w.heap.size + 6, 2, none⟩ = some (.string ⟨#[109, 111, 100]⟩) from
      ⟨by rw [cell_of_row _ _ _ _ _ _ ((hb.block _ (lt_of_blk h7)).trans h7)]; rfl, by have hk := (hb.block _ (lt_of_blk h6)).trans h6; rw [cell_of_row _ _ _ _ _ _ hk]; rfl, by have hk := (hb.block _ (lt_of_blk h6)).trans h6; rw [cell_of_row _ _ _ _ _ _ hk]; rfl, by have hk := (hb.block _ (lt_of_blk h6)).trans h6; rw [cell_of_row _ _ _ _ _ _ hk]; rfl⟩))
  have HR := Lib.hid (h.below hA)
  have HA := Lib.hid hA
  have HB0 := Lib.hid (Below.refl (allocs w (sgObjs w.heap.size)).heap.size (allocs w (sgObjs w.heap.size)))
  clear h7 h6 hA hS h
  go_enter Tryd.func91, Tryd.ntmps91
  go_wp2_with fail
  go_loopw [6] (fun i wr => (i = .int .i64 0 ∨ i = .int .i64 1 ∨ i = .int .i64 2 ∨ i = .int .i64 3) ∧ Below (allocs w (sgObjs w.heap.size)).heap.size (allocs w (sgObjs w.heap.size)) wr) (fun i _ => 3 - (intOf i).toNat)
  case atStart => exact ⟨.inl rfl, HB0.out⟩
  case round =>
    obtain ⟨hi, hbel⟩ := hrel
    have HW := Lib.hid hbel
    obtain ⟨e7, g0, g1, g2⟩ := HF.out wr hbel
    clear hbel
    rcases hi with rfl | rfl | rfl | rfl
    · go_wp2_with fail
      go_at_call 23
      refine (r4take_no (HR.out.below HW.out) (.inr rfl) ⟨#[42]⟩ (ne_nil _ _)).mono ?_
      rintro e w2 ⟨rfl, hb⟩
      have HW2 := Lib.hid (HW.out.trans (hb.mono HW.out.size))
      clear hb
      go_wp2_with fail
      go_roundw
      case rel => exact ⟨Or.inr (Or.inl rfl), HW2.out⟩
      case measure => simp [intOf]
    · go_wp2_with fail
      go_at_call 23
      refine (r4take_no (HR.out.below HW.out) (.inr rfl) ⟨#[47]⟩ (ne_nil _ _)).mono ?_
      rintro e w2 ⟨rfl, hb⟩
      have HW2 := Lib.hid (HW.out.trans (hb.mono HW.out.size))
      clear hb
      go_wp2_with fail
      go_roundw
      case rel => exact ⟨Or.inr (Or.inr (Or.inl rfl)), HW2.out⟩
      case measure => simp [intOf]
    · go_wp2_with fail
      go_at_call 23
      refine (r4take_no (HR.out.below HW.out) (.inr rfl) ⟨#[109, 111, 100]⟩ (ne_nil _ _)).mono ?_
      rintro e w2 ⟨rfl, hb⟩
      have HW2 := Lib.hid (HW.out.trans (hb.mono HW.out.size))
      clear hb
      go_wp2_with fail
      go_roundw
      case rel => exact ⟨Or.inr (Or.inr (Or.inr (rfl))), HW2.out⟩
      case measure => simp [intOf]
    · go_wp2_with fail
      go_ret
      exact ⟨rfl, HA.out.trans (HW.out.mono HA.out.size)⟩
end Go.Proofs.YtiimofdbconlhaaDoor
