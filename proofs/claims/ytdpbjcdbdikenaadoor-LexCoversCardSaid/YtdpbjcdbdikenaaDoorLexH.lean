/- Numbers: the library's ParseUint, at digits and 62 bits. -/
import Derived.Test.YtdpbjcdbdikenaaDoorLexG
import Derived.Lib.Walk
import Derived.Lib.ConvBytes
import Derived.Lib.BufferWrite
import Derived.Lib.UnsafeStr
import Derived.Lib.IfaceEq
import Derived.Laws.MakeOwn
import Derived.Laws.Closers25
import Derived.Laws.Closers25b
import Derived.BigCall
import Derived.BigGuard
import Derived.Deep.RegionWith
namespace Go.Proofs.YtdpbjcdbdikenaaDoor
open Go.RowKit LexM

theorem u8info' : (Tryd.prog.info? 5).map (fun i => (i.zero, i.size, i.bytes)) = some (some (.int .u8 0), 1, 1) := by kernel_rfl

set_option maxHeartbeats 4000000 in
set_option maxRecDepth 100000 in
theorem clone_any (s : ByteArray) (w : World) (hlim : s.size ≤ 281474976710656) :
    Calls Tryd.prog 40 #[.string s] w fun e w' => e = .returned (.string s) ∧ Below w.heap.size w w' := by
  by_cases h0 : s.size = 0
  · have hs : s = ⟨#[]⟩ := by
      apply ByteArray.ext
      exact Array.eq_empty_of_size_eq_zero h0
    subst hs
    go_enter Tryd.func40, Tryd.ntmps40
    go_wp2
    go_ret
    exact ⟨rfl, Below.refl _ _⟩
  · obtain ⟨i0, hi, hz0, hz1, hz2⟩ := info_parts u8info'
    have hinfo : (Tryd.prog.info? 5).map (·.size) = some 1 := by rw [hi]; simp [hz1]
    have hco : Tryd.prog.cellsOf 5 = 1 := by simp [Program.cellsOf, hi, hz1]
    obtain ⟨M, hM⟩ : ∃ M, M = madeCells (Value.int .u8 0).cells (((s.size : Nat) : Int).toNat * i0.size) := ⟨_, rfl⟩
    have hMs : M.size = s.size := by rw [hM, size_madeCells, hz1]; simp
    have hmk : ∀ W : World, (Instr.makeSlice 30 (.int .i64 (s.size : Int)) (.int .i64 (s.size : Int))).run Tryd.prog W = .ok (.slice (some ⟨W.heap.size, 0, none⟩) s.size s.size) (W.alloc (.cells M 5)) := fun W => by
      have h := run_make (P := Tryd.prog) W 30 5 i0 (.int .u8 0) Tryd.underlying30 hi hz0 .i64 .i64 (s.size : Int) (s.size : Int) (by omega) (by omega) (by rw [hz2]; omega) (by omega)
      rw [← hM] at h
      simpa using h
    clear hM
    have hcp := Lib.run_copy_row_string (P := Tryd.prog) (w.alloc (.cells M 5)) 30 9 3 5 w.heap.size 0 s.size s.size s M 5 Tryd.underlying30 hinfo (heap_alloc_new w _) (Nat.le_refl _) (by omega)
    obtain ⟨Y, hY⟩ : ∃ Y, Y = (M.toList.take 0 ++ Lib.byteCells s.data.toList ++ M.toList.drop (0 + s.size)).toArray := ⟨_, rfl⟩
    rw [← hY] at hcp
    have hYl : Y.toList = Lib.byteCells s.data.toList := by
      rw [hY, List.toList_toArray, List.take_zero, List.nil_append, List.drop_of_length_le (by rw [Array.length_toList]; omega), List.append_nil]
    have hYs : Y.size = s.size := by rw [← Array.length_toList, hYl, Lib.byteCells_length, ← Lib.size_eq]
    have hgY : ((w.alloc (.cells M 5)).setRow w.heap.size Y).heap[w.heap.size]? = some (.cells Y 5 (0, 0)) := setRow_heap _ _ M _ 5 (0, 0) (heap_alloc_new w _)
    have hne : s.data.toList ≠ [] := fun e => h0 (by rw [Lib.size_eq, e]; rfl)
    have hUS := Lib.run_unsafeString_row (P := Tryd.prog) ((w.alloc (.cells M 5)).setRow w.heap.size Y) 65 3 9 5 Tryd.underlying65 hco w.heap.size Y.size (by unfold World.shape?; rw [hgY]) s.data.toList hne (by rw [← Lib.size_eq]; omega) (by rw [← Lib.size_eq]; omega)
      (fun j x hx => Lib.cells_of_row hgY Y.size j _ (by rw [List.take_of_length_le (by rw [Array.length_toList]; exact Nat.le_refl _), hYl]; simp [Lib.byteCells, hx]))
    rw [← Lib.size_eq] at hUS
    clear hY
    go_enter Tryd.func40, Tryd.ntmps40
    go_wp2
    go_ret
    have hb1 : Below w.heap.size w (w.alloc (.cells M 5)) := (Below.refl _ w).alloc (Nat.le_refl _) _
    have hb2 : Below w.heap.size (w.alloc (.cells M 5)) ((w.alloc (.cells M 5)).setRow w.heap.size Y) := ⟨rfl, rfl, rfl, by simp, fun k hk => setRow_other _ _ _ _ (by omega)⟩
    exact ⟨rfl, Lib.below_freeze (hb1.trans hb2) (p := ⟨w.heap.size, 0, none⟩) (Nat.le_refl _) _⟩

set_option maxHeartbeats 6400000 in
set_option maxRecDepth 100000 in
theorem rangeError_any (fn s : ByteArray) (te : TypeId) (pe : Value) (w : World) (hlim : s.size ≤ 281474976710656) (hv : w.cell? ⟨3, 0, none⟩ = some (.iface te pe)) :
    Calls Tryd.prog 37 #[.string fn, .string s] w fun e w' => (∃ N, e = .returned (.pointer (some ⟨N, 0, none⟩))) ∧ Below w.heap.size w w' := by
  have hG : 3 < w.heap.size := World.block_lt_of_cell? w _ hv
  have hvd : w.drew.cell? ⟨3, 0, none⟩ = some (.iface te pe) := hv
  go_enter Tryd.func37, Tryd.ntmps37
  go_wp2
  go_region_with (
      go_at_call 40
      refine (clone_any s _ hlim).mono ?_
      rintro e w2 ⟨rfl, hbel⟩
      have hv2 : w2.cell? ⟨3, 0, none⟩ = some (.iface te pe) := (hbel.cell (show (⟨3, 0, none⟩ : Addr).block < w.drew.heap.size from hG)).trans hvd)
  all_goals (
    go_wp2
    go_ret
    have hs2 : w.heap.size ≤ w2.heap.size := hbel.size
    exact ⟨⟨_, rfl⟩, ((Below.drew (Below.refl _ w)).trans hbel).alloc hs2 _⟩)

theorem scComp : (Tryd.prog.info? 55).map (·.comparable) = some true := by kernel_rfl

set_option maxHeartbeats 4000000 in
set_option maxRecDepth 100000 in
theorem toError_range (fn s : ByteArray) (base bits : Int) (te : TypeId) (pe : Value) (w : World) (hlim : s.size ≤ 281474976710656) (hv : w.cell? ⟨3, 0, none⟩ = some (.iface te pe)) :
    Calls Tryd.prog 33 #[.string fn, .string s, .int .i64 base, .int .i64 bits, .iface 55 (.int .i64 1)] w fun e w' => (∃ t v, e = .returned (.iface t v)) ∧ Below w.heap.size w w' := by
  have hq12 : ∀ W, (binOp .eql 48 (.iface 55 (.int .i64 1)) (.iface 55 (.int .i64 2))).run Tryd.prog W = .ok (.bool false) W := fun W => Lib.run_eql_iface_int W 1 2 Tryd.underlying48 scComp Tryd.underlying55
  have hq11 : ∀ W, (binOp .eql 48 (.iface 55 (.int .i64 1)) (.iface 55 (.int .i64 1))).run Tryd.prog W = .ok (.bool true) W := fun W => Lib.run_eql_iface_int W 1 1 Tryd.underlying48 scComp Tryd.underlying55
  go_enter Tryd.func33, Tryd.ntmps33
  go_wp2_with (go_at_call 37; refine (rangeError_any fn s te pe _ hlim hv).mono ?_; rintro e w2 ⟨⟨N, rfl⟩, h3⟩)
  go_ret
  exact ⟨⟨_, _, rfl⟩, h3⟩
theorem bytesBelow (w : World) (e : TypeId) (s : ByteArray) : Below w.heap.size w (Lib.bytesWorld w e s) :=
  ⟨rfl, rfl, rfl, by rw [Lib.bytesWorld_size]; omega, fun k hk => Lib.bytesWorld_at_old w e s k hk⟩

/-- Digits, some being read already; none: they are too many. -/
def pu (acc : Nat) : List UInt8 → Option Nat
  | [] => some acc
  | c :: r => if 1844674407370955162 ≤ acc then none else if 4611686018427387903 < acc * 10 + (c.toNat - 48) then none else pu (acc * 10 + (c.toNat - 48)) r

/-- What the library's ParseUint of 62 bits comes to, at digits. -/
def puVal : Option Nat → Value
  | some n => .tuple #[.int .u64 (n : Int), .nilIface]
  | none => .tuple #[.int .u64 4611686018427387903, .iface 55 (.int .i64 1)]

set_option maxHeartbeats 32000000 in
set_option maxRecDepth 100000 in
theorem iParse_any (t : ByteArray) (hne : t.size ≠ 0) (hmax : t.size ≤ 2000) (hdg : ∀ c ∈ bs t, isDg c = true) (w : World) :
    Calls Tryd.prog 32 #[.string t, .int .i64 10, .int .i64 62] w fun e w' => e = .returned (puVal (pu 0 (bs t))) ∧ Below w.heap.size w w' := by
  have hbel := Lib.hid (bytesBelow w 5 t)
  have hemp : t.toList.isEmpty = false := by
    rw [← decide_eq_emptyBytes]
    exact decide_eq_false (fun h => hne (by rw [h]; rfl))
  have hcv := Lib.run_convert_string_bytes (P := Tryd.prog) w 9 30 5 t (u := .string) Tryd.underlying9 Tryd.underlying30 Tryd.underlying5
  have hB : ∀ j, j < t.size → (Lib.bytesWorld w 5 t).cell? ⟨w.heap.size, j, none⟩ = some (.int .u8 (t.data.toList.getD j 0).toNat) := fun j hj => Lib.bytesWorld_cell w 5 t j hj
  obtain ⟨W1, hW1⟩ : ∃ W1, W1 = Lib.bytesWorld w 5 t := ⟨_, rfl⟩
  rw [← hW1] at hcv hB hbel
  clear hW1
  have HD := Lib.hid hdg
  clear hdg
  obtain ⟨l, hL⟩ : ∃ l, l = t.data.toList := ⟨_, rfl⟩
  have hLn : l.length = t.size := by rw [hL, Lib.size_eq]
  have HL : Hid (bs t = l) := hL.symm
  rw [← hL] at hB
  have HD2 : Hid (∀ c ∈ l, isDg c = true) := by intro c hc; rw [hL] at hc; exact HD.out c hc
  rw [show bs t = l from hL.symm]
  clear hL HD
  have hmv : IntKind.u64.wrap (IntKind.u64.wrap 4611686018427387904 - 1) = 4611686018427387903 := by
    rw [IntKind.wrap_u64, IntKind.wrap_u64]
    decide
  go_enter Tryd.func32, Tryd.ntmps32
  go_wp2
  go_loop [12, 13, 101] (fun vu vn vi => ∃ (k acc : Nat) (a : Int), vu = .bool false ∧ vn = .int .u64 a ∧ vi = .int .i64 k ∧ k ≤ t.size ∧ Hid (a = (acc : Int) ∧ acc ≤ 4611686018427387903 ∧ pu 0 l = pu acc (l.drop k)))
    (fun _ _ vi => t.size - (intOf vi).toNat)
  case atStart => exact ⟨0, 0, 0, rfl, rfl, rfl, by omega, rfl, by omega, rfl⟩
  case round =>
    obtain ⟨k, acc, a, rfl, rfl, rfl, hk, hh⟩ := hrel
    obtain ⟨ha, hacc, hdec⟩ := hh.out
    clear hh
    have a0 : 0 ≤ a := by omega
    have a1 : a ≤ 4611686018427387903 := by omega
    by_cases hkn : k < t.size
    · have hc := hB k hkn
      have hdrop : l.drop k = l[k]'(by omega) :: l.drop (k + 1) := List.drop_eq_getElem_cons (by omega)
      have hget : l.getD k 0 = l[k]'(by omega) := by simp [List.getD, List.getElem?_eq_getElem (show k < l.length by omega)]
      have hdig := HD2.out (l[k]'(by omega)) (List.getElem_mem _)
      rw [hdrop] at hdec
      rw [hget] at hc
      generalize l[k]'(by omega) = c at hc hdec hdig
      have hc256 : c.toNat < 256 := c.toNat_lt
      unfold isDg at hdig
      simp only [Bool.and_eq_true, decide_eq_true_eq] at hdig
      clear hB hdrop hget
      obtain ⟨hd0, hd1⟩ := hdig
      by_cases hcut : 1844674407370955162 ≤ acc
      · have hF : pu acc (c :: l.drop (k + 1)) = none := by simp [pu, hcut]
        have HF : Hid (pu 0 l = none) := by show _ = _; rw [hdec, hF]
        have icut : 1844674407370955162 ≤ a := by omega
        clear hcut hacc hF ha hdec
        go_wp2
        go_ret2
        exact ⟨by rw [HF.out]; rfl, hbel.out⟩
      · have icut : a < 1844674407370955162 := by omega
        by_cases hov : 18446744073709551616 ≤ acc * 10 + (c.toNat - 48)
        · have hF : pu acc (c :: l.drop (k + 1)) = none := by
            rw [pu, if_neg hcut, if_pos (by omega)]
          have HF : Hid (pu 0 l = none) := by show _ = _; rw [hdec, hF]
          have iov : 18446744073709551616 ≤ a * 10 + ((c.toNat : Int) - 48) := by omega
          have hwr : IntKind.u64.wrap (a * 10 + ((c.toNat : Int) - 48)) = a * 10 + ((c.toNat : Int) - 48) - 18446744073709551616 := by
            rw [IntKind.wrap_u64]
            omega
          clear hcut hacc hF hov ha hdec
          go_wp2
          go_ret2
          exact ⟨by rw [HF.out]; rfl, hbel.out⟩
        · by_cases hov2 : 4611686018427387903 < acc * 10 + (c.toNat - 48)
          · have hF : pu acc (c :: l.drop (k + 1)) = none := by
              rw [pu, if_neg hcut, if_pos (by omega)]
            have HF : Hid (pu 0 l = none) := by show _ = _; rw [hdec, hF]
            have iov : a * 10 + ((c.toNat : Int) - 48) < 18446744073709551616 := by omega
            have iov2 : 4611686018427387903 < a * 10 + ((c.toNat : Int) - 48) := by omega
            clear hcut hacc hF hov ha hdec hov2
            go_wp2
            go_ret2
            exact ⟨by rw [HF.out]; rfl, hbel.out⟩
          · have hF : pu acc (c :: l.drop (k + 1)) = pu (acc * 10 + (c.toNat - 48)) (l.drop (k + 1)) := by
              rw [pu, if_neg hcut, if_neg hov2]
            have HN : Hid (a * 10 + ((c.toNat : Int) - 48) = ((acc * 10 + (c.toNat - 48) : Nat) : Int) ∧ acc * 10 + (c.toNat - 48) ≤ 4611686018427387903 ∧ pu 0 l = pu (acc * 10 + (c.toNat - 48)) (l.drop (k + 1))) := Lib.hid ⟨by omega, by omega, hdec.trans hF⟩
            have iov : a * 10 + ((c.toNat : Int) - 48) ≤ 4611686018427387903 := by omega
            clear hcut hacc hF hov hdec ha hov2
            go_wp2
            refine ⟨⟨k + 1, acc * 10 + (c.toNat - 48), a * 10 + ((c.toNat : Int) - 48), rfl, (by first | rfl | (congr 1; omega)), (by first | rfl | (congr 1; omega)), by omega, HN⟩, by simp [intOf]; omega⟩
    · have hkk : k = t.size := by omega
      subst hkk
      have hF : pu acc (l.drop t.size) = some acc := by rw [List.drop_eq_nil_of_le (by omega)]; rfl
      have HF : Hid (pu 0 l = some acc) := by show _ = _; rw [hdec, hF]
      subst ha
      clear hacc hF a0 a1 hdec
      go_wp2
      go_ret2
      exact ⟨by rw [HF.out]; rfl, hbel.out⟩
end Go.Proofs.YtdpbjcdbdikenaaDoor
