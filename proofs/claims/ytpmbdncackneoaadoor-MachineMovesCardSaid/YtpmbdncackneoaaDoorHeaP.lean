/- packed: a text's bytes as words. -/
import Derived.Test.YtpmbdncackneoaaDoorHeaM
import Derived.Test.YtpmbdncackneoaaDoorHeaL
import Derived.BigRegion
namespace Go.Proofs.YtpmbdncackneoaaDoor
open Go.RowKit HeaM

theorem madeW (n : Nat) (hn : n ≤ 1000000000) (W : World) : (Instr.makeSlice 52 (.int .i64 (n : Int)) (.int .i64 (n : Int))).run Tryd.prog W = .ok (.slice (some ⟨W.heap.size, 0, none⟩) n n) (W.alloc (.cells (Ws (List.replicate n 0)).toArray 31)) := by
  obtain ⟨i0, hi0, hz0, hz1, hz2⟩ := info_parts wordInfo
  have h := run_make (P := Tryd.prog) W 52 31 i0 _ Tryd.underlying52 hi0 hz0 .i64 .i64 (n : Int) (n : Int) (by omega) (by omega) (by rw [hz2]; omega) (by omega)
  rw [h]
  have e : madeCells (Value.int .u64 0).cells (n * i0.size) = (Ws (List.replicate n 0)).toArray := by
    apply Array.ext'
    rw [hz1, Nat.mul_one]
    show (madeCells #[Value.int .u64 0] n).toList = _
    rw [toList_madeCells_one]
    simp [Ws, Wv]
  simp only [Int.toNat_natCast, e]

theorem or_byte (x b k : Nat) (hx : x < 256 ^ (k % 8)) (hb : b < 256) :
    bits .or .u64 (x : Int) (IntKind.u64.wrap (IntKind.u64.wrap (b : Int) * 2 ^ (8 * (k % 8)))) = ((x + b * 256 ^ (k % 8) : Nat) : Int) := by
  have hk : k % 8 < 8 := Nat.mod_lt _ (by decide)
  generalize k % 8 = j at *
  have e1 : (2 : Nat) ^ (8 * j) = 256 ^ j := by rw [Nat.pow_mul]
  have hp : 256 ^ j ≤ 256 ^ 7 := Nat.pow_le_pow_right (by decide) (by omega)
  have hb' : b * 256 ^ j ≤ 255 * 256 ^ 7 := Nat.mul_le_mul (by omega) hp
  have e2 : IntKind.u64.wrap (IntKind.u64.wrap (b : Int) * 2 ^ (8 * j)) = ((b * 256 ^ j : Nat) : Int) := by
    rw [show (2 : Int) ^ (8 * j) = ((2 ^ (8 * j) : Nat) : Int) by rw [Int.natCast_pow]; rfl, e1]
    simp only [IntKind.wrap_u64]
    rw [show (b : Int) % 18446744073709551616 = (b : Int) by omega, ← Int.natCast_mul]
    omega
  rw [e2, u64_or_nat _ _ (by omega) (by omega)]
  have h := Nat.two_pow_add_eq_or_of_lt (i := 8 * j) (b := x) (by rw [e1]; exact hx) b
  rw [e1, Nat.mul_comm] at h
  rw [Nat.or_comm, ← h, Nat.add_comm]

set_option maxHeartbeats 4000000 in
set_option maxRecDepth 100000 in
theorem packed_t (s : ByteArray) (w : World) (hs : s.size ≤ 1000000) :
    Calls Tryd.prog 68 #[.string s] w fun e w' => ∃ v, e = .returned v ∧ OwnW w' w.heap.size v (pk s.data.toList) ∧ Below w.heap.size w w' := by
  have hl : s.data.toList.length = s.size := rfl
  obtain ⟨m, hm⟩ : ∃ m, m = nw s.size := ⟨_, rfl⟩
  have hm1 : m ≤ 1000000 := by rw [hm]; unfold nw; omega
  have eneed : ((need 3 s.size : Nat) : Int) - 1 = (m : Int) := by
    show ((1 + (s.size + 7) / 8 : Nat) : Int) - 1 = _
    rw [hm]; unfold nw; omega
  have hneed : need 3 s.size ≤ 2000000 := by show 1 + (s.size + 7) / 8 ≤ _; omega
  have EN := Lib.hid eneed
  have HM := Lib.hid hm
  have HL := Lib.hid hl
  have mk := madeW m (by omega)
  have MK := Lib.hid mk
  clear eneed hm hl mk
  have hs' : (s.size : Int) ≤ 1000000 := by omega
  go_enter Tryd.func68, Tryd.ntmps68
  go_wp2_with fail
  refine (need_text s.size _ (by omega)).mono ?_
  rintro e w' ⟨rfl, rfl⟩
  generalize need 3 s.size = N at *
  have h0 : (0 : Int) ≤ (N : Int) := by omega
  have h1 : (N : Int) ≤ 2000000 := by omega
  have eN : (N : Int) = (m : Int) + 1 := by have := EN.out; omega
  rw [eN]
  clear EN eN h0 h1 hneed
  have mk := MK.out
  go_wp2_with fail
  clear mk
  have start : (w.alloc (.cells (Ws (List.replicate m 0)).toArray 31)).ownsRow w.heap.size 31 1 (.slice (some ⟨w.heap.size, 0, none⟩) m m) m (Ws (pkTo s.data.toList 0)) := by
    have e := World.ownsRow_lit (base := w.heap.size) (e := 31) (size := 1) w (Ws (List.replicate m 0)).toArray m (Nat.le_refl _) (by unfold maxLen; omega) (by simp [Ws])
    rw [pkTo_zero, HL.out, ← HM.out]
    exact e
  go_loopw [12] (fun i wr => ∃ k : Nat, k ≤ s.size ∧ i = .int .i64 k ∧ wr.ownsRow w.heap.size 31 1 (.slice (some ⟨w.heap.size, 0, none⟩) m m) m (Ws (pkTo s.data.toList k)) ∧ Below w.heap.size w wr) (fun i _ => s.size - (intOf i).toNat)
  case atStart => exact ⟨0, Nat.zero_le _, rfl, start, (Below.refl _ _).alloc (Nat.le_refl _) _⟩
  case round =>
    obtain ⟨k, hk, rfl, hown, hb⟩ := hrel
    clear start
    by_cases hlt : k < s.size
    · have hkm : k / 8 < m := by rw [HM.out]; unfold nw; omega
      have hcell : wr.cell? ⟨w.heap.size, k / 8, none⟩ = some (.int .u64 (wd s.data.toList k (k / 8) : Int)) := by
        rw [hown.cellAt (k / 8) (by omega)]
        simp only [Ws, List.getElem?_map, pkTo_get s.data.toList k (k / 8) (by rw [HL.out, ← HM.out]; exact hkm)]
        rfl
      have hfree := hown.frozenAt (k / 8)
      have hlow := wd_low s.data.toList k (by rw [HL.out]; exact hk)
      have hst := hown.stored (k / 8) (.int .u64 ((wd s.data.toList k (k / 8) + (s.data.toList[k]'(by rw [HL.out]; exact hlt)).toNat * 256 ^ (k % 8) : Nat) : Int))
      have hwd := wd_lt s.data.toList k (k / 8)
      generalize hX : wd s.data.toList k (k / 8) = x at *
      have HX := Lib.hid hX
      clear hX
      have hx0 : (x : Int) ≤ 18446744073709551615 := by omega
      have hk0 : (k : Int) / 8 < (m : Int) := by omega
      have hk2 : (k : Int) / 8 ≥ 0 := by omega
      have hk1 : ((k : Int) / 8).toNat = k / 8 := by omega
      have hklt : (k : Int) < (s.size : Int) := by omega
      have hr0 : (0 : Int) ≤ 8 * ((k : Int) % 8) := by omega
      have hr1 : 8 * ((k : Int) % 8) ≤ 56 := by omega
      have ew : IntKind.i64.wrap (8 * ((k : Int) % 8)) = 8 * ((k : Int) % 8) := IntWalk.i64_in _ (by omega)
      have HST := Lib.hid hst
      have HLOW := Lib.hid hlow
      have HB := Lib.hid hb
      clear hst hlow hb hown
      go_wp2_with fail
      go_region
      rw [or_byte x _ k HLOW.out (by have := s[k].toNat_lt; omega)]
      go_wp2
      go_roundw
      case rel =>
        refine ⟨k + 1, by omega, by go_num, ?_, ?_⟩
        · rw [pkTo_succ s.data.toList k (by rw [HL.out]; exact hlt), HX.out]
          have h2 := HST.out.1
          rw [show (Ws (pkTo s.data.toList k)).set (k / 8) (.int .u64 ((x + (s.data.toList[k]'(by rw [HL.out]; exact hlt)).toNat * 256 ^ (k % 8) : Nat) : Int)) = Ws ((pkTo s.data.toList k).set (k / 8) (x + (s.data.toList[k]'(by rw [HL.out]; exact hlt)).toNat * 256 ^ (k % 8))) by
            unfold Ws; rw [List.map_set]; rfl] at h2
          exact ⟨h2.1, h2.2⟩
        · exact (HB.out.setCell (Nat.le_refl _) _).drew
      case measure => simp [intOf]; omega
    · obtain rfl : k = s.size := by omega
      have HO := Lib.hid hown
      have HB := Lib.hid hb
      clear hown hb
      go_wp2_with fail
      go_ret
      refine ⟨_, rfl, ?_, HB.out⟩
      have h := HO.out
      unfold OwnW pk
      rw [pkTo_length, HL.out, ← HM.out]
      exact h
end Go.Proofs.YtpmbdncackneoaaDoor
