/- packed: a text's bytes as words. -/
/- What stands where a word says: isObject, object, Text, Kind, Len. -/
import Derived.Test.YtkdhajiplonloaaHeaB
import Derived.Test.YtkdhajiplonloaaHeaL
import Derived.BigRegion
namespace Go.Proofs.Ytkdhajiplonloaa
open Go.RowKit HeaM

theorem madeW (n : Nat) (hn : n ≤ 1000000000) (W : World) : (Instr.makeSlice 29 (.int .i64 (n : Int)) (.int .i64 (n : Int))).run Try.prog W = .ok (.slice (some ⟨W.heap.size, 0, none⟩) n n) (W.alloc (.cells (Ws (List.replicate n 0)).toArray 37)) := by
  obtain ⟨i0, hi0, hz0, hz1, hz2⟩ := info_parts wordInfo
  have h := run_make (P := Try.prog) W 29 37 i0 _ Try.underlying29 hi0 hz0 .i64 .i64 (n : Int) (n : Int) (by omega) (by omega) (by rw [hz2]; omega) (by omega)
  rw [h]
  have e : madeCells (Value.int .u64 0).cells (n * i0.size) = (Ws (List.replicate n 0)).toArray := by
    apply Array.ext'
    rw [hz1, Nat.mul_one]
    show (madeCells #[Value.int .u64 0] n).toList = _
    rw [toList_madeCells_one]
    simp [Ws, Wv]
  simp only [Int.toNat_natCast, e]

theorem or_byte (x b k : Nat) (hx : x < 256 ^ (k % 8)) (hb : b < 256) :
    bits .or .u64 (x : Int) (IntKind.u64.wrap (IntKind.u64.wrap (b : Int) * 2 ^ (8 * (k % 8)))) = ((x + b * 256 ^ (k % 8) : Nat) : Int) := by
  have hk : k % 8 < 8 := Nat.mod_lt _ (by decide)
  generalize k % 8 = j at *
  have e1 : (2 : Nat) ^ (8 * j) = 256 ^ j := by rw [Nat.pow_mul]
  have hp : 256 ^ j ≤ 256 ^ 7 := Nat.pow_le_pow_right (by decide) (by omega)
  have hb' : b * 256 ^ j ≤ 255 * 256 ^ 7 := Nat.mul_le_mul (by omega) hp
  have e2 : IntKind.u64.wrap (IntKind.u64.wrap (b : Int) * 2 ^ (8 * j)) = ((b * 256 ^ j : Nat) : Int) := by
    rw [show (2 : Int) ^ (8 * j) = ((2 ^ (8 * j) : Nat) : Int) by rw [Int.natCast_pow]; rfl, e1]
    simp only [IntKind.wrap_u64]
    rw [show (b : Int) % 18446744073709551616 = (b : Int) by omega, ← Int.natCast_mul]
    omega
  rw [e2, u64_or_nat _ _ (by omega) (by omega)]
  have h := Nat.two_pow_add_eq_or_of_lt (i := 8 * j) (b := x) (by rw [e1]; exact hx) b
  rw [e1, Nat.mul_comm] at h
  rw [Nat.or_comm, ← h, Nat.add_comm]

set_option maxHeartbeats 4000000 in
set_option maxRecDepth 100000 in
theorem packed_t (s : ByteArray) (w : World) (hs : s.size ≤ 1000000) :
    Calls Try.prog 40 #[.string s] w fun e w' => ∃ v, e = .returned v ∧ OwnW w' w.heap.size v (pk s.data.toList) ∧ Below w.heap.size w w' := by
  have hl : s.data.toList.length = s.size := rfl
  obtain ⟨m, hm⟩ : ∃ m, m = nw s.size := ⟨_, rfl⟩
  have hm1 : m ≤ 1000000 := by rw [hm]; unfold nw; omega
  have eneed : ((need 3 s.size : Nat) : Int) - 1 = (m : Int) := by
    show ((1 + (s.size + 7) / 8 : Nat) : Int) - 1 = _
    rw [hm]; unfold nw; omega
  have hneed : need 3 s.size ≤ 2000000 := by show 1 + (s.size + 7) / 8 ≤ _; omega
  have EN := Lib.hid eneed
  have HM := Lib.hid hm
  have HL := Lib.hid hl
  have mk := madeW m (by omega)
  have MK := Lib.hid mk
  clear eneed hm hl mk
  have hs' : (s.size : Int) ≤ 1000000 := by omega
  go_enter Try.func40, Try.ntmps40
  go_wp2_with fail
  refine (need_text s.size _ (by omega)).mono ?_
  rintro e w' ⟨rfl, rfl⟩
  generalize need 3 s.size = N at *
  have h0 : (0 : Int) ≤ (N : Int) := by omega
  have h1 : (N : Int) ≤ 2000000 := by omega
  have eN : (N : Int) = (m : Int) + 1 := by have := EN.out; omega
  rw [eN]
  clear EN eN h0 h1 hneed
  have mk := MK.out
  go_wp2_with fail
  clear mk
  have start : (w.alloc (.cells (Ws (List.replicate m 0)).toArray 37)).ownsRow w.heap.size 37 1 (.slice (some ⟨w.heap.size, 0, none⟩) m m) m (Ws (pkTo s.data.toList 0)) := by
    have e := World.ownsRow_lit (base := w.heap.size) (e := 37) (size := 1) w (Ws (List.replicate m 0)).toArray m (Nat.le_refl _) (by unfold maxLen; omega) (by simp [Ws])
    rw [pkTo_zero, HL.out, ← HM.out]
    exact e
  go_loopw [12] (fun i wr => ∃ k : Nat, k ≤ s.size ∧ i = .int .i64 k ∧ wr.ownsRow w.heap.size 37 1 (.slice (some ⟨w.heap.size, 0, none⟩) m m) m (Ws (pkTo s.data.toList k)) ∧ Below w.heap.size w wr) (fun i _ => s.size - (intOf i).toNat)
  case atStart => exact ⟨0, Nat.zero_le _, rfl, start, (Below.refl _ _).alloc (Nat.le_refl _) _⟩
  case round =>
    obtain ⟨k, hk, rfl, hown, hb⟩ := hrel
    clear start
    by_cases hlt : k < s.size
    · have hkm : k / 8 < m := by rw [HM.out]; unfold nw; omega
      have hcell : wr.cell? ⟨w.heap.size, k / 8, none⟩ = some (.int .u64 (wd s.data.toList k (k / 8) : Int)) := by
        rw [hown.cellAt (k / 8) (by omega)]
        simp only [Ws, List.getElem?_map, pkTo_get s.data.toList k (k / 8) (by rw [HL.out, ← HM.out]; exact hkm)]
        rfl
      have hfree := hown.frozenAt (k / 8)
      have hlow := wd_low s.data.toList k (by rw [HL.out]; exact hk)
      have hst := hown.stored (k / 8) (.int .u64 ((wd s.data.toList k (k / 8) + (s.data.toList[k]'(by rw [HL.out]; exact hlt)).toNat * 256 ^ (k % 8) : Nat) : Int))
      have hwd := wd_lt s.data.toList k (k / 8)
      generalize hX : wd s.data.toList k (k / 8) = x at *
      have HX := Lib.hid hX
      clear hX
      have hx0 : (x : Int) ≤ 18446744073709551615 := by omega
      have hk0 : (k : Int) / 8 < (m : Int) := by omega
      have hk2 : (k : Int) / 8 ≥ 0 := by omega
      have hk1 : ((k : Int) / 8).toNat = k / 8 := by omega
      have hklt : (k : Int) < (s.size : Int) := by omega
      have hr0 : (0 : Int) ≤ 8 * ((k : Int) % 8) := by omega
      have hr1 : 8 * ((k : Int) % 8) ≤ 56 := by omega
      have ew : IntKind.i64.wrap (8 * ((k : Int) % 8)) = 8 * ((k : Int) % 8) := IntWalk.i64_in _ (by omega)
      have HST := Lib.hid hst
      have HLOW := Lib.hid hlow
      have HB := Lib.hid hb
      clear hst hlow hb hown
      go_wp2_with fail
      go_region
      rw [or_byte x _ k HLOW.out (by have := s[k].toNat_lt; omega)]
      go_wp2
      go_roundw
      case rel =>
        refine ⟨k + 1, by omega, by go_num, ?_, ?_⟩
        · rw [pkTo_succ s.data.toList k (by rw [HL.out]; exact hlt), HX.out]
          have h2 := HST.out.1
          rw [show (Ws (pkTo s.data.toList k)).set (k / 8) (.int .u64 ((x + (s.data.toList[k]'(by rw [HL.out]; exact hlt)).toNat * 256 ^ (k % 8) : Nat) : Int)) = Ws ((pkTo s.data.toList k).set (k / 8) (x + (s.data.toList[k]'(by rw [HL.out]; exact hlt)).toNat * 256 ^ (k % 8))) by
            unfold Ws; rw [List.map_set]; rfl] at h2
          exact ⟨h2.1, h2.2⟩
        · exact (HB.out.setCell (Nat.le_refl _) _).drew
      case measure => simp [intOf]; omega
    · obtain rfl : k = s.size := by omega
      have HO := Lib.hid hown
      have HB := Lib.hid hb
      clear hown hb
      go_wp2_with fail
      go_ret
      refine ⟨_, rfl, ?_, HB.out⟩
      have h := HO.out
      unfold OwnW pk
      rw [pkTo_length, HL.out, ← HM.out]
      exact h
end Go.Proofs.Ytkdhajiplonloaa
namespace Go.Proofs.Ytkdhajiplonloaa
open Go.RowKit HeaM

theorem need_any (k n N : Nat) (w : World) (hn : n ≤ 140737488355328) (hN : Hid (need k n = N)) :
    Calls Try.prog 37 #[.int .u8 (k : Int), .int .i64 (n : Int)] w fun e w' => e = .returned (.int .i64 (N : Int)) ∧ w' = w := by
  have h := hN.out
  subst h
  by_cases h3 : k = 3
  · subst h3
    exact (need_text n w hn).mono fun _ _ ⟨a, b⟩ => ⟨a, b.symm⟩
  · exact (need_parts k n w hn h3).mono fun _ _ ⟨a, b⟩ => ⟨a, b.symm⟩
theorem kind_k (x k : Nat) (w : World) (hx : x < 18446744073709551616) (hk : Hid (x % 256 = k)) :
    Calls Try.prog 42 #[.int .u64 (x : Int)] w fun e w' => e = .returned (.int .u8 (k : Int)) ∧ w' = w := by
  have h := hk.out
  subst h
  exact (kind_t x w hx).mono fun _ _ ⟨a, b⟩ => ⟨a, b.symm⟩
theorem size_k (x n : Nat) (w : World) (hx : x < 18446744073709551616) (hn : Hid (x / 256 = n)) :
    Calls Try.prog 43 #[.int .u64 (x : Int)] w fun e w' => e = .returned (.int .i64 (n : Int)) ∧ w' = w := by
  have h := hn.out
  subst h
  exact (size_t x w hx).mono fun _ _ ⟨a, b⟩ => ⟨a, b.symm⟩

/-- Does an object begin where x says? -/
def isObj (W : List Nat) (F : List Bool) (x : Nat) : Bool := decide (x % 2 = 0) && decide (x / 2 < W.length) && F.getD (x / 2) false

theorem isObj_no {W : List Nat} {F : List Bool} {x : Nat} (h : x % 2 = 1 ∨ W.length ≤ x / 2) : isObj W F x = false := by
  unfold isObj
  rcases h with h | h
  · have : ¬ x % 2 = 0 := by omega
    simp [this]
  · have : ¬ x / 2 < W.length := by omega
    simp [this]

set_option maxHeartbeats 1000000 in
theorem isobject_t (b base q c : Nat) (v1 v2 : Value) (W : List Nat) (F : List Bool) (x : Nat) (w : World) (h : HAt w b base q c v1 v2 W F) (hx : x < 18446744073709551616) (hF : F.length = W.length) (hW : W.length ≤ 1000000000) :
    Calls Try.prog 46 #[.pointer (some ⟨b, 0, none⟩), .int .u64 (x : Int)] w fun e w' => e = .returned (.bool (isObj W F x)) ∧ w = w' := by
  obtain ⟨c0, c1, c2, c3⟩ := h.cells
  obtain ⟨o1, k1, hv1, _⟩ := own_slice h.own1
  have H := Lib.hid h
  have hx' : (x : Int) ≤ 18446744073709551615 := by omega
  have hW' : (W.length : Int) ≤ 1000000000 := by omega
  have hN := isnum_t x
  have HN := Lib.hid hN
  clear hN
  by_cases ho : x % 2 = 1
  · have E := Lib.hid (isObj_no (F := F) (W := W) (.inl ho))
    have hb : (x % 2 == 1) = true := by simp [ho]
    clear h ho
    subst hv1
    go_enter Try.func46, Try.ntmps46
    go_wp2_with fail
    refine (HN.out _ hx).mono ?_
    rw [hb]
    rintro e w' ⟨rfl, rfl⟩
    go_wp2
    go_ret
    exact ⟨by rw [E.out]; rfl, rfl⟩
  · have hb : (x % 2 == 1) = false := by simp; omega
    by_cases hl : x / 2 < W.length
    · -- the mark
      obtain ⟨g, cap, hv2⟩ : ∃ g cap, v2 = .slice (some ⟨g, 0, none⟩) F.length cap := by
        rcases h.own2.2 with ⟨_, hn⟩ | ⟨g, cap, cur, e, _⟩
        · omega
        · exact ⟨g, cap, e⟩
      have hlF : x / 2 < F.length := by omega
      have own2 := h.own2
      rw [hv2] at own2
      have hm : w.cell? ⟨g, x / 2, none⟩ = some (.bool F[x / 2]) := by
        rw [own2.cellAt (x / 2) (by omega)]
        simp [Fs, hlF]
      have E : Hid (isObj W F x = F[x / 2]) := by
        show isObj W F x = F[x / 2]
        have h0 : x % 2 = 0 := by omega
        simp [isObj, h0, hl, hlF]
      have hl0 : (x : Int) / 2 < (W.length : Int) := by omega
      have hl1 : (x : Int) / 2 < (F.length : Int) := by omega
      have hl2 : 0 ≤ (x : Int) / 2 := by omega
      have hl3 : ((x : Int) / 2).toNat = x / 2 := by omega
      generalize F[x / 2] = B at *
      clear h ho own2
      subst hv1 hv2
      go_enter Try.func46, Try.ntmps46
      go_wp2_with fail
      refine (HN.out _ hx).mono ?_
      rw [hb]
      rintro e w' ⟨rfl, rfl⟩
      go_wp2
      go_ret
      exact ⟨by rw [E.out]; rfl, rfl⟩
    · have E := Lib.hid (isObj_no (F := F) (W := W) (x := x) (.inr (by omega)))
      have hl0 : ¬ (x : Int) / 2 < (W.length : Int) := by omega
      clear h ho
      subst hv1
      go_enter Try.func46, Try.ntmps46
      go_wp2_with fail
      refine (HN.out _ hx).mono ?_
      rw [hb]
      rintro e w' ⟨rfl, rfl⟩
      go_wp2
      go_ret
      exact ⟨by rw [E.out]; rfl, rfl⟩

/-- An object stands at i: its first word is X, of kind k, with n parts, or bytes; it takes N words. -/
structure ObjAt (W : List Nat) (F : List Bool) (i X k n N : Nat) : Prop where
  mark : F[i]? = some true
  get : W[i]? = some X
  lt : X < 18446744073709551616
  kind : X % 256 = k
  size : X / 256 = n
  need : need k n = N
  fits : i + N ≤ W.length
theorem ObjAt.isObj {W : List Nat} {F : List Bool} {i X k n N : Nat} (h : ObjAt W F i X k n N) : isObj W F (2 * i) = true := by
  have hi : i < W.length := (List.getElem?_eq_some_iff.1 h.get).1
  have e1 : 2 * i % 2 = 0 := by omega
  have e2 : 2 * i / 2 = i := by omega
  unfold Go.Proofs.Ytkdhajiplonloaa.isObj
  rw [e1, e2, List.getD_eq_getElem?_getD, h.mark]
  simp [hi]
theorem ObjAt.pos {W : List Nat} {F : List Bool} {i X k n N : Nat} (h : ObjAt W F i X k n N) : 1 ≤ N := by
  rw [← h.need]; unfold Go.Proofs.Ytkdhajiplonloaa.need; split <;> omega
theorem ObjAt.small {W : List Nat} {F : List Bool} {i X k n N : Nat} (h : ObjAt W F i X k n N) : n ≤ 8 * W.length := by
  have h1 := h.need
  have h2 := h.fits
  unfold Go.Proofs.Ytkdhajiplonloaa.need at h1
  split at h1 <;> omega

def ObjPost (w w' : World) (v1 : Value) (W : List Nat) (i N : Nat) (e : Ending) : Prop :=
  ∃ g cap nq, v1 = .slice (some ⟨g, 0, none⟩) W.length cap ∧ W.length ≤ cap ∧ cap ≤ maxLen ∧ e = .returned (.slice (some ⟨g, i, none⟩) N (cap - i)) ∧ w' = w.drewN nq

set_option maxHeartbeats 2000000 in
set_option maxRecDepth 100000 in
theorem object_t (b base q c : Nat) (v1 v2 : Value) (W : List Nat) (F : List Bool) (i X k n N : Nat) (w : World) (h : HAt w b base q c v1 v2 W F) (hO : ObjAt W F i X k n N) (hF : F.length = W.length) (hW : W.length ≤ 1000000000) :
    Calls Try.prog 41 #[.pointer (some ⟨b, 0, none⟩), .int .u64 ((2 * i : Nat) : Int)] w fun e w' => ObjPost w w' v1 W i N e := by
  have hi : i < W.length := (List.getElem?_eq_some_iff.1 hO.get).1
  have hsm := hO.small
  have hpos := hO.pos
  have hfit := hO.fits
  have hXlt := hO.lt
  have HO := Lib.hid (isobject_t b base q c v1 v2 W F (2 * i) w h (by omega) hF hW)
  have HB := Lib.hid hO.isObj
  have HK := Lib.hid hO.kind
  have HS := Lib.hid hO.size
  have HN := Lib.hid hO.need
  obtain ⟨g, cap, hv1, hcap, hmax⟩ : ∃ g cap, v1 = .slice (some ⟨g, 0, none⟩) W.length cap ∧ W.length ≤ cap ∧ cap ≤ maxLen := by
    rcases h.own1.2 with ⟨_, hn⟩ | ⟨g, cap, cur, e, _, _, hc, hm, _⟩
    · omega
    · exact ⟨g, cap, e, hc, hm⟩
  have own1 := h.own1
  rw [hv1] at own1
  have hm : w.cell? ⟨g, i, none⟩ = some (.int .u64 (X : Int)) := by
    rw [own1.cellAt i (by omega)]
    simp [Ws, hO.get, Wv]
  obtain ⟨c0, c1, c2, c3⟩ := h.cells
  clear h hO own1
  have hmax' := hmax
  unfold maxLen at hmax'
  have hX' : (X : Int) ≤ 18446744073709551615 := by omega
  have hi0 : (i : Int) < (W.length : Int) := by omega
  have hdiv : (2 * (i : Int)) / 2 = (i : Int) := by omega
  have hdivn : 2 * i / 2 = i := by omega
  have hic : i ≤ cap := by omega
  have hcap0 : (W.length : Int) ≤ (cap : Int) := by omega
  have hNc : N ≤ cap - i := by omega
  have hNc0 : (N : Int) ≤ (cap : Int) - (i : Int) := by omega
  have hNl : N ≤ W.length - i := by omega
  have hne : ¬ cap = i := by omega
  have fin := fun (nq : Nat) => (show ObjPost w (w.drewN nq) v1 W i N (.returned (.slice (some ⟨g, i, none⟩) N (cap - i))) from ⟨g, cap, nq, hv1, hcap, hmax, rfl, rfl⟩)
  have FIN := Lib.hid fin
  clear fin
  subst hv1
  go_enter Try.func41, Try.ntmps41
  go_wp2_with fail
  refine HO.out.mono ?_
  rw [HB.out]
  rintro e w' ⟨rfl, rfl⟩
  go_wp2_with fail
  go_quiet (first
    | (go_at_call 42; exact Calls.quiet_of_same (kind_k X k _ hXlt HK))
    | (go_at_call 43; exact Calls.quiet_of_same (size_k X n _ hXlt HS))
    | (go_at_call 37; exact Calls.quiet_of_same (need_any k n N _ (by omega) HN)))
  go_wp2
  go_ret
  exact FIN.out _
end Go.Proofs.Ytkdhajiplonloaa
