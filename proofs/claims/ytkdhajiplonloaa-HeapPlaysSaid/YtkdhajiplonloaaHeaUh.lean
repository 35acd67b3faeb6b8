/- The reference's At, at a text. -/
/- The reference's At, whole; its Right. -/
import Derived.Test.YtkdhajiplonloaaHeaUf
namespace Go.Proofs.Ytkdhajiplonloaa
open Go.RowKit HeaM

theorem txt_succ (W : List Nat) (i n t : Nat) (h : t < n) : (txt W i n).take (t + 1) = (txt W i n).take t ++ [UInt8.ofNat (W.getD (i + (1 + t / 8)) 0 / 256 ^ (t % 8))] := by
  have hl := txt_length W i n
  rw [List.take_succ_eq_append_getElem (by omega)]
  congr 2
  simp [txt]
/-- One byte, as a text. -/
theorem byteStr (w : World) (y : Nat) : (convert 33 9 (.slice (some ⟨w.heap.size, 0, none⟩) 1 1)).run Try.prog (w.alloc (.cells #[.int .u8 ((y : Int) % 256)] 5)) = .ok (.string ⟨[UInt8.ofNat y].toArray⟩) (w.alloc (.cells #[.int .u8 ((y : Int) % 256)] 5)) := by
  refine toStr (base := 0) ?_
  have e : (Value.int .u8 ((y : Int) % 256)) = B (UInt8.ofNat y) := by
    unfold B
    congr 1
  rw [e]
  exact ⟨by simp [Bs], .inr ⟨w.heap.size, 1, #[B (UInt8.ofNat y)], rfl, Nat.zero_le _, heap_alloc_new w _, Nat.le_refl _, by unfold maxLen; omega, by simp, by simp [Bs]⟩⟩

theorem strAdd (T : List UInt8) (b : UInt8) : (⟨T.toArray⟩ : ByteArray) ++ ⟨#[b]⟩ = ⟨(T ++ [b]).toArray⟩ := by
  apply ByteArray.ext
  simp
/-- One byte more. -/
theorem AtR.byte {w wr : World} {K : Nat} {pv : Value} {T : List UInt8} (h : AtR w wr K pv (.string ⟨T.toArray⟩)) (b : UInt8) (o : Obj) : AtR w ((wr.setCell ⟨w.heap.size + 1, 2, none⟩ (.string (⟨T.toArray⟩ ++ ⟨#[b]⟩))).alloc o) K pv (.string ⟨(T ++ [b]).toArray⟩) := by
  have hl0 := lt_of_block h.res
  have hl1 := lt_of_block h.obj
  have e := ob_set2 (u := .string (⟨T.toArray⟩ ++ ⟨#[b]⟩)) h.obj
  have hs := h.below.size
  refine ⟨?_, ?_, (h.below.setCell (by simp) _).alloc (by simpa using hs) _⟩
  · rw [Below.heap_alloc _ _ _ (by simpa using hl0), heap_setCell_other _ _ _ _ (by simp)]
    exact h.res
  · rw [Below.heap_alloc _ _ _ (by simpa using hl1), e, strAdd]

set_option maxHeartbeats 4000000 in
set_option maxRecDepth 100000 in
theorem at_text (v : Value) (W : List Nat) (i : Nat) (w : World) (h : RdW w v W) (hi : i < W.length) (hx : W.getD i 0 < 18446744073709551616) (hws : ∀ x ∈ W, x < 18446744073709551616) (hmx : W.length ≤ 10000000) (hl : szX (W.getD i 0) ≤ W.length - i) (h3 : W.getD i 0 % 256 = 3) :
    Calls Try.prog 14 #[v, .int .i64 (i : Int)] w fun e w' => AtPost w w' W i e := by
  have hok : atOk W i = true := by
    unfold atOk
    rw [h3]
    simpa [isK] using hl
  have hbd := szX_bound hl
  obtain ⟨a, cap, hv, hm, hc⟩ := at_cell h hi
  have hcell := hc i hi
  have HC := Lib.hid hc
  have HH := Lib.hid h
  have HWS := Lib.hid hws
  clear h hc hws
  have hsz : szX (W.getD i 0) = 1 + (W.getD i 0 / 256 + 7) / 8 := by unfold szX need; rw [if_pos h3]
  obtain ⟨n, hn⟩ : ∃ n, W.getD i 0 / 256 = n := ⟨_, rfl⟩
  have hpost : ∀ (w' : World), Below w.heap.size w w' → AtPost w w' W i (.returned (.tuple #[.agg #[.int .u8 3, .slice none 0 0, .string ⟨(txt W i n).toArray⟩], .int .i64 (1 + ((n : Int) + 7) / 8)])) := by
    intro w' hb
    refine ⟨.slice none 0 0, ?_, ?_, hb⟩
    · simp only [hok, if_true, hsz, hn, h3]
      rw [if_pos ⟨trivial, trivial⟩]
      rw [show ((1 + (n + 7) / 8 : Nat) : Int) = 1 + ((n : Int) + 7) / 8 by omega]
      rfl
    · rw [if_neg (fun e => e.2 h3)]
      exact World.ownsRow_nil _ _ _ _
  have HPOST := Lib.hid hpost
  rw [hn] at hsz hbd
  rw [hsz] at hl
  obtain ⟨X, hX⟩ : ∃ X, W.getD i 0 = X := ⟨_, rfl⟩
  rw [hX] at hcell hx hn h3
  have hX' : (X : Int) ≤ 18446744073709551615 := by omega
  have hi' : (i : Int) < (W.length : Int) := by omega
  have hmx' : (W.length : Int) ≤ 10000000 := by omega
  have hXn : (X : Int) / 256 = (n : Int) := by omega
  have hXK : (X : Int) % 256 = 3 := by omega
  have hb' : ¬ (8 : Int) * (W.length : Int) < (X : Int) / 256 := by omega
  have hb2 : (n : Int) ≤ 100000000 := by omega
  unfold maxLen at hm
  have hab := World.block_lt_of_cell? w _ hcell
  subst hv
  have hl' : ¬ (W.length : Int) - (i : Int) - 1 < ((n : Int) + 7) / 8 := by omega
  have hbn : ¬ (8 : Int) * (W.length : Int) < (n : Int) := by omega
  clear hpost h3 hok hX hn hsz
  go_enter Try.func14, Try.ntmps14
  go_wp2_with fail
  have HST := Lib.hid (AtR.start w 3)
  obtain ⟨k, hk⟩ : ∃ k, (n + 7) / 8 = k := ⟨_, rfl⟩
  have hki : ((n : Int) + 7) / 8 = (k : Int) := by omega
  have HKI := Lib.hid hki
  have hkn : n ≤ 8 * k := by omega
  have hkn2 : 8 * k ≤ n + 7 := by omega
  clear hk hki
  rw [HKI.out]
  go_loopw [10] (fun i' wr => ∃ (m : Nat) (T : List UInt8), m ≤ k ∧ i' = .int .i64 m ∧ T.length ≤ n ∧ Hid (T = (txt W i n).take (8 * m) ∧ AtR w wr 3 (.slice none 0 0) (.string ⟨T.toArray⟩))) (fun i' _ => k - (intOf i').toNat)
  case atStart => exact ⟨0, [], Nat.zero_le _, rfl, by simp, by simp, HST.out⟩
  case round =>
    obtain ⟨m, T, hm', rfl, hTn, HK⟩ := hrel
    clear HST
    by_cases hlt : m < k
    · have hmi : (m : Int) < (k : Int) := by omega
      have hidx : i + 1 + m < W.length := by omega
      obtain ⟨x, hxx⟩ : ∃ x, W.getD (i + 1 + m) 0 = x := ⟨_, rfl⟩
      have hxl : x < 18446744073709551616 := by rw [← hxx]; exact getD_lt HWS.out _
      have hc0 := HC.out (i + 1 + m) hidx
      rw [hxx] at hc0
      have hcx := (HK.out.2.below.cell (World.block_lt_of_cell? w _ hc0)).trans hc0
      have hidx' : (i : Int) + 1 + (m : Int) < (W.length : Int) := by omega
      have HXX := Lib.hid hxx
      have hx2 : (x : Int) ≤ 18446744073709551615 := by omega
      clear hc0 hxx
      obtain ⟨wo, rfl⟩ : ∃ wo : World, wo = wr := ⟨_, rfl⟩
      go_wp2_with fail
      go_loopw [11, 12] (fun x' j' wr2 => ∃ (j y : Nat) (T' : List UInt8), j ≤ 8 ∧ j' = .int .i64 j ∧ x' = .int .u64 y ∧ y < 18446744073709551616 ∧ T'.length = 8 * m + j ∧ 8 * m + j ≤ n ∧ Hid (y = x / 256 ^ j ∧ T' = (txt W i n).take (8 * m + j) ∧ AtR w wr2 3 (.slice none 0 0) (.string ⟨T'.toArray⟩))) (fun _ j' _ => 8 - (intOf j').toNat)
      case atStart => exact ⟨0, x, T, Nat.zero_le _, rfl, rfl, hxl, by rw [HK.out.1, List.length_take, txt_length]; omega, by omega, by simp, HK.out.1, HK.out.2⟩
      case round =>
        obtain ⟨j, y, T', hj8, rfl, rfl, hyl, hTl, htn, HI⟩ := hrel
        obtain ⟨z0, z1, z2⟩ := ob_cells HI.out.2.2.obj
        have hob := HI.out.2.2.obj
        have hfr := frozen_of_row _ _ 2 _ _ hob
        have hsz' := lt_of_block hob
        by_cases hc : j < 8 ∧ 8 * m + j < n
        · obtain ⟨hj, ht⟩ := hc
          have hj' : decide ((j : Int) < 8) = true := by simp; omega
          have hT2 : (T'.length : Int) < (n : Int) := by omega
          have hT3 : T'.length < n := by omega
          have hTi : (T'.length : Int) ≤ 100000000 := by omega
          have hcv := byteStr wr y
          have hy' : (y : Int) ≤ 18446744073709551615 := by omega
          have hy2 : y / 256 = x / 256 ^ (j + 1) := by rw [HI.out.1, Nat.div_div_eq_div_mul, Nat.pow_succ]
          have hT4 : T' ++ [UInt8.ofNat y] = (txt W i n).take (8 * m + (j + 1)) := by
            rw [show 8 * m + (j + 1) = 8 * m + j + 1 by omega, txt_succ _ _ _ _ ht, ← HI.out.2.1]
            congr 3
            rw [HI.out.1, ← HXX.out, show (8 * m + j) / 8 = m by omega, show (8 * m + j) % 8 = j by omega, show i + (1 + m) = i + 1 + m by omega]
          have hat := fun o => HI.out.2.2.byte (UInt8.ofNat y) o
          have HY2 := Lib.hid hy2
          have HT4 := Lib.hid hT4
          have HAT := Lib.hid hat
          clear hob hy2 hT4 hat
          go_wp2_with fail
          go_roundw
          case rel => exact ⟨j + 1, y / 256, T' ++ [UInt8.ofNat y], by omega, by go_num, by go_num, by omega, by rw [List.length_append, List.length_singleton]; omega, by omega, HY2.out, HT4.out, HAT.out _⟩
          case measure => simp [intOf]; omega
        · have hat := HI.out.2.2
          have hT5 : T' = (txt W i n).take (8 * (m + 1)) := by
            rw [HI.out.2.1]
            by_cases hj : j < 8
            · have h1 := txt_length W i n
              rw [List.take_of_length_le (by omega), List.take_of_length_le (by omega)]
            · rw [show 8 * m + j = 8 * (m + 1) by omega]
          have HAT := Lib.hid hat
          have HT5 := Lib.hid hT5
          clear hat hT5 hob
          by_cases hj : j < 8
          · have hj' : decide ((j : Int) < 8) = true := by simp; omega
            have hT2 : ¬ (T'.length : Int) < (n : Int) := by omega
            have hT3 : ¬ T'.length < n := by omega
            clear hc
            go_wp2_with fail
            go_roundw
            case rel => exact ⟨m + 1, T', by omega, by go_num, by omega, HT5.out, HAT.out⟩
            case measure => simp [intOf]; omega
          · obtain rfl : j = 8 := by omega
            have hj' : decide (((8 : Nat) : Int) < 8) = false := by decide
            clear hc
            go_wp2_with fail
            go_roundw
            case rel => exact ⟨m + 1, T', by omega, by go_num, by omega, HT5.out, HAT.out⟩
            case measure => simp [intOf]; omega
    · obtain rfl : m = k := by omega
      have hmi : ¬ (m : Int) < (m : Int) := by omega
      have htk : T = txt W i n := by
        have h1 := txt_length W i n
        rw [HK.out.1, List.take_of_length_le (by omega)]
      obtain ⟨y0, y1, y2⟩ := ob_cells HK.out.2.res
      obtain ⟨z0, z1, z2⟩ := ob_cells HK.out.2.obj
      have f0 := frozen_of_row _ _ 0 _ _ HK.out.2.res
      have f1 := frozen_of_row _ _ 1 _ _ HK.out.2.res
      have f2 := frozen_of_row _ _ 2 _ _ HK.out.2.res
      have hl0 := lt_of_block HK.out.2.res
      have hl1 := lt_of_block HK.out.2.obj
      have HTK := Lib.hid htk
      clear htk
      go_wp2_with fail
      refine bodyPost_ret (v := .tuple #[.agg #[.int .u8 3, .slice none 0 0, .string ⟨T.toArray⟩], .int .i64 (1 + (m : Int))]) (by simp [results, Try.results14, go_sem, y0, y1, y2]) rfl ?_
      rw [HTK.out, ← HKI.out]
      exact HPOST.out _ (((HK.out.2.below.setCell (Nat.le_refl _) _).setCell (Nat.le_refl _) _).setCell (Nat.le_refl _) _)
end Go.Proofs.Ytkdhajiplonloaa
namespace Go.Proofs.Ytkdhajiplonloaa
open Go.RowKit HeaM

theorem at_t (v : Value) (W : List Nat) (i : Nat) (w : World) (h : RdW w v W) (hi : i < W.length) (hws : ∀ x ∈ W, x < 18446744073709551616) (hmx : W.length ≤ 10000000) :
    Calls Try.prog 14 #[v, .int .i64 (i : Int)] w fun e w' => AtPost w w' W i e := by
  have hx := getD_lt hws i
  rcases hk : isK (W.getD i 0 % 256) with _ | _
  · exact at_kind v W i w h hi hx hk
  · by_cases hb : W.getD i 0 / 256 ≤ 8 * W.length
    · by_cases hl : szX (W.getD i 0) ≤ W.length - i
      · by_cases h3 : W.getD i 0 % 256 = 3
        · exact at_text v W i w h hi hx hws hmx hl h3
        · exact at_parts v W i w h hi hx hk hmx hl h3
      · exact at_long v W i w h hi hx hk hmx hb (by omega)
    · exact at_big v W i w h hi hx hk hmx (by omega)

/-- What At tells, in the walk's own spelling. -/
theorem at_lit (v : Value) (W : List Nat) (i : Nat) (w : World) (h : RdW w v W) (hi : i < W.length) (hws : ∀ x ∈ W, x < 18446744073709551616) (hmx : W.length ≤ 10000000) :
    Calls Try.prog 14 #[v, .int .i64 (i : Int)] w fun e w' => ∃ (kk : Nat) (po : Option Addr) (pc : Nat) (str : ByteArray) (N : Nat) (P : List Nat),
      e = .returned (.tuple #[.agg #[.int .u8 (kk : Int), .slice po P.length pc, .string str], .int .i64 (N : Int)]) ∧ OwnU w' w.heap.size (.slice po P.length pc) P ∧ Below w.heap.size w w' ∧
      N = (if atOk W i = true then szX (W.getD i 0) else 0) ∧ P = (if atOk W i = true ∧ W.getD i 0 % 256 ≠ 3 then rst W i else []) ∧ kk < 256 := by
  refine (at_t v W i w h hi hws hmx).mono ?_
  rintro e w' ⟨pv, rfl, ho, hb⟩
  obtain ⟨po, pc, rfl, _⟩ := own_slice ho
  refine ⟨_, po, pc, _, _, _, rfl, ho, hb, rfl, rfl, ?_⟩
  split <;> omega

theorem atOk_seg {W : List Nat} {i : Nat} (hi : i < W.length) (hws : ∀ x ∈ W, x < 18446744073709551616) (h : atOk W i = true) : Seg (obj W i) ∧ (obj W i).length = szX (W.getD i 0) ∧ i + szX (W.getD i 0) ≤ W.length := by
  unfold atOk at h
  rw [Bool.and_eq_true, decide_eq_true_eq] at h
  have hp := szX_pos (W.getD i 0)
  have hl : (obj W i).length = szX (W.getD i 0) := by
    unfold obj
    rw [List.length_take, List.length_drop]
    omega
  have hh : (obj W i).getD 0 0 = W.getD i 0 := by
    unfold obj
    rw [List.getD_eq_getElem?_getD, List.getElem?_take, if_pos (by omega), List.getElem?_drop, Nat.add_zero, ← List.getD_eq_getElem?_getD]
  refine ⟨⟨fun e => by rw [e, List.length_nil] at hl; omega, by rw [hh, hl], by rw [hh]; exact h.1, fun x hx => hws x (List.mem_of_mem_drop (List.mem_of_mem_take hx))⟩, hl, by omega⟩

/-- The reference has seen objects up to o. -/
structure RtR (w wr : World) (W : List Nat) (done : List (List Nat)) (o g : Nat) : Prop where
  segs : ∀ s ∈ done, Seg s
  flat : done.flatten = W.take o
  row : wr.ownsRow w.heap.size 4 1 (.slice (some ⟨g, 0, none⟩) W.length W.length) W.length (Fs (mksTo done W.length))
  below : Below w.heap.size w wr

theorem RtR.next {w wr w1 : World} {W : List Nat} {done : List (List Nat)} {o g : Nat} (h : RtR w wr W done o g) (ho : o < W.length) (hws : ∀ x ∈ W, x < 18446744073709551616) (hok : atOk W o = true) (hb : Below wr.heap.size wr w1) : RtR w (w1.setCell ⟨g, o, none⟩ (.bool true)) W (done ++ [obj W o]) (o + szX (W.getD o 0)) g := by
  obtain ⟨hs, hl, hf⟩ := atOk_seg ho hws hok
  have hdl : done.flatten.length = o := by rw [h.flat, List.length_take]; omega
  have hk := Below.kept (S := fun k => wr.heap.size ≤ k) hb fun k h1 _ => h1
  have hrow := own_kept h.row hk fun k hk hs => by have := (h.row.lt k hk).2; omega
  refine ⟨fun s hs' => ?_, ?_, ?_, (h.below.trans (hb.mono h.below.size)).setCell (h.row.lt g rfl).1 _⟩
  · rcases List.mem_append.1 hs' with hs' | hs'
    · exact h.segs s hs'
    · simp at hs'; subst hs'; exact hs
  · rw [List.flatten_append, h.flat]
    simp only [List.flatten_cons, List.flatten_nil, List.append_nil]
    unfold obj
    rw [List.take_add]
  · have hm := mksTo_next h.segs hs (n := W.length) (by omega)
    rw [hdl] at hm
    have hst := (hrow.stored o (.bool true)).1
    have e : Fs (mksTo (done ++ [obj W o]) W.length) = (Fs (mksTo done W.length)).set o (.bool true) := by
      rw [← hm]
      unfold Fs
      rw [List.map_set]
    rw [e]
    exact hst
end Go.Proofs.Ytkdhajiplonloaa
