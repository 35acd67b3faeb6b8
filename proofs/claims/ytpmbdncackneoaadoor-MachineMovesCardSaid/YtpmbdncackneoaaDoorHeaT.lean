/- Text: the bytes of a text. -/
import Derived.Test.YtpmbdncackneoaaDoorHeaO
namespace Go.Proofs.YtpmbdncackneoaaDoor
open Go.RowKit HeaM

/-- A byte as a value; bytes as values; bytes as a text. -/
def B (b : UInt8) : Value := .int .u8 (b.toNat : Int)
def Bs (l : List UInt8) : List Value := l.map B
def S (l : List UInt8) : Value := .string ⟨l.toArray⟩

theorem u8info : (Tryd.prog.info? 5).map (fun i => (i.zero, i.size, i.bytes)) = some (some (.int .u8 0), 1, 1) := by kernel_rfl
theorem strOf (l : List UInt8) : strOfNums (l.map fun b => (b.toNat : Int)) = ⟨l.toArray⟩ := by
  unfold strOfNums
  congr 2
  rw [List.map_map]
  exact (List.map_congr_left fun b _ => by simp).trans (List.map_id l)
theorem nums_getD (l : List UInt8) (i : Nat) (hi : i < l.length) : (l.map fun b => (b.toNat : Int)).getD i 0 = (l[i].toNat : Int) := by
  rw [List.getD_eq_getElem?_getD, List.getElem?_map, List.getElem?_eq_getElem hi]
  rfl
/-- A row of bytes as a text. -/
theorem toStr {w : World} {base g n : Nat} {l : List UInt8} (h : w.ownsRow base 5 1 (.slice (some ⟨g, 0, none⟩) n n) n (Bs l)) : (convert 64 9 (.slice (some ⟨g, 0, none⟩) n n)).run Tryd.prog w = .ok (S l) w := by
  have hn : l.length = n := by have := h.1; simpa [Bs] using this
  rcases l with _ | ⟨x, t⟩
  · have : n = 0 := by simpa using hn.symm
    subst this
    rw [run_convert_bytes_string w 64 9 5 (some _) _ 0 Tryd.underlying64 Tryd.underlying5 Tryd.underlying9, run_bytesToString w _ 0 0 [] (by simp [loadCells, loadCellsFrom])]
    rfl
  · subst hn
    rw [run_convert_bytes_arg w 64 5 Tryd.underlying64 Tryd.underlying5 g 0 _ _ ((x :: t).map fun b => (b.toNat : Int)) (by simp) (fun i hi => by
      rw [Nat.zero_add, h.cellAt i (by omega), nums_getD _ i hi]
      simp only [Bs, List.getElem?_map, List.getElem?_eq_getElem hi]
      rfl) 9 Tryd.underlying9, strOf]
    rfl
theorem madeB (n : Nat) (hn : n ≤ 1000000000) (W : World) : (Instr.makeSlice 64 (.int .i64 (n : Int)) (.int .i64 (n : Int))).run Tryd.prog W = .ok (.slice (some ⟨W.heap.size, 0, none⟩) n n) (W.alloc (.cells (Bs (List.replicate n 0)).toArray 5)) := by
  obtain ⟨i0, hi0, hz0, hz1, hz2⟩ := info_parts u8info
  have h := run_make (P := Tryd.prog) W 64 5 i0 _ Tryd.underlying64 hi0 hz0 .i64 .i64 (n : Int) (n : Int) (by omega) (by omega) (by rw [hz2]; omega) (by omega)
  rw [h]
  have e : madeCells (Value.int .u8 0).cells (n * i0.size) = (Bs (List.replicate n 0)).toArray := by
    apply Array.ext'
    rw [hz1, Nat.mul_one]
    show (madeCells #[Value.int .u8 0] n).toList = _
    rw [toList_madeCells_one]
    simp [Bs, B]
  simp only [Int.toNat_natCast, e]

/-- The bytes of the text at i, n of them. -/
def txt (W : List Nat) (i n : Nat) : List UInt8 := (List.range n).map fun j => UInt8.ofNat (W.getD (i + (1 + j / 8)) 0 / 256 ^ (j % 8))
theorem txt_length (W : List Nat) (i n : Nat) : (txt W i n).length = n := by simp [txt]

def far (l : List UInt8) (k : Nat) : List UInt8 := l.take k ++ List.replicate (l.length - k) 0
theorem far_zero (l : List UInt8) : far l 0 = List.replicate l.length 0 := by simp [far]
theorem far_all (l : List UInt8) : far l l.length = l := by simp [far]
theorem far_succ (l : List UInt8) (k : Nat) (hk : k < l.length) : far l (k + 1) = (far l k).set k l[k] := by
  unfold far
  obtain ⟨m, hm⟩ : ∃ m, l.length - k = m + 1 := ⟨l.length - k - 1, by omega⟩
  rw [hm, show l.length - (k + 1) = m by omega, List.replicate_succ, List.take_succ_eq_append_getElem hk, List.set_append_right _ _ (by rw [List.length_take]; omega)]
  rw [show k - (l.take k).length = 0 by rw [List.length_take]; omega]
  simp only [List.set_cons_zero, List.append_assoc, List.singleton_append]
theorem Bs_set (l : List UInt8) (k : Nat) (b : UInt8) : (Bs l).set k (B b) = Bs (l.set k b) := by unfold Bs; rw [List.map_set]

theorem below_drewN (n k : Nat) (w : World) : Below n w (w.drewN k) := ⟨rfl, rfl, rfl, Nat.le_refl _, fun _ _ => rfl⟩

theorem byte_of (x k : Nat) : Value.int .u8 ((x : Int) / 2 ^ (8 * (k % 8)) % 256) = B (UInt8.ofNat (x / 256 ^ (k % 8))) := by
  unfold B
  rw [show (2 : Int) ^ (8 * (k % 8)) = ((2 ^ (8 * (k % 8)) : Nat) : Int) by rw [Int.natCast_pow]; rfl, Nat.pow_mul, ← Int.natCast_ediv]
  congr 1

set_option maxHeartbeats 4000000 in
set_option maxRecDepth 100000 in
theorem text_t (b base q c : Nat) (v1 v2 : Value) (W : List Nat) (F : List Bool) (i X n N : Nat) (w : World) (h : HAt w b base q c v1 v2 W F) (hO : ObjAt W F i X 3 n N) (hF : F.length = W.length) (hW : W.length ≤ 100000000) (hlt : ∀ x ∈ W, x < 18446744073709551616) :
    Calls Tryd.prog 59 #[.pointer (some ⟨b, 0, none⟩), .int .u64 ((2 * i : Nat) : Int)] w fun e w' => e = .returned (S (txt W i n)) ∧ Below w.heap.size w w' := by
  have hi : i < W.length := (List.getElem?_eq_some_iff.1 hO.get).1
  have hsm := hO.small
  have hpos := hO.pos
  have hfit := hO.fits
  have hXlt := hO.lt
  have hN : N = 1 + (n + 7) / 8 := hO.need.symm
  have HO := Lib.hid (object_t b base q c v1 v2 W F i X 3 n N w h hO hF (by omega))
  have HK := Lib.hid hO.kind
  have HS := Lib.hid hO.size
  obtain ⟨g, cap, hv1, hcap, hmax⟩ : ∃ g cap, v1 = .slice (some ⟨g, 0, none⟩) W.length cap ∧ W.length ≤ cap ∧ cap ≤ maxLen := by
    rcases h.own1.2 with ⟨_, hn⟩ | ⟨g, cap, cur, e, _, _, hc, hm, _⟩
    · omega
    · exact ⟨g, cap, e, hc, hm⟩
  have own1 := h.own1
  rw [hv1] at own1
  have hgl := (own1.lt g rfl).2
  have cells : ∀ j, j < W.length → w.cell? ⟨g, j, none⟩ = some (.int .u64 (W.getD j 0 : Int)) := by
    intro j hj
    rw [own1.cellAt j (by omega), List.getD_eq_getElem?_getD]
    simp [Ws, hj, Wv]
  have hm : w.cell? ⟨g, i, none⟩ = some (.int .u64 (X : Int)) := by
    rw [cells i hi, List.getD_eq_getElem?_getD, hO.get]
    rfl
  have hlt' : ∀ j, W.getD j 0 < 18446744073709551616 := by
    intro j
    rw [List.getD_eq_getElem?_getD]
    rcases e : W[j]? with _ | x
    · simp
    · exact hlt x (List.mem_of_getElem? e)
  have CE := Lib.hid cells
  have LT := Lib.hid hlt'
  have HV := Lib.hid hv1
  have HNN := Lib.hid hN
  have mk := madeB n (by omega)
  have MK := Lib.hid mk
  clear cells hlt' hlt own1 h hO hN mk
  have hX' : (X : Int) ≤ 18446744073709551615 := by omega
  have hn0 : (n : Int) ≤ 800000000 := by omega
  have hNz : ((N : Int) == 0) = false := by rw [beq_eq_false_iff_ne]; omega
  have hNp : 0 < N := by omega
  clear hv1
  go_enter Tryd.func59, Tryd.ntmps59
  go_wp2_with fail
  refine HO.out.mono ?_
  rintro e w' ⟨g', cap', nq, hv, hcap', hmax', rfl, rfl⟩
  rw [HV.out] at hv
  simp only [Value.slice.injEq, Option.some.injEq, Addr.mk.injEq, and_true, true_and] at hv
  obtain ⟨rfl, rfl⟩ := hv
  clear hcap' hmax'
  have mk := MK.out
  go_wp2_with (first
    | (go_at_call 74; refine (kind_k X 3 _ hXlt HK).mono ?_; rintro e w' ⟨rfl, rfl⟩)
    | (go_at_call 75; refine (size_k X n _ hXlt HS).mono ?_; rintro e w' ⟨rfl, rfl⟩))
  clear mk
  have start : (w.alloc (.cells (Bs (List.replicate n 0)).toArray 5)).ownsRow w.heap.size 5 1 (.slice (some ⟨w.heap.size, 0, none⟩) n n) n (Bs (far (txt W i n) 0)) := by
    have e := World.ownsRow_lit (base := w.heap.size) (e := 5) (size := 1) w (Bs (List.replicate n 0)).toArray n (Nat.le_refl _) (by unfold maxLen; omega) (by simp [Bs])
    rw [far_zero, txt_length]
    exact e
  go_loopw [28] (fun v wr => ∃ k : Nat, k ≤ n ∧ v = .int .i64 k ∧ wr.ownsRow w.heap.size 5 1 (.slice (some ⟨w.heap.size, 0, none⟩) n n) n (Bs (far (txt W i n) k)) ∧ Below w.heap.size w wr) (fun v _ => n - (intOf v).toNat)
  case atStart => exact ⟨0, Nat.zero_le _, rfl, ⟨start.1, start.2⟩, (below_drewN _ _ _).alloc (Nat.le_refl _) _⟩
  case round =>
    obtain ⟨k, hk, rfl, hown, hb⟩ := hrel
    clear start
    by_cases hlt : k < n
    · have hkN : 1 + k / 8 < N := by rw [HNN.out]; omega
      have hcell : wr.cell? ⟨g, i + (1 + k / 8), none⟩ = some (.int .u64 (W.getD (i + (1 + k / 8)) 0 : Int)) := (hb.cell (p := ⟨g, _, none⟩) hgl).trans (CE.out _ (by omega))
      have hold : wr.cell? ⟨w.heap.size, k, none⟩ = (Bs (far (txt W i n) k))[k]? := hown.cellAt k (by omega)
      have hx := LT.out (i + (1 + k / 8))
      have hst := (hown.stored k (B ((txt W i n)[k]'(by rw [txt_length]; exact hlt)))).1
      rw [Bs_set, ← far_succ _ k (by rw [txt_length]; exact hlt), show (txt W i n)[k]'(by rw [txt_length]; exact hlt) = UInt8.ofNat (W.getD (i + (1 + k / 8)) 0 / 256 ^ (k % 8)) by simp [txt], ← byte_of _ k] at hst
      have hfree := hown.frozenAt k
      obtain ⟨ov, hov⟩ : ∃ ov, wr.cell? ⟨w.heap.size, k, none⟩ = some ov := by
        rw [hold]
        exact ⟨_, List.getElem?_eq_getElem (by simp [Bs, far, txt_length]; omega)⟩
      generalize W.getD (i + (1 + k / 8)) 0 = x at *
      have hx0 : (x : Int) ≤ 18446744073709551615 := by omega
      have hk0 : 1 + (k : Int) / 8 < (N : Int) := by omega
      have hk2 : 0 ≤ (k : Int) / 8 := by omega
      have hk1 : ((k : Int) / 8).toNat = k / 8 := by omega
      have hk3 : (1 + (k : Int) / 8).toNat = 1 + k / 8 := by omega
      have hkn : (k : Int) < (n : Int) := by omega
      have hr0 : (0 : Int) ≤ 8 * ((k : Int) % 8) := by omega
      have hr1 : 8 * ((k : Int) % 8) ≤ 56 := by omega
      have HST := Lib.hid hst
      have HB := Lib.hid hb
      clear hst hb hown hold
      go_wp2_with fail
      go_roundw
      case rel => exact ⟨k + 1, by omega, by go_num, HST.out, HB.out.setCell (Nat.le_refl _) _⟩
      case measure => simp [intOf]; omega
    · obtain rfl : k = n := by omega
      have e : far (txt W i k) k = txt W i k := by
        have h := far_all (txt W i k)
        rw [txt_length] at h
        exact h
      rw [e] at hown
      have hcv := toStr hown
      have HB := Lib.hid hb
      clear hown hb
      unfold S at hcv
      go_wp2_with fail
      go_ret
      exact ⟨rfl, HB.out⟩
end Go.Proofs.YtpmbdncackneoaaDoor
