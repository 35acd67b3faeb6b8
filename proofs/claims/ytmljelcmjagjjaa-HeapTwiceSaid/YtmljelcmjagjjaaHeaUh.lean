/- The reference's At, whole; its Right. -/
import Derived.Test.YtmljelcmjagjjaaHeaUg
namespace Go.Proofs.Ytmljelcmjagjjaa
open Go.RowKit HeaM

theorem at_t (v : Value) (W : List Nat) (i : Nat) (w : World) (h : RdW w v W) (hi : i < W.length) (hws : ∀ x ∈ W, x < 18446744073709551616) (hmx : W.length ≤ 10000000) :
    Calls Try.prog 22 #[v, .int .i64 (i : Int)] w fun e w' => AtPost w w' W i e := by
  have hx := getD_lt hws i
  rcases hk : isK (W.getD i 0 % 256) with _ | _
  · exact at_kind v W i w h hi hx hk
  · by_cases hb : W.getD i 0 / 256 ≤ 8 * W.length
    · by_cases hl : szX (W.getD i 0) ≤ W.length - i
      · by_cases h3 : W.getD i 0 % 256 = 3
        · exact at_text v W i w h hi hx hws hmx hl h3
        · exact at_parts v W i w h hi hx hk hmx hl h3
      · exact at_long v W i w h hi hx hk hmx hb (by omega)
    · exact at_big v W i w h hi hx hk hmx (by omega)

/-- What At tells, in the walk's own spelling. -/
theorem at_lit (v : Value) (W : List Nat) (i : Nat) (w : World) (h : RdW w v W) (hi : i < W.length) (hws : ∀ x ∈ W, x < 18446744073709551616) (hmx : W.length ≤ 10000000) :
    Calls Try.prog 22 #[v, .int .i64 (i : Int)] w fun e w' => ∃ (kk : Nat) (po : Option Addr) (pc : Nat) (str : ByteArray) (N : Nat) (P : List Nat),
      e = .returned (.tuple #[.agg #[.int .u8 (kk : Int), .slice po P.length pc, .string str], .int .i64 (N : Int)]) ∧ OwnU w' w.heap.size (.slice po P.length pc) P ∧ Below w.heap.size w w' ∧
      N = (if atOk W i = true then szX (W.getD i 0) else 0) ∧ P = (if atOk W i = true ∧ W.getD i 0 % 256 ≠ 3 then rst W i else []) ∧ kk < 256 := by
  refine (at_t v W i w h hi hws hmx).mono ?_
  rintro e w' ⟨pv, rfl, ho, hb⟩
  obtain ⟨po, pc, rfl, _⟩ := own_slice ho
  refine ⟨_, po, pc, _, _, _, rfl, ho, hb, rfl, rfl, ?_⟩
  split <;> omega

theorem atOk_seg {W : List Nat} {i : Nat} (hi : i < W.length) (hws : ∀ x ∈ W, x < 18446744073709551616) (h : atOk W i = true) : Seg (obj W i) ∧ (obj W i).length = szX (W.getD i 0) ∧ i + szX (W.getD i 0) ≤ W.length := by
  unfold atOk at h
  rw [Bool.and_eq_true, decide_eq_true_eq] at h
  have hp := szX_pos (W.getD i 0)
  have hl : (obj W i).length = szX (W.getD i 0) := by
    unfold obj
    rw [List.length_take, List.length_drop]
    omega
  have hh : (obj W i).getD 0 0 = W.getD i 0 := by
    unfold obj
    rw [List.getD_eq_getElem?_getD, List.getElem?_take, if_pos (by omega), List.getElem?_drop, Nat.add_zero, ← List.getD_eq_getElem?_getD]
  refine ⟨⟨fun e => by rw [e, List.length_nil] at hl; omega, by rw [hh, hl], by rw [hh]; exact h.1, fun x hx => hws x (List.mem_of_mem_drop (List.mem_of_mem_take hx))⟩, hl, by omega⟩

/-- The reference has seen objects up to o. -/
structure RtR (w wr : World) (W : List Nat) (done : List (List Nat)) (o g : Nat) : Prop where
  segs : ∀ s ∈ done, Seg s
  flat : done.flatten = W.take o
  row : wr.ownsRow w.heap.size 4 1 (.slice (some ⟨g, 0, none⟩) W.length W.length) W.length (Fs (mksTo done W.length))
  below : Below w.heap.size w wr

theorem RtR.next {w wr w1 : World} {W : List Nat} {done : List (List Nat)} {o g : Nat} (h : RtR w wr W done o g) (ho : o < W.length) (hws : ∀ x ∈ W, x < 18446744073709551616) (hok : atOk W o = true) (hb : Below wr.heap.size wr w1) : RtR w (w1.setCell ⟨g, o, none⟩ (.bool true)) W (done ++ [obj W o]) (o + szX (W.getD o 0)) g := by
  obtain ⟨hs, hl, hf⟩ := atOk_seg ho hws hok
  have hdl : done.flatten.length = o := by rw [h.flat, List.length_take]; omega
  have hk := Below.kept (S := fun k => wr.heap.size ≤ k) hb fun k h1 _ => h1
  have hrow := own_kept h.row hk fun k hk hs => by have := (h.row.lt k hk).2; omega
  refine ⟨fun s hs' => ?_, ?_, ?_, (h.below.trans (hb.mono h.below.size)).setCell (h.row.lt g rfl).1 _⟩
  · rcases List.mem_append.1 hs' with hs' | hs'
    · exact h.segs s hs'
    · simp at hs'; subst hs'; exact hs
  · rw [List.flatten_append, h.flat]
    simp only [List.flatten_cons, List.flatten_nil, List.append_nil]
    unfold obj
    rw [List.take_add]
  · have hm := mksTo_next h.segs hs (n := W.length) (by omega)
    rw [hdl] at hm
    have hst := (hrow.stored o (.bool true)).1
    have e : Fs (mksTo (done ++ [obj W o]) W.length) = (Fs (mksTo done W.length)).set o (.bool true) := by
      rw [← hm]
      unfold Fs
      rw [List.map_set]
    rw [e]
    exact hst
end Go.Proofs.Ytmljelcmjagjjaa
