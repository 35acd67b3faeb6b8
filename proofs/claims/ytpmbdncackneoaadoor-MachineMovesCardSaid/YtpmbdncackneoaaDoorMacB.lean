/- Values in a heap: what the heap's calls tell of them. -/
import Derived.Test.YtpmbdncackneoaaDoorMacP
import Derived.Test.YtpmbdncackneoaaDoorHeaA
namespace Go.Proofs.YtpmbdncackneoaaDoor
open Go.RowKit HeaM Ma

set_option maxHeartbeats 1000000 in
set_option maxRecDepth 100000 in
theorem hkind_t (b base q c : Nat) (v1 v2 : Value) (W : List Nat) (F : List Bool) (i X k n N : Nat) (w : World) (h : HAt w b base q c v1 v2 W F) (hO : ObjAt W F i X k n N) (hF : F.length = W.length) (hW : W.length ≤ 1000000000) :
    Calls Tryd.prog 54 #[.pointer (some ⟨b, 0, none⟩), .int .u64 ((2 * i : Nat) : Int)] w fun e w' => e = .returned (.int .u8 (k : Int)) ∧ ∃ nq, w' = w.drewN nq := by
  have HO := Lib.hid (object_t b base q c v1 v2 W F i X k n N w h hO hF hW)
  have hpos := hO.pos
  have hX := hO.lt
  have hfit := hO.fits
  have hsz : Hid (X % 256 = k) := hO.kind
  have hcell : ∀ g cap, v1 = .slice (some ⟨g, 0, none⟩) W.length cap → w.cell? ⟨g, i, none⟩ = some (.int .u64 (X : Int)) := by
    intro g cap e
    have o1 := h.own1
    rw [e] at o1
    rw [World.ownsRow.cellAt o1 i (by omega)]
    simp only [Ws, List.getElem?_map, hO.get]
    rfl
  have HC := Lib.hid hcell
  clear h hO hcell
  go_enter Tryd.func54, Tryd.ntmps54
  go_wp2_with fail
  refine HO.out.mono ?_
  rintro e w' ⟨g, cap, nq, hv, hc1, hc2, rfl, rfl⟩
  have hm := (below_drewN w.heap.size nq w).cell (p := ⟨g, i, none⟩) (World.block_lt_of_cell? w _ (HC.out g cap hv))
  rw [HC.out g cap hv] at hm
  have HW : Hid (∃ nq', w.drewN nq = w.drewN nq') := ⟨nq, rfl⟩
  clear hv
  generalize w.drewN nq = w1 at *
  have hN : 0 < N := hpos
  have hNi : (0 : Int) < (N : Int) := by omega
  unfold maxLen at hc2
  go_wp2_with fail
  refine (kind_k X k _ hX hsz).mono ?_
  rintro e w' ⟨rfl, rfl⟩
  go_wp2_with fail
  go_ret
  exact ⟨rfl, HW.out⟩


set_option maxHeartbeats 1000000 in
set_option maxRecDepth 100000 in
theorem hlen_t (b base q c : Nat) (v1 v2 : Value) (W : List Nat) (F : List Bool) (i X k n N : Nat) (w : World) (h : HAt w b base q c v1 v2 W F) (hO : ObjAt W F i X k n N) (hF : F.length = W.length) (hW : W.length ≤ 1000000000) :
    Calls Tryd.prog 56 #[.pointer (some ⟨b, 0, none⟩), .int .u64 ((2 * i : Nat) : Int)] w fun e w' => e = .returned (.int .i64 (n : Int)) ∧ ∃ nq, w' = w.drewN nq := by
  have HO := Lib.hid (object_t b base q c v1 v2 W F i X k n N w h hO hF hW)
  have hpos := hO.pos
  have hX := hO.lt
  have hfit := hO.fits
  have hsz : Hid (X / 256 = n) := hO.size
  have hcell : ∀ g cap, v1 = .slice (some ⟨g, 0, none⟩) W.length cap → w.cell? ⟨g, i, none⟩ = some (.int .u64 (X : Int)) := by
    intro g cap e
    have o1 := h.own1
    rw [e] at o1
    rw [World.ownsRow.cellAt o1 i (by omega)]
    simp only [Ws, List.getElem?_map, hO.get]
    rfl
  have HC := Lib.hid hcell
  clear h hO hcell
  go_enter Tryd.func56, Tryd.ntmps56
  go_wp2_with fail
  refine HO.out.mono ?_
  rintro e w' ⟨g, cap, nq, hv, hc1, hc2, rfl, rfl⟩
  have hm := (below_drewN w.heap.size nq w).cell (p := ⟨g, i, none⟩) (World.block_lt_of_cell? w _ (HC.out g cap hv))
  rw [HC.out g cap hv] at hm
  have HW : Hid (∃ nq', w.drewN nq = w.drewN nq') := ⟨nq, rfl⟩
  clear hv
  generalize w.drewN nq = w1 at *
  have hN : 0 < N := hpos
  have hNi : (0 : Int) < (N : Int) := by omega
  unfold maxLen at hc2
  go_wp2_with fail
  refine (size_k X n _ hX hsz).mono ?_
  rintro e w' ⟨rfl, rfl⟩
  go_wp2_with fail
  go_ret
  exact ⟨rfl, HW.out⟩


def PartsPost (w w' : World) (v1 : Value) (W : List Nat) (i N : Nat) (e : Ending) : Prop :=
  ∃ g cap A K nq, v1 = .slice (some ⟨g, 0, none⟩) W.length cap ∧ (N - 1 = 0 ∨ A = ⟨g, i + 1, none⟩) ∧ N - 1 ≤ K ∧ K ≤ maxLen ∧ e = .returned (.slice (some A) (N - 1) K) ∧ w' = w.drewN nq


set_option maxHeartbeats 2000000 in
set_option maxRecDepth 100000 in
theorem parts_t (b base q c : Nat) (v1 v2 : Value) (W : List Nat) (F : List Bool) (i X k n N : Nat) (w : World) (h : HAt w b base q c v1 v2 W F) (hO : ObjAt W F i X k n N) (hF : F.length = W.length) (hW : W.length ≤ 1000000000) (hk3 : k ≠ 3) :
    Calls Tryd.prog 72 #[.pointer (some ⟨b, 0, none⟩), .int .u64 ((2 * i : Nat) : Int)] w fun e w' => PartsPost w w' v1 W i N e := by
  have hpos := hO.pos
  have hfit := hO.fits
  have hXlt := hO.lt
  have HO := Lib.hid (object_t b base q c v1 v2 W F i X k n N w h hO hF hW)
  have HK := Lib.hid hO.kind
  obtain ⟨g, cap, hv1, hcap, hmax⟩ : ∃ g cap, v1 = .slice (some ⟨g, 0, none⟩) W.length cap ∧ W.length ≤ cap ∧ cap ≤ maxLen := by
    rcases h.own1.2 with ⟨_, hn⟩ | ⟨g, cap, cur, e, _, _, hc, hm, _⟩
    · omega
    · exact ⟨g, cap, e, hc, hm⟩
  have own1 := h.own1
  rw [hv1] at own1
  have hm : w.cell? ⟨g, i, none⟩ = some (.int .u64 (X : Int)) := by
    rw [own1.cellAt i (by omega)]
    simp [Ws, hO.get, Wv]
  have hgl := (own1.lt g rfl).2
  have HV := Lib.hid hv1
  clear h hO own1 hv1
  have hX' : (X : Int) ≤ 18446744073709551615 := by omega
  have hNz : ((N : Int) == 0) = false := by rw [beq_eq_false_iff_ne]; omega
  have hNp : 0 < N := by omega
  have hNi : (1 : Int) ≤ (N : Int) := by omega
  have hk' : ((k : Int) == 3) = false := by rw [beq_eq_false_iff_ne]; omega
  unfold maxLen at hmax
  have fin1 : ∀ nq, cap - i = 1 → PartsPost w (w.drewN nq) v1 W i N (.returned (.slice (some ⟨g, i, none⟩) 0 0)) := fun nq h1 => ⟨g, cap, ⟨g, i, none⟩, 0, nq, HV.out, .inl (by omega), by omega, Nat.zero_le _, by rw [show N - 1 = 0 by omega], rfl⟩
  have fin2 : ∀ nq, PartsPost w (w.drewN nq) v1 W i N (.returned (.slice (some ⟨g, i + 1, none⟩) (N - 1) (cap - i - 1))) := fun nq => ⟨g, cap, _, _, nq, HV.out, .inr rfl, by omega, by unfold maxLen; omega, rfl, rfl⟩
  have FIN1 := Lib.hid fin1
  have FIN2 := Lib.hid fin2
  clear fin1 fin2 hk3
  by_cases hc1 : cap - i = 1
  · obtain rfl : N = 1 := by omega
    have HC1 : Hid (cap - i = 1) := hc1
    go_enter Tryd.func72, Tryd.ntmps72
    go_wp2_with fail
    refine HO.out.mono ?_
    rintro e w' ⟨g', cap', nq, hv, -, -, rfl, rfl⟩
    rw [HV.out] at hv
    simp only [Value.slice.injEq, Option.some.injEq, Addr.mk.injEq, and_true] at hv
    obtain ⟨rfl, -, rfl⟩ := hv
    have hmq := ((below_drewN w.heap.size nq w).cell (p := ⟨g, i, none⟩) hgl).trans hm
    go_wp2_with fail
    refine (kind_k X k _ hXlt HK).mono ?_
    rintro e w' ⟨rfl, rfl⟩
    go_wp2_with fail
    go_ret
    exact FIN1.out nq HC1.out
  · go_enter Tryd.func72, Tryd.ntmps72
    go_wp2_with fail
    refine HO.out.mono ?_
    rintro e w' ⟨g', cap', nq, hv, -, -, rfl, rfl⟩
    rw [HV.out] at hv
    simp only [Value.slice.injEq, Option.some.injEq, Addr.mk.injEq, and_true] at hv
    obtain ⟨rfl, -, rfl⟩ := hv
    have hmq := ((below_drewN w.heap.size nq w).cell (p := ⟨g, i, none⟩) hgl).trans hm
    go_wp2_with fail
    refine (kind_k X k _ hXlt HK).mono ?_
    rintro e w' ⟨rfl, rfl⟩
    go_wp2_with fail
    go_ret
    exact FIN2.out nq

theorem ObjAt.left {W : List Nat} {F : List Bool} {i X k n N : Nat} (h : ObjAt W F i X k n N) (R : List Nat) (FR : List Bool) : ObjAt (W ++ R) (F ++ FR) i X k n N := by
  have h1 := (List.getElem?_eq_some_iff.1 h.mark).1
  have h2 := (List.getElem?_eq_some_iff.1 h.get).1
  exact ⟨by rw [List.getElem?_append_left h1]; exact h.mark, by rw [List.getElem?_append_left h2]; exact h.get, h.lt, h.kind, h.size, h.need, by rw [List.length_append]; have := h.fits; omega⟩
theorem txt_left (W R : List Nat) (i n : Nat) (h : i + need 3 n ≤ W.length) : txt (W ++ R) i n = txt W i n := by
  unfold txt
  apply List.map_congr_left
  intro j hj
  have hj := List.mem_range.1 hj
  have hn : need 3 n = 1 + (n + 7) / 8 := rfl
  rw [List.getD_eq_getElem?_getD, List.getD_eq_getElem?_getD, List.getElem?_append_left (by omega)]
theorem Rep.left {W : List Nat} {F : List Bool} {v : V} (h : Rep W F v) (R : List Nat) (FR : List Bool) : Rep (W ++ R) (F ++ FR) v := by
  cases v with
  | num n => exact h
  | txt i l => exact ⟨h.1.left _ _, by rw [txt_left _ _ _ _ h.1.fits]; exact h.2.1, h.2.2⟩
  | fn i f => exact ⟨h.1.left _ _, by rw [List.getElem?_append_left (List.getElem?_eq_some_iff.1 h.2.1).1]; exact h.2.1, h.2.2⟩
  | prim i p => exact ⟨h.1.left _ _, by rw [List.getElem?_append_left (List.getElem?_eq_some_iff.1 h.2.1).1]; exact h.2.1, h.2.2⟩
theorem rep_txt {W : List Nat} {F : List Bool} {l : List UInt8} (hF : F.length = W.length) (hl : l.length ≤ 1000000) : Rep (W ++ (l.length * 256 + 3) :: pk l) (F ++ true :: List.replicate (nw l.length) false) (.txt W.length l) := by
  have h1 := objAt_put W [] F [] l hF hl
  have h2 := txt_put W [] (l.length * 256 + 3) l
  rw [List.append_nil, List.append_nil] at h1
  rw [List.append_nil] at h2
  exact ⟨h1, h2, hl⟩
theorem numW_lt (n : Int) : numW n < 18446744073709551616 := by unfold numW; omega
theorem rep_fn {W : List Nat} {F : List Bool} {f : Nat} (hF : F.length = W.length) (hf : f ≤ 1000000) : Rep (W ++ [261, numW f]) (F ++ [true, false]) (.fn W.length f) := by
  refine ⟨⟨by rw [← hF, List.getElem?_append_right (Nat.le_refl _)]; simp, by rw [List.getElem?_append_right (Nat.le_refl _)]; simp, by decide, by decide, by decide, rfl, by simp⟩, ?_, hf⟩
  rw [List.getElem?_append_right (by omega), show W.length + 1 - W.length = 1 by omega]
  rfl
theorem num_word (n : Int) : (2 * n + 1) % 18446744073709551616 = ((V.num (cut n)).word : Int) := by
  show _ = (((2 * cut n + 1) % 18446744073709551616).toNat : Int)
  unfold cut
  omega
theorem word_N {n : Int} (h1 : -4611686018427387904 ≤ n) (h2 : n < 4611686018427387904) : wrap64 ((V.num n).word : Int) / 2 = n := by
  show wrap64 (((2 * n + 1) % 18446744073709551616).toNat : Int) / 2 = n
  unfold wrap64
  omega
theorem cut_rep (n : Int) : -4611686018427387904 ≤ cut n ∧ cut n < 4611686018427387904 := by unfold cut; omega
theorem cut_id {n : Int} (h1 : -4611686018427387904 ≤ n) (h2 : n < 4611686018427387904) : cut n = n := by unfold cut; omega
theorem word_lt {W : List Nat} {F : List Bool} {v : V} (h : Rep W F v) (hW : W.length ≤ 1048576) : v.word < 18446744073709551616 := by
  cases v with
  | num n => show ((2 * n + 1) % 18446744073709551616).toNat < _; omega
  | txt i l => have := h.1.fits; have := h.1.pos; show 2 * i < _; omega
  | fn i f => have := h.1.fits; show 2 * i < _; omega
  | prim i p => have := h.1.fits; show 2 * i < _; omega
theorem word_odd (v : V) : (v.word % 2 == 1) = v.isNum := by
  cases v with
  | num n =>
    show (((2 * n + 1) % 18446744073709551616).toNat % 2 == 1) = true
    rw [beq_iff_eq]; omega
  | txt i l => show (2 * i % 2 == 1) = false; rw [beq_eq_false_iff_ne]; omega
  | fn i f => show (2 * i % 2 == 1) = false; rw [beq_eq_false_iff_ne]; omega
  | prim i p => show (2 * i % 2 == 1) = false; rw [beq_eq_false_iff_ne]; omega
theorem num_inj {x y : Int} (h1 : -4611686018427387904 ≤ x ∧ x < 4611686018427387904) (h2 : -4611686018427387904 ≤ y ∧ y < 4611686018427387904) : ((V.num x).word = (V.num y).word) ↔ x = y := by
  show (((2 * x + 1) % 18446744073709551616).toNat = ((2 * y + 1) % 18446744073709551616).toNat) ↔ _
  constructor
  · intro h; omega
  · rintro rfl; rfl

theorem isnum_v (v : V) (x : Nat) (w : World) (hx : Hid (v.word = x)) (hlt : x < 18446744073709551616) :
    Calls Tryd.prog 52 #[.int .u64 (x : Int)] w fun e w' => e = .returned (.bool v.isNum) ∧ w = w' := by
  have h := isnum_t x w hlt
  rw [← hx.out, word_odd] at h
  rw [← hx.out]
  exact h
theorem n_v (n : Int) (x : Nat) (w : World) (hx : Hid ((V.num n).word = x)) (h1 : -4611686018427387904 ≤ n) (h2 : n < 4611686018427387904) :
    Calls Tryd.prog 55 #[.int .u64 (x : Int)] w fun e w' => e = .returned (.int .i64 n) ∧ w = w' := by
  have h := n_t x w (by rw [← hx.out]; show ((2 * n + 1) % 18446744073709551616).toNat < _; omega)
  rw [← hx.out, word_N h1 h2] at h
  rw [← hx.out]
  exact h
theorem num_v (n : Int) (w : World) : Calls Tryd.prog 7 #[.int .i64 n] w fun e w' => e = .returned (.int .u64 ((V.num (cut n)).word : Int)) ∧ w = w' := by
  rw [← num_word]
  exact num_t n w

def Ma.V.kind : V → Nat
  | .num _ => 0
  | .txt _ _ => 3
  | .fn _ _ => 5
  | .prim _ _ => 6
def Ma.V.size : V → Nat
  | .num _ => 0
  | .txt _ l => l.length
  | .fn _ _ => 1
  | .prim _ _ => 1

theorem object_no (b base q c : Nat) (v1 v2 : Value) (W : List Nat) (F : List Bool) (x : Nat) (w : World) (h : HAt w b base q c v1 v2 W F) (hx : x < 18446744073709551616) (ho : isObj W F x = false) (hF : F.length = W.length) (hW : W.length ≤ 1000000000) :
    Calls Tryd.prog 73 #[.pointer (some ⟨b, 0, none⟩), .int .u64 (x : Int)] w fun e w' => e = .returned (.slice none 0 0) ∧ w = w' := by
  have HO := isobject_t b base q c v1 v2 W F x w h hx hF hW
  rw [ho] at HO
  have HO := Lib.hid HO
  clear h ho
  go_enter Tryd.func73, Tryd.ntmps73
  go_wp2_with fail
  refine HO.out.mono ?_
  rintro e w' ⟨rfl, rfl⟩
  go_wp2
  go_ret
  exact ⟨rfl, rfl⟩

section
variable {b base q c : Nat} {v1 v2 : Value} {W : List Nat} {F : List Bool} {v : V} {x : Nat}
theorem num_noobj (n : Int) (W : List Nat) (F : List Bool) : isObj W F (V.num n).word = false := isObj_no (.inl (by show ((2 * n + 1) % 18446744073709551616).toNat % 2 = 1; omega))

theorem kind_v (w : World) (h : HAt w b base q c v1 v2 W F) (hF : F.length = W.length) (hW : W.length ≤ 1048576) (hr : Rep W F v) (hx : Hid (v.word = x)) :
    Calls Tryd.prog 54 #[.pointer (some ⟨b, 0, none⟩), .int .u64 (x : Int)] w fun e w' => e = .returned (.int .u8 (v.kind : Int)) ∧ ∃ nq, w' = w.drewN nq := by
  rw [← hx.out]
  cases v with
  | num n =>
    have HO := Lib.hid (object_no b base q c v1 v2 W F (V.num n).word w h (word_lt hr hW) (num_noobj n W F) hF (by omega))
    clear h hr hx
    generalize (V.num n).word = x at *
    go_enter Tryd.func54, Tryd.ntmps54
    go_wp2_with fail
    refine HO.out.mono ?_
    rintro e w' ⟨rfl, rfl⟩
    go_wp2
    go_ret
    exact ⟨rfl, 0, rfl⟩
  | txt i l => exact hkind_t b base q c v1 v2 W F i _ _ _ _ w h hr.1 hF (by omega)
  | fn i f => exact hkind_t b base q c v1 v2 W F i _ _ _ _ w h hr.1 hF (by omega)
  | prim i p => exact hkind_t b base q c v1 v2 W F i _ _ _ _ w h hr.1 hF (by omega)
theorem len_v (w : World) (h : HAt w b base q c v1 v2 W F) (hF : F.length = W.length) (hW : W.length ≤ 1048576) (hr : Rep W F v) (hx : Hid (v.word = x)) (hn : v.isNum = false) :
    Calls Tryd.prog 56 #[.pointer (some ⟨b, 0, none⟩), .int .u64 (x : Int)] w fun e w' => e = .returned (.int .i64 (v.size : Int)) ∧ ∃ nq, w' = w.drewN nq := by
  rw [← hx.out]
  cases v with
  | num n => cases hn
  | txt i l => exact hlen_t b base q c v1 v2 W F i _ _ _ _ w h hr.1 hF (by omega)
  | fn i f => exact hlen_t b base q c v1 v2 W F i _ _ _ _ w h hr.1 hF (by omega)
  | prim i p => exact hlen_t b base q c v1 v2 W F i _ _ _ _ w h hr.1 hF (by omega)
theorem text_v (w : World) {i : Nat} {l : List UInt8} (h : HAt w b base q c v1 v2 W F) (hF : F.length = W.length) (hW : W.length ≤ 1048576) (hlt : ∀ x ∈ W, x < 18446744073709551616) (hr : Rep W F (.txt i l)) (hx : Hid ((V.txt i l).word = x)) :
    Calls Tryd.prog 59 #[.pointer (some ⟨b, 0, none⟩), .int .u64 (x : Int)] w fun e w' => e = .returned (S l) ∧ Below w.heap.size w w' := by
  rw [← hx.out]
  have h1 := text_t b base q c v1 v2 W F i _ _ _ w h hr.1 hF (by omega) hlt
  rw [hr.2.1] at h1
  exact h1

set_option maxHeartbeats 1000000 in
set_option maxRecDepth 100000 in
theorem part_ob (w : World) {i X k y : Nat} (h : HAt w b base q c v1 v2 W F) (hF : F.length = W.length) (hW : W.length ≤ 1048576) (hO : ObjAt W F i X k 1 2) (hk : k ≠ 3) (hy : W[i + 1]? = some y) :
    Calls Tryd.prog 51 #[.pointer (some ⟨b, 0, none⟩), .int .u64 ((2 * i : Nat) : Int), .int .i64 0] w fun e w' => e = .returned (.tuple #[.int .u64 (y : Int), .int .i64 0]) ∧ ∃ nq, w' = w.drewN nq := by
  have HP := Lib.hid (parts_t b base q c v1 v2 W F i X k 1 2 w h hO hF (by omega) hk)
  have hcell : ∀ g cap, v1 = .slice (some ⟨g, 0, none⟩) W.length cap → w.cell? ⟨g, i + 1, none⟩ = some (.int .u64 (y : Int)) := by
    intro g cap e
    have o1 := h.own1
    rw [e] at o1
    rw [World.ownsRow.cellAt o1 _ (by have := hO.fits; omega)]
    simp only [Ws, List.getElem?_map, hy]
    rfl
  have HC := Lib.hid hcell
  clear h hO hcell hy
  go_enter Tryd.func51, Tryd.ntmps51
  go_wp2_with fail
  refine HP.out.mono ?_
  rintro e w' ⟨g, cap, A, K, nq, hv, hA, hK, hKm, rfl, rfl⟩
  rcases hA with hA | rfl
  · omega
  have hc0 := HC.out g cap hv
  have hm := (below_drewN w.heap.size nq w).cell (p := ⟨g, i + 1, none⟩) (World.block_lt_of_cell? w _ hc0)
  rw [hc0] at hm
  have HW : Hid (∃ nq', w.drewN nq = w.drewN nq') := ⟨nq, rfl⟩
  clear hv hc0
  generalize w.drewN nq = w1 at *
  unfold maxLen at hKm
  go_wp2_with fail
  go_ret2
  exact ⟨rfl, HW.out⟩
end
end Go.Proofs.YtpmbdncackneoaaDoor
