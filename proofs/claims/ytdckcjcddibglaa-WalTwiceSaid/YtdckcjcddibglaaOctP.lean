/- The reader: Int, Upto, Bytes, Text, End; NewReader. -/
import Derived.Test.YtdckcjcddibglaaOctQ
namespace Go.Proofs.Ytdckcjcddibglaa
open Go.RowKit OctM

theorem Rg.below {ptr : Option Addr} {w w' : World} {v : Value} {l : List UInt8} (h : Rg ptr w v l) (hb : Below w.heap.size w w') : Rg ptr w' v l := by
  rcases h with h | ⟨g, off, c, hv, ho, hl, hm, hc⟩
  · exact .inl h
  · exact .inr ⟨g, off, c, hv, ho, hl, hm, fun j u hu => (hb.cell (World.block_lt_of_cell? w _ (hc j u hu))).trans (hc j u hu)⟩
theorem RS.below {ptr : Option Addr} {w w' : World} {s : Option (List UInt8)} (h : RS w ptr s) (hb : Below w.heap.size w w') : RS w' ptr s := by
  cases h with
  | nil => exact .nil
  | bad b v l hc hr => exact .bad b v l ((hb.block b (lt_of_block hc)).trans hc) (hr.below hb)
  | good b v l hc hr => exact .good b v l ((hb.block b (lt_of_block hc)).trans hc) (hr.below hb)

theorem uintS_lt (s : Option (List UInt8)) : (uintS s).1 < 18446744073709551616 := by
  unfold uintS
  split
  · simp
  · next h1 =>
    have h2 := takeS_len (sizeS s).2 (sizeS s).1
    have h3 := sizeS_le s
    rw [h1] at h2
    split
    · simp
    · exact be_lt8 _ (by simp at h2 ⊢; omega)

theorem i64_not (x : Nat) (h : x < 9223372036854775808) : bits .xor .i64 (x : Int) (-1) = -(x : Int) - 1 := by
  show IntKind.i64.wrap ((BitVec.ofInt 64 (x : Int) ^^^ BitVec.ofInt 64 (-1)).toNat : Int) = _
  have e1 : (BitVec.ofInt 64 (x : Int)).toNat = x := ofInt_u64 x (by omega)
  have e2 : (BitVec.ofInt 64 (-1)).toNat = 2 ^ 64 - 1 := by decide
  rw [BitVec.toNat_xor, e1, e2, xor_ones 64 x (by omega), IntKind.wrap_i64]
  omega

theorem i64_zero (x : Nat) (h : x < 9223372036854775808) : bits .xor .i64 (x : Int) 0 = (x : Int) := by
  show IntKind.i64.wrap ((BitVec.ofInt 64 (x : Int) ^^^ BitVec.ofInt 64 0).toNat : Int) = _
  have e1 : (BitVec.ofInt 64 (x : Int)).toNat = x := ofInt_u64 x (by omega)
  have e2 : (BitVec.ofInt 64 0).toNat = 0 := by decide
  rw [BitVec.toNat_xor, e1, e2, Nat.xor_zero, IntKind.wrap_i64]
  omega

theorem unzig_xor (n : Nat) (h : n < 18446744073709551616) : bits .xor .i64 ((n : Int) / 2) (wrap64 (-wrap64 (bits .and .u64 (n : Int) 1))) = unzig n := by
  have e1 : bits .and .u64 (n : Int) 1 = ((n % 2 : Nat) : Int) := by
    rw [show (1 : Int) = ((1 : Nat) : Int) from rfl, u64_and_nat n 1 (by omega) (by omega), nat_mask1]
  have e3 : (n : Int) / 2 = ((n / 2 : Nat) : Int) := by omega
  rw [e1, e3]
  unfold unzig
  rcases Nat.mod_two_eq_zero_or_one n with e | e
  · rw [e]
    have e2 : wrap64 (-wrap64 ((0 : Nat) : Int)) = 0 := by unfold wrap64; omega
    rw [e2, i64_zero _ (by omega), if_neg (by omega)]
  · rw [e]
    have e2 : wrap64 (-wrap64 ((1 : Nat) : Int)) = -1 := by unfold wrap64; omega
    rw [e2, i64_not _ (by omega), if_pos rfl]

set_option maxHeartbeats 2000000 in
set_option maxRecDepth 100000 in
theorem rint (ptr : Option Addr) (s : Option (List UInt8)) (w : World) (h : RS w ptr s) :
    Calls Try.prog 58 #[.pointer ptr] w fun e w' => NPost ptr w w' .i64 (unzig (uintS s).1) (uintS s).2 e := by
  have H := Lib.hid (ruint ptr s w h)
  have hlt := uintS_lt s
  have HX := Lib.hid (unzig_xor _ hlt)
  have h0 : (0 : Int) ≤ ((uintS s).1 : Int) := by omega
  have h1 : ((uintS s).1 : Int) < 18446744073709551616 := by omega
  clear hlt
  go_enter Try.func58, Try.ntmps58
  go_wp2_with fail
  refine H.out.mono ?_
  rintro e w1 ⟨rfl, hs1, hk1⟩
  go_wp2_with fail
  go_ret
  exact ⟨by rw [← HX.out]; rfl, hs1, hk1⟩

/-- The next number, at most that. -/
def uptoS (s : Option (List UInt8)) (most : Int) : Nat × Option (List UInt8) :=
  if most < 0 ∨ most < ((uintS s).1 : Int) then (0, none) else uintS s

set_option maxHeartbeats 2000000 in
set_option maxRecDepth 100000 in
theorem rupto (ptr : Option Addr) (s : Option (List UInt8)) (most : Int) (w : World) (h : RS w ptr s) (m0 : -9223372036854775808 ≤ most) (m1 : most ≤ 9223372036854775807) :
    Calls Try.prog 49 #[.pointer ptr, .int .i64 most] w fun e w' => NPost ptr w w' .i64 (uptoS s most).1 (uptoS s most).2 e := by
  have H := Lib.hid (ruint ptr s w h)
  have hlt := uintS_lt s
  have h0 : (0 : Int) ≤ ((uintS s).1 : Int) := by omega
  have h1 : ((uintS s).1 : Int) < 18446744073709551616 := by omega
  clear hlt
  rcases Int.lt_or_le most 0 with hm | hm
  · have HU : Hid (uptoS s most = (0, none)) := if_pos (.inl hm)
    go_enter Try.func49, Try.ntmps49
    go_wp2_with fail
    refine H.out.mono ?_
    rintro e w1 ⟨rfl, hs1, hk1⟩
    have H2 := Lib.hid (rfail ptr _ w1 hs1)
    go_wp2_with fail
    refine H2.out.mono ?_
    rintro e w2 ⟨rfl, h3, h4⟩
    go_wp2_with fail
    go_ret
    rw [HU.out]
    exact ⟨rfl, h3, hk1.trans h4⟩
  · rcases Int.lt_or_le most ((uintS s).1 : Int) with hn | hn
    · have HU : Hid (uptoS s most = (0, none)) := if_pos (.inr hn)
      have hd : decide (most < ((uintS s).1 : Int)) = true := by simp; omega
      have hd0 : decide (most < 0) = false := by simp; omega
      go_enter Try.func49, Try.ntmps49
      go_wp2_with fail
      refine H.out.mono ?_
      rintro e w1 ⟨rfl, hs1, hk1⟩
      have H2 := Lib.hid (rfail ptr _ w1 hs1)
      go_wp2_with fail
      refine H2.out.mono ?_
      rintro e w2 ⟨rfl, h3, h4⟩
      go_wp2_with fail
      go_ret
      rw [HU.out]
      exact ⟨rfl, h3, hk1.trans h4⟩
    · have HU : Hid (uptoS s most = uintS s) := if_neg (by omega)
      have hd : decide (most < ((uintS s).1 : Int)) = false := by simp; omega
      have hd0 : decide (most < 0) = false := by simp; omega
      go_enter Try.func49, Try.ntmps49
      go_wp2_with fail
      refine H.out.mono ?_
      rintro e w1 ⟨rfl, hs1, hk1⟩
      go_wp2_with fail
      go_ret
      rw [HU.out]
      exact ⟨rfl, hs1, hk1⟩

theorem uptoS_le (s : Option (List UInt8)) (most : Int) (h : most ≤ 9223372036854775807) : (uptoS s most).1 ≤ 9223372036854775807 := by
  unfold uptoS
  split
  · exact Nat.zero_le _
  · next h1 => omega

/-- The next bytes, at most so many. -/
def bytesS (s : Option (List UInt8)) (most : Int) : List UInt8 × Option (List UInt8) := takeS (uptoS s most).2 (uptoS s most).1

set_option maxHeartbeats 2000000 in
set_option maxRecDepth 100000 in
theorem rbytes (ptr : Option Addr) (s : Option (List UInt8)) (most : Int) (w : World) (h : RS w ptr s) (m0 : -9223372036854775808 ≤ most) (m1 : most ≤ 9223372036854775807) (hlen : (bytesS s most).1.length ≤ 140737488355328) :
    Calls Try.prog 53 #[.pointer ptr, .int .i64 most] w fun e w' => ∃ v, e = .returned v ∧ Own w' w.heap.size v (bytesS s most).1 ∧ RS w' ptr (bytesS s most).2 ∧ Kept (own1 ptr) w w' := by
  have H := Lib.hid (rupto ptr s most w h m0 m1)
  have hle := uptoS_le s most m1
  have HL := Lib.hid hlen
  clear hlen
  go_enter Try.func53, Try.ntmps53
  go_wp2_with fail
  refine H.out.mono ?_
  rintro e w1 ⟨rfl, hs1, hk1⟩
  have H1 := Lib.hid (rtake ptr _ (uptoS s most).1 w1 hs1 (by omega) (by omega))
  clear hs1 hle
  go_wp2_with fail
  refine H1.out.mono ?_
  rintro e w2 ⟨⟨v, rfl, hg⟩, hs2, hk2⟩
  rw [Int.toNat_natCast] at hg hs2
  have H2 := Lib.hid (clone v (bytesS s most).1 w2 hg.rd HL.out)
  go_wp2_with fail
  refine H2.out.mono ?_
  rintro e w3 ⟨v3, rfl, h3, hb3⟩
  go_wp2_with fail
  go_ret
  have hk := hk1.trans hk2
  exact ⟨v3, rfl, own_base h3 hk.size, hs2.below hb3, hk.trans (Below.kept hb3 fun k h1 h2 => absurd h2 (by omega))⟩

set_option maxHeartbeats 2000000 in
set_option maxRecDepth 100000 in
theorem rend (ptr : Option Addr) (s : Option (List UInt8)) (w : World) (h : RS w ptr s) :
    Calls Try.prog 41 #[.pointer ptr] w fun e w' => e = .returned (.bool (s == some [])) ∧ w = w' := by
  have H := Lib.hid (rbad ptr s w h)
  cases h with
  | nil =>
    go_enter Try.func41, Try.ntmps41
    go_wp2_with fail
    refine H.out.mono ?_
    rintro e w' ⟨rfl, rfl⟩
    go_wp2_with fail
    go_ret
    exact ⟨rfl, rfl⟩
  | bad b v l hc hr =>
    clear hc hr
    go_enter Try.func41, Try.ntmps41
    go_wp2_with fail
    refine H.out.mono ?_
    rintro e w' ⟨rfl, rfl⟩
    go_wp2_with fail
    go_ret
    exact ⟨rfl, rfl⟩
  | good b v l hc hr =>
    have c0 := cell0_of_two hc
    rcases hr.parts with ⟨rfl, o, c, rfl⟩ | ⟨x, t, g, off, c, rfl, rfl, ho, hl, hm, hcell⟩
    · clear hc hr
      go_enter Try.func41, Try.ntmps41
      go_wp2_with fail
      refine H.out.mono ?_
      rintro e w' ⟨rfl, rfl⟩
      go_wp2_with fail
      go_ret
      exact ⟨rfl, rfl⟩
    · clear hc hr hcell ho
      have hd : (((t.length : Int) + 1) == 0) = false := by simp; omega
      go_enter Try.func41, Try.ntmps41
      go_wp2_with fail
      refine H.out.mono ?_
      rintro e w' ⟨rfl, rfl⟩
      go_wp2_with fail
      go_ret
      exact ⟨rfl, rfl⟩

set_option maxHeartbeats 2000000 in
set_option maxRecDepth 100000 in
theorem newReader (v : Value) (l : List UInt8) (w : World) (h : Rd w v l) (hl : l.length ≤ 140737488355328) :
    Calls Try.prog 38 #[v] w fun e w' => ∃ b, e = .returned (.pointer (some ⟨b, 0, none⟩)) ∧ RS w' (some ⟨b, 0, none⟩) (some l) ∧ Below w.heap.size w w' ∧ w.heap.size ≤ b := by
  have H := Lib.hid (clone v l w h hl)
  go_enter Try.func38, Try.ntmps38
  go_wp2_with fail
  refine H.out.mono ?_
  rintro e w1 ⟨v1, rfl, h1, hb1⟩
  have hs := hb1.size
  have fin : RS (w1.alloc (.cells #[v1, .bool false] 97)) (some ⟨w1.heap.size, 0, none⟩) (some l) := by
    refine .good _ v1 l (heap_alloc_new w1 _) ?_
    have hlt := h1.lt
    rcases h1.2 with ⟨rfl, hn⟩ | ⟨g, cap, cur, rfl, _, hg, hn, hm, _⟩
    · exact .inl ⟨rfl, List.eq_nil_of_length_eq_zero hn⟩
    · refine .inr ⟨g, 0, cap, rfl, ?_, hn, hm, fun j u hu => ?_⟩
      · rintro a ha
        cases ha
        have := (hlt g rfl).2
        simp
        omega
      · have := World.ownsRow.cells h1 (g := g) rfl j (B u) (by simp [Bs, hu])
        rw [add_none] at this
        exact cell_alloc this _
  have HF := Lib.hid fin
  obtain ⟨o, n, c, rfl⟩ : ∃ o n c, v1 = .slice o n c := by
    rcases h1.2 with ⟨rfl, _⟩ | ⟨g, cap, cur, rfl, _⟩
    · exact ⟨_, _, _, rfl⟩
    · exact ⟨_, _, _, rfl⟩
  clear fin h1
  go_wp2_with fail
  go_ret
  exact ⟨_, rfl, HF.out, hb1.alloc (by omega) _, hs⟩
end Go.Proofs.Ytdckcjcddibglaa
