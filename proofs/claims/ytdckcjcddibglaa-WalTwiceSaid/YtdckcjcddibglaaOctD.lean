/- Clone, the writer's Done and Int. -/
import Derived.Test.YtdckcjcddibglaaOctU
namespace Go.Proofs.Ytdckcjcddibglaa
open Go.RowKit OctM

/-- A slice that reads as the bytes l: nil, or at an address. -/
def Rd (w : World) (v : Value) (l : List UInt8) : Prop :=
  (v = .slice none 0 0 ∧ l = []) ∨
  ∃ a c, v = .slice (some a) l.length c ∧ l.length ≤ c ∧ c ≤ maxLen ∧ ∀ j u, l[j]? = some u → w.cell? (a.add j) = some (B u)

theorem add_none (b o j : Nat) : (⟨b, o, none⟩ : Addr).add j = ⟨b, o + j, none⟩ := by
  unfold Addr.add; split <;> simp_all

theorem Rd.of_own {w : World} {base : Nat} {v : Value} {l : List UInt8} (h : Own w base v l) : Rd w v l := by
  have hc := h
  rcases h.2 with ⟨rfl, hn⟩ | ⟨g, cap, cur, rfl, _, hg, hn, hm, _⟩
  · exact .inl ⟨rfl, List.eq_nil_of_length_eq_zero hn⟩
  · refine .inr ⟨_, _, rfl, hn, hm, fun j u hu => ?_⟩
    exact World.ownsRow.cells hc rfl j (B u) (by simp [Bs, hu])

/-- What holds of the cells of a reading in a world holds in one that has them. -/
theorem Rd.same {w w' : World} {v : Value} {l : List UInt8} (h : Rd w v l) (hs : ∀ p : Addr, p.block < w.heap.size → w'.cell? p = w.cell? p) : Rd w' v l := by
  rcases h with h | ⟨a, c, hv, hl, hm, hc⟩
  · exact .inl h
  · exact .inr ⟨a, c, hv, hl, hm, fun j u hu => (hs _ (World.block_lt_of_cell? w _ (hc j u hu))).trans (hc j u hu)⟩
theorem Rd.below {w w' : World} {v : Value} {l : List UInt8} (h : Rd w v l) (hb : Below w.heap.size w w') : Rd w' v l := h.same fun _ hp => hb.cell hp

theorem own_base {w : World} {b b' : Nat} {e : TypeId} {size : Nat} {v : Value} {n : Nat} {xs : List Value} (h : w.ownsRow b e size v n xs) (hb : b' ≤ b) : w.ownsRow b' e size v n xs := by
  refine ⟨h.1, ?_⟩
  rcases h.2 with hn | ⟨g, cap, cur, rfl, hg, rest⟩
  · exact .inl hn
  · exact .inr ⟨g, cap, cur, rfl, by omega, rest⟩

theorem cell_alloc {w : World} {p : Addr} {v : Value} (h : w.cell? p = some v) (o : Obj) : (w.alloc o).cell? p = some v :=
  (World.cell?_of_block (Below.heap_alloc w o p.block (World.block_lt_of_cell? w p h))).trans h

theorem eqNil : ∀ (w : World) (a : Option Addr) (n c n' c' : Nat), (binOp .eql 22 (.slice a n c) (.slice none n' c')).run Try.prog w = .ok (.bool a.isNone) w :=
  fun w a n c n' c' => Lib.run_eql_slice_nil w _ _ a n c n' c' Try.underlying22

set_option maxHeartbeats 2000000 in
set_option maxRecDepth 100000 in
theorem clone (v : Value) (l : List UInt8) (w : World) (h : Rd w v l) (hl : l.length ≤ 140737488355328) :
    Calls Try.prog 46 #[v] w fun e w' => ∃ v', e = .returned v' ∧ Own w' w.heap.size v' l ∧ Below w.heap.size w w' := by
  have q := eqNil
  rcases h with ⟨rfl, rfl⟩ | ⟨a, c, rfl, hn, hm, hc⟩
  · go_enter Try.func46, Try.ntmps46
    go_wp2
    go_ret
    exact ⟨_, rfl, World.ownsRow_nil _ _ _ _, Below.refl _ _⟩
  · obtain ⟨i0, hi0, hz0, hz1, hz2⟩ := info_parts u8info
    have Hc := Lib.hid hc
    clear hc
    go_enter Try.func46, Try.ntmps46
    go_wp2_with (
      at_builtin
      refine wpList_append_own _ rfl _ _ 22 rfl w.heap.size 5 i0 (.int .u8 0) 1 1 Try.underlying22 hi0 hz0 hz1 hz2 rfl (by decide) _ _ _ rfl (World.ownsRow_made w #[] 0 (Nat.le_refl _) (Nat.zero_le _) rfl) a l.length c (Bs l) rfl ?qc1 ?qc2 ?qc3 ?qc4 ?qc5 ?qc6 ?_)
    case qc1 => simp [Bs_length]
    case qc2 =>
      intro j u hj
      obtain ⟨b, hb, rfl⟩ : ∃ b, l[j]? = some b ∧ B b = u := by simpa [Bs] using hj
      exact cell_alloc (Hc.out j b hb) _
    case qc3 => exact Bs_one l
    case qc4 => unfold maxLen; omega
    case qc5 => omega
    case qc6 => simp
    intro v' w1 hown hgrow _
    go_wp2
    go_ret
    refine ⟨v', rfl, by simpa using hown, ?_⟩
    exact ((Below.refl _ w).alloc (Nat.le_refl _) _).grown hgrow (by simp) (by intro k hk; simp [Value.ownBlock] at hk; omega)

set_option maxHeartbeats 2000000 in
set_option maxRecDepth 100000 in
theorem wdone (b base : Nat) (v : Value) (l : List UInt8) (w : World) (hw : WAt w b base v l) (hl : l.length ≤ 140737488355328) :
    Calls Try.prog 36 #[.pointer (some ⟨b, 0, none⟩)] w fun e w' => ∃ v', e = .returned v' ∧ Own w' w.heap.size v' l ∧ Below w.heap.size w w' := by
  have hc := cell_of_one hw.cell
  have hr := Rd.of_own hw.own
  have h1 : ∀ W : World, W = w → Calls Try.prog 46 #[v] W fun e w' => ∃ v', e = .returned v' ∧ Own w' w.heap.size v' l ∧ Below w.heap.size w w' := by
    rintro _ rfl
    exact clone v l _ hr hl
  have H1 := Lib.hid h1
  clear h1 hr
  go_enter Try.func36, Try.ntmps36
  go_wp2_with fail
  refine (H1.out _ rfl).mono ?_
  rintro e w1 ⟨v', rfl, h2, h3⟩
  go_wp2_with fail
  go_ret
  exact ⟨v', rfl, h2, h3⟩

theorem zig_xor (n : Int) (h0 : -9223372036854775808 ≤ n) (h1 : n ≤ 9223372036854775807) :
    bits .xor .u64 (IntKind.u64.wrap (IntKind.u64.wrap n * 2)) (IntKind.u64.wrap (n / 9223372036854775808)) = (zig n : Int) := by
  simp only [IntKind.wrap_u64]
  rcases Int.lt_or_le n 0 with hn | hn
  · have e1 : n / 9223372036854775808 % 18446744073709551616 = 18446744073709551615 := by omega
    have e2 : n % 18446744073709551616 * 2 % 18446744073709551616 = ((18446744073709551616 + 2 * n).toNat : Int) := by omega
    have hx := xor_ones 64 (18446744073709551616 + 2 * n).toNat (by omega)
    rw [e1, e2, show (18446744073709551615 : Int) = ((18446744073709551615 : Nat) : Int) from rfl, u64_xor_nat _ _ (by omega) (by omega)]
    rw [show (2 : Nat) ^ 64 - 1 = 18446744073709551615 from rfl] at hx
    rw [hx]
    simp only [zig, if_pos hn]
    omega
  · have e1 : n / 9223372036854775808 % 18446744073709551616 = ((0 : Nat) : Int) := by omega
    have e2 : n % 18446744073709551616 * 2 % 18446744073709551616 = ((2 * n).toNat : Int) := by omega
    rw [e1, e2, u64_xor_nat _ _ (by omega) (by omega), Nat.xor_zero]
    simp only [zig, if_neg (show ¬ n < 0 by omega)]

theorem zig_le (n : Int) (h0 : -9223372036854775808 ≤ n) (h1 : n ≤ 9223372036854775807) : zig n ≤ 18446744073709551615 := by
  unfold zig
  split <;> omega

set_option maxHeartbeats 2000000 in
set_option maxRecDepth 100000 in
theorem wint (b base : Nat) (v : Value) (l : List UInt8) (n : Int) (w : World) (h0 : -9223372036854775808 ≤ n) (h1 : n ≤ 9223372036854775807) (hw : WAt w b base v l) (hb : base ≤ w.heap.size) (hl : l.length ≤ 140737488355000) :
    Calls Try.prog 34 #[.pointer (some ⟨b, 0, none⟩), .int .i64 n] w fun e w' => WPost w w' b base v (l ++ enc (zig n)) e := by
  have hz := zig_le n h0 h1
  have H1 := Lib.hid (zig_xor n h0 h1)
  go_enter Try.func34, Try.ntmps34
  go_wp2_with fail
  rw [H1.out]
  refine (wuint b base v l _ w (by omega) (by omega) hw hb hl).mono ?_
  rw [Int.toNat_natCast]
  rintro e w1 h
  obtain rfl := h.ret
  go_wp2_with fail
  go_ret
  exact h
end Go.Proofs.Ytdckcjcddibglaa
