/- The writer: contracts of its functions. -/
import Derived.Test.YtdckcjcddibglaaOctB
namespace Go.Proofs.Ytdckcjcddibglaa
open Go.RowKit OctM

theorem tab_range (t : Int) (h : t.toNat < Lib.len8tab.size) (h0 : 1 ≤ t) : 1 ≤ (Lib.len8tab[t.toNat].toNat : Int) ∧ (Lib.len8tab[t.toNat].toNat : Int) ≤ 8 := by
  have e : ∀ k : Fin 256, 1 ≤ k.val → 1 ≤ ((Lib.len8tab[k.val]?).getD 0).toNat ∧ ((Lib.len8tab[k.val]?).getD 0).toNat ≤ 8 := by decide +kernel
  have hs := Lib.len8tab_size
  have := e ⟨t.toNat, by omega⟩ (by show 1 ≤ t.toNat; omega)
  simp only [getElem?_pos Lib.len8tab t.toNat h, Option.getD_some] at this
  omega

/-- A size as it comes: 8 times the bytes, or up to 7 less. -/
def Size (n : Int) (e : Ending) : Prop := ∃ L : Int, e = .returned (.int .i64 L) ∧ 0 ≤ L ∧ L ≤ 64 ∧ (L + 7) / 8 = (nd n.toNat : Int)

theorem wrap64_small (x : Int) (h0 : 0 ≤ x) (h1 : x ≤ 1000) : wrap64 x = x := IntWalk.wrap64_in _ ⟨by omega, by omega⟩

theorem size_of {n : Int} (c t : Int) (k : Nat) (h : t.toNat < Lib.len8tab.size) (hk : nd n.toNat = k + 1) (hk' : k ≤ 7) (hc : c = 8 * (k : Int)) (h0 : 1 ≤ t) :
    Size n (.returned (.int .i64 (wrap64 (c + wrap64 (Lib.len8tab[t.toNat].toNat : Int))))) := by
  have := tab_range t h h0
  rw [wrap64_small (Lib.len8tab[t.toNat].toNat : Int) (by omega) (by omega), wrap64_small _ (by omega) (by omega)]
  exact ⟨_, rfl, by omega, by omega, by rw [hk]; omega⟩
theorem size_of0 {n : Int} (t : Int) (h : t.toNat < Lib.len8tab.size) (hk : nd n.toNat = 1) (h0 : 1 ≤ t) :
    Size n (.returned (.int .i64 (wrap64 (wrap64 (Lib.len8tab[t.toNat].toNat : Int))))) := by
  have := size_of (n := n) 0 t 0 h hk (by omega) rfl h0
  simpa only [Int.zero_add] using this

set_option maxHeartbeats 4000000 in
set_option maxRecDepth 100000 in
theorem len64 (n : Int) (w : World) (h0 : 0 ≤ n) (h1 : n ≤ 18446744073709551615) :
    Calls Try.prog 45 #[.int .u64 n] w fun e w' => Size n e ∧ w = w' := by
  have hs := Lib.len8tab_size
  rcases Int.lt_or_le n 1 with c0 | c0
  · obtain rfl : n = 0 := by omega
    go_enter Try.func45, Try.ntmps45
    go_wp2
    go_ret
    refine ⟨⟨0, ?_, by omega, by omega, by simp [nd]⟩, rfl⟩
    exact congrArg (fun x => Ending.returned (Value.int .i64 x)) (by decide +kernel)
  rcases Int.lt_or_le n 256 with c1 | c1
  · go_enter Try.func45, Try.ntmps45
    go_wp2
    go_ret
    exact ⟨size_of0 n (by rw [Lib.len8tab_size]; omega) (by unfold nd; (repeat rw [if_neg (by omega)]); rw [if_pos (by omega)]) (by omega), rfl⟩
  rcases Int.lt_or_le n 65536 with c2 | c2
  · go_enter Try.func45, Try.ntmps45
    go_wp2
    go_ret
    exact ⟨size_of 8 (n / 256) 1 (by rw [Lib.len8tab_size]; omega) (by unfold nd; (repeat rw [if_neg (by omega)]); rw [if_pos (by omega)]) (by omega) rfl (by omega), rfl⟩
  rcases Int.lt_or_le n 16777216 with c3 | c3
  · go_enter Try.func45, Try.ntmps45
    go_wp2
    go_ret
    exact ⟨size_of 16 (n / 65536) 2 (by rw [Lib.len8tab_size]; omega) (by unfold nd; (repeat rw [if_neg (by omega)]); rw [if_pos (by omega)]) (by omega) rfl (by omega), rfl⟩
  rcases Int.lt_or_le n 4294967296 with c4 | c4
  · go_enter Try.func45, Try.ntmps45
    go_wp2
    go_ret
    exact ⟨size_of 24 (n / 65536 / 256) 3 (by rw [Lib.len8tab_size]; omega) (by unfold nd; (repeat rw [if_neg (by omega)]); rw [if_pos (by omega)]) (by omega) rfl (by omega), rfl⟩
  rcases Int.lt_or_le n 1099511627776 with c5 | c5
  · go_enter Try.func45, Try.ntmps45
    go_wp2
    go_ret
    exact ⟨size_of 32 (n / 4294967296) 4 (by rw [Lib.len8tab_size]; omega) (by unfold nd; (repeat rw [if_neg (by omega)]); rw [if_pos (by omega)]) (by omega) rfl (by omega), rfl⟩
  rcases Int.lt_or_le n 281474976710656 with c6 | c6
  · go_enter Try.func45, Try.ntmps45
    go_wp2
    go_ret
    exact ⟨size_of 40 (n / 4294967296 / 256) 5 (by rw [Lib.len8tab_size]; omega) (by unfold nd; (repeat rw [if_neg (by omega)]); rw [if_pos (by omega)]) (by omega) rfl (by omega), rfl⟩
  rcases Int.lt_or_le n 72057594037927936 with c7 | c7
  · go_enter Try.func45, Try.ntmps45
    go_wp2
    go_ret
    exact ⟨size_of 48 (n / 4294967296 / 65536) 6 (by rw [Lib.len8tab_size]; omega) (by unfold nd; (repeat rw [if_neg (by omega)]); rw [if_pos (by omega)]) (by omega) rfl (by omega), rfl⟩
  · go_enter Try.func45, Try.ntmps45
    go_wp2
    go_ret
    exact ⟨size_of 56 (n / 4294967296 / 65536 / 256) 7 (by rw [Lib.len8tab_size]; omega) (by unfold nd; (repeat rw [if_neg (by omega)])) (by omega) rfl (by omega), rfl⟩
end Go.Proofs.Ytdckcjcddibglaa
