/- The reference's numbers with a sign, and bytes. -/
import Derived.Test.YtjbailnnaigjbaaOctV
import Derived.Test.YtjbailnnaigjbaaOctG
namespace Go.Proofs.Ytjbailnnaigjbaa
open Go.RowKit OctM

set_option maxHeartbeats 2000000 in
set_option maxRecDepth 100000 in
theorem refint (n : Int) (w : World) (h0 : -9223372036854775808 ≤ n) (h1 : n ≤ 9223372036854775807) :
    Calls Try.prog 36 #[.int .i64 n] w fun e w' => ∃ v, e = .returned v ∧ Own w' w.heap.size v (enc (zig n)) ∧ Below w.heap.size w w' := by
  by_cases hn : n < 0
  · obtain ⟨m, rfl⟩ : ∃ m : Nat, n = -1 - (m : Int) := ⟨(-n - 1).toNat, by omega⟩
    have hm : (m : Int) ≤ 9223372036854775807 := by omega
    have hm0 : (0 : Int) ≤ (m : Int) := by omega
    have e : (zig (-1 - (m : Int)) : Int) = (m : Int) * 2 + 1 := by unfold zig; rw [if_pos hn]; omega
    have hz := zig_le _ h0 h1
    have HC := Lib.hid (refuint (zig (-1 - (m : Int))) w (by omega) (by omega))
    rw [e] at HC
    have HE := Lib.hid e
    have e1 : -(-1 - (m : Int) + 1) = (m : Int) := by omega
    have hd : decide (-1 - (m : Int) < 0) = true := by simpa using hn
    clear e hz
    go_enter Try.func36, Try.ntmps36
    go_wp2_with fail
    refine HC.out.mono ?_
    rintro e w1 ⟨v, rfl, ho, hb⟩
    rw [← HE.out, Int.toNat_natCast] at ho
    go_wp2_with fail
    go_ret
    exact ⟨v, rfl, ho, hb⟩
  · obtain ⟨m, rfl⟩ := Int.eq_ofNat_of_zero_le (show 0 ≤ n by omega)
    have hm0 : (0 : Int) ≤ (m : Int) := by omega
    have e : (zig (m : Int) : Int) = (m : Int) * 2 := by unfold zig; rw [if_neg hn]; omega
    have hz := zig_le _ h0 h1
    have HC := Lib.hid (refuint (zig (m : Int)) w (by omega) (by omega))
    rw [e] at HC
    have HE := Lib.hid e
    have hd : decide ((m : Int) < 0) = false := by simp
    clear e hz
    go_enter Try.func36, Try.ntmps36
    go_wp2_with fail
    refine HC.out.mono ?_
    rintro e w1 ⟨v, rfl, ho, hb⟩
    rw [← HE.out, Int.toNat_natCast] at ho
    go_wp2_with fail
    go_ret
    exact ⟨v, rfl, ho, hb⟩

set_option maxHeartbeats 2000000 in
set_option maxRecDepth 100000 in
theorem refbytes (p : Value) (k : List UInt8) (w : World) (h : Rd w p k) (hk : k.length ≤ 140737488350000) :
    Calls Try.prog 37 #[p] w fun e w' => ∃ v, e = .returned v ∧ Own w' w.heap.size v (encB k) ∧ Below w.heap.size w w' := by
  obtain ⟨o, c, hp⟩ : ∃ o c, p = .slice o k.length c := by
    rcases h with ⟨rfl, rfl⟩ | ⟨_, c, rfl, _⟩ <;> exact ⟨_, _, rfl⟩
  have HC := Lib.hid (refuint (k.length : Int) w (by omega) (by omega))
  have hk0 : (0 : Int) ≤ (k.length : Int) := by omega
  have hk1 : (k.length : Int) ≤ 140737488350000 := by omega
  have H := Lib.hid h
  clear h
  subst hp
  go_enter Try.func37, Try.ntmps37
  go_wp2_with fail
  refine HC.out.mono ?_
  rintro e w1 ⟨v, rfl, ho, hb⟩
  rw [Int.toNat_natCast] at ho
  have hl : (enc k.length).length + k.length ≤ 140737488355328 := by rw [enc_length]; have := nd_le k.length; omega
  obtain ⟨v2, w2, hr, ho2, hg⟩ := append_own ho (H.out.below hb) hl hb.size 35
  have hb2 : Below w.heap.size w w2 := hb.grown hg hb.size (fun k hk => (ho.lt k hk).1)
  have HR := Lib.hid hr
  clear hr ho hg hb hl
  go_wp2_with (at_builtin; refine wpList_append_known rfl (.tmp 8) (.tmp 9) 35 35 (by rfl) _ _ _ (by rfl) (by rfl) HR.out ?_)
  go_ret
  exact ⟨_, rfl, ho2, hb2⟩
end Go.Proofs.Ytjbailnnaigjbaa
