/- The reference's digits and numbers. -/
import Derived.Test.YtiimofdbconlhaaDoorPriEe
namespace Go.Proofs.YtiimofdbconlhaaDoor
open Go.RowKit PriM

theorem dig_str (W : World) (d : Nat) (hd : d < 256) : (convert 63 9 (.slice (some ⟨W.heap.size, 0, none⟩) 1 1)).run Tryd.prog (W.alloc (.cells #[.int .u8 (d : Int)] 5)) = .ok (.string ⟨#[UInt8.ofNat d]⟩) (W.alloc (.cells #[.int .u8 (d : Int)] 5)) := by
  have h := toStr (Rd.of_block (l := [UInt8.ofNat d]) (heap_alloc_new W (.cells #[.int .u8 (d : Int)] 5)) (by rw [B_ofNat d hd]; rfl) (by simp))
  exact h

theorem decDigits_len (n : Nat) (h : n < 18446744073709551616) : (Lib.decDigits n).length ≤ 20 := by
  rw [Lib.decDigits_length]; exact Lib.nDigits_le20 n h

set_option maxRecDepth 100000 in
set_option maxHeartbeats 1000000 in
theorem digits_any (k : Nat) : ∀ (n : Nat) (w : World), n < 10 ^ (k + 1) → n < 18446744073709551616 →
    Calls Tryd.prog 40 #[.int .u64 (n : Int)] w fun e w' => e = .returned (.string ⟨(Lib.decDigits n).toArray⟩) ∧ Below w.heap.size w w' := by
  induction k with
  | zero =>
    intro n w hn _
    have hn : n < 10 := by simpa using hn
    have h9 : ¬ ((n : Int) > 9) := by omega
    have e1 : Lib.decDigits n = [UInt8.ofNat (48 + n)] := by rw [Lib.decDigits, dif_pos hn]
    have hm : ((48 : Int) + (n : Int) % 10) = ((48 + n : Nat) : Int) := by omega
    have kc := dig_str w (48 + n) (by omega)
    rw [← hm] at kc
    rw [e1]
    have HF := Lib.hid (show Below w.heap.size w (w.alloc (.cells #[.int .u8 ((48 : Int) + (n : Int) % 10)] 5)) from (Below.refl _ _).alloc (Nat.le_refl _) _)
    have hcat : (⟨#[]⟩ : ByteArray) ++ ⟨#[UInt8.ofNat (48 + n)]⟩ = ⟨#[UInt8.ofNat (48 + n)]⟩ := bytes_cat [] [UInt8.ofNat (48 + n)]
    clear e1 hm
    generalize UInt8.ofNat (48 + n) = D at *
    go_enter Tryd.func40, Tryd.ntmps40
    go_wp2
    go_ret
    exact ⟨rfl, HF.out⟩
  | succ k ih =>
    intro n w hn h64
    by_cases hlt : n < 10
    · exact ih n w (by have h1 : 0 < 10 ^ k := Nat.pow_pos (by omega); rw [Nat.pow_succ]; omega) h64
    · have h9 : (n : Int) > 9 := by omega
      have e1 : Lib.decDigits n = Lib.decDigits (n / 10) ++ [UInt8.ofNat (48 + n % 10)] := by rw [Lib.decDigits, dif_neg hlt]
      have hm : ((48 : Int) + (n : Int) % 10) = ((48 + n % 10 : Nat) : Int) := by omega
      have kc := fun W => dig_str W (48 + n % 10) (by omega)
      rw [← hm] at kc
      rw [e1]
      have hcat := bytes_cat (Lib.decDigits (n / 10)) [UInt8.ofNat (48 + n % 10)]
      have hl := decDigits_len (n / 10) (by omega)
      have hsz : (⟨(Lib.decDigits (n / 10)).toArray⟩ : ByteArray).size = (Lib.decDigits (n / 10)).length := size_mk _
      have hd : ((n : Int) / 10) = ((n / 10 : Nat) : Int) := by omega
      have HI := Lib.hid (ih (n / 10) w (by rw [Nat.pow_succ] at hn; omega) (by omega))
      rw [← hd] at HI
      have ho : ¬ 9223372036854775807 < (Lib.decDigits (n / 10)).length + 1 := by omega
      have HS := Lib.hid hsz
      clear e1 hm hd hsz ih hlt hn
      generalize UInt8.ofNat (48 + n % 10) = D at *
      generalize hG : Lib.decDigits (n / 10) = G at *
      clear hG
      go_enter Tryd.func40, Tryd.ntmps40
      go_wp2_with fail
      go_at_call 40
      refine (HI.out).mono ?_
      rintro e w1 ⟨rfl, hb⟩
      have HB := Lib.hid (hb.alloc hb.size (.cells #[.int .u8 ((48 : Int) + (n : Int) % 10)] 5))
      have kc1 := kc w1
      clear hb kc
      go_wp2_with fail
      go_ret
      exact ⟨rfl, HB.out⟩

theorem two64 (n : Nat) (h : n < 18446744073709551616) : n < 10 ^ (19 + 1) := by omega

set_option maxRecDepth 100000 in
set_option maxHeartbeats 1000000 in
theorem num_pos (n : Nat) (w : World) (h : n ≤ 9223372036854775807) : Calls Tryd.prog 29 #[.int .i64 (n : Int)] w fun e w' => e = .returned (.string ⟨(Lib.itoa (n : Int)).toArray⟩) ∧ Below w.heap.size w w' := by
  have e1 : Lib.itoa (n : Int) = Lib.decDigits n := by unfold Lib.itoa; rw [if_neg (by omega)]; rfl
  rw [e1]
  have HI := Lib.hid (digits_any 19 n w (two64 n (by omega)) (by omega))
  have h0 : ¬ ((n : Int) < 0) := by omega
  clear e1
  go_enter Tryd.func29, Tryd.ntmps29
  go_wp2_with (go_at_call 40; refine (HI.out).mono ?_; rintro e w1 ⟨rfl, hb⟩; have HB := Lib.hid hb; clear hb)
  go_ret
  exact ⟨rfl, HB.out⟩

set_option maxRecDepth 100000 in
set_option maxHeartbeats 1000000 in
theorem num_neg (v : Int) (w : World) (hl : -9223372036854775808 ≤ v) (hv : v < 0) : Calls Tryd.prog 29 #[.int .i64 v] w fun e w' => e = .returned (.string ⟨(Lib.itoa v).toArray⟩) ∧ Below w.heap.size w w' := by
  have e1 : Lib.itoa v = 45 :: Lib.decDigits v.natAbs := by
    unfold Lib.itoa
    rw [if_pos hv]
  rw [e1]
  have hi := digits_any 19 v.natAbs w (two64 _ (by omega)) (by omega)
  have hcat : (⟨#[45]⟩ : ByteArray) ++ ⟨(Lib.decDigits v.natAbs).toArray⟩ = ⟨(45 :: Lib.decDigits v.natAbs).toArray⟩ := bytes_cat [45] _
  have hl2 := decDigits_len v.natAbs (by omega)
  have ho : ¬ 9223372036854775807 < 1 + (Lib.decDigits v.natAbs).length := by omega
  rw [show ((v.natAbs : Nat) : Int) = -(v + 1) + 1 by omega] at hi
  have HI := Lib.hid hi
  clear e1 hi
  generalize Lib.decDigits v.natAbs = D at *
  have b1 : v + 1 ≤ 0 := by omega
  have b2 : 0 ≤ -(v + 1) := by omega
  go_enter Tryd.func29, Tryd.ntmps29
  go_wp2_with fail
  go_at_call 40
  refine (HI.out).mono ?_
  rintro e w1 ⟨rfl, hb⟩
  have HB := Lib.hid hb
  clear hb
  go_wp2_with fail
  go_ret
  exact ⟨rfl, HB.out⟩

theorem num_any (v : Int) (w : World) (h0 : -9223372036854775808 ≤ v) (h1 : v ≤ 9223372036854775807) : Calls Tryd.prog 29 #[.int .i64 v] w fun e w' => e = .returned (.string ⟨(Lib.itoa v).toArray⟩) ∧ Below w.heap.size w w' := by
  by_cases h : 0 ≤ v
  · have := num_pos v.toNat w (by omega)
    rwa [Int.toNat_of_nonneg h] at this
  · exact num_neg v w h0 (by omega)
end Go.Proofs.YtiimofdbconlhaaDoor
