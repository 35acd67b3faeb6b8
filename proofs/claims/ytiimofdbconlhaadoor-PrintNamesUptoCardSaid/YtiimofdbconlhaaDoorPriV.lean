/- Variables have unlike names. -/
import Derived.Test.YtiimofdbconlhaaDoorPriFb
namespace Go.Proofs.YtiimofdbconlhaaDoor
open Go.RowKit PriM

/-- Digits as a number. -/
def dv (l : List UInt8) : Nat := l.foldl (fun a c => a * 10 + (c.toNat - 48)) 0
theorem dv_snoc (l : List UInt8) (c : UInt8) : dv (l ++ [c]) = dv l * 10 + (c.toNat - 48) := by simp [dv]
theorem dv_dec (n : Nat) : dv (Lib.decDigits n) = n := by
  induction n using Nat.strongRecOn with
  | _ n ih =>
    rw [Lib.decDigits]
    split
    · next h =>
      show 0 * 10 + ((UInt8.ofNat (48 + n)).toNat - 48) = n
      rw [UInt8.toNat_ofNat_of_lt' (by show _ < 256; omega)]
      omega
    · next h =>
      rw [dv_snoc, ih (n / 10) (by omega), UInt8.toNat_ofNat_of_lt' (by show _ < 256; omega)]
      omega
theorem dec_pos (n : Nat) : 0 < (Lib.decDigits n).length := by rw [Lib.decDigits_length]; exact Lib.nDigits_pos n

theorem vn_inj (a b : Int) (ha : 1 ≤ a) (hb : 1 ≤ b) (h : vn a = vn b) : a = b := by
  have ia : ∀ x : Int, 1 ≤ x → Lib.itoa x = Lib.decDigits x.toNat := fun x hx => by unfold Lib.itoa; rw [if_neg (by omega)]
  unfold vn at h
  by_cases h1 : a ≤ 26 <;> by_cases h2 : b ≤ 26
  · rw [if_pos ⟨ha, h1⟩, if_pos ⟨hb, h2⟩] at h
    have h3 : UInt8.ofNat (96 + a.toNat) = UInt8.ofNat (96 + b.toNat) := by simpa using h
    have h4 := congrArg UInt8.toNat h3
    rw [UInt8.toNat_ofNat_of_lt' (by show _ < 256; omega), UInt8.toNat_ofNat_of_lt' (by show _ < 256; omega)] at h4
    omega
  · rw [if_pos ⟨ha, h1⟩, if_neg (by omega), ia b hb] at h
    have h3 := congrArg List.length h
    have h4 := dec_pos b.toNat
    simp only [List.length_cons, List.length_nil] at h3
    omega
  · rw [if_neg (by omega), if_pos ⟨hb, h2⟩, ia a ha] at h
    have h3 := congrArg List.length h
    have h4 := dec_pos a.toNat
    simp only [List.length_cons, List.length_nil] at h3
    omega
  · rw [if_neg (by omega), if_neg (by omega), ia a ha, ia b hb] at h
    have h3 : Lib.decDigits a.toNat = Lib.decDigits b.toNat := by simpa using h
    have h4 := congrArg dv h3
    rw [dv_dec, dv_dec] at h4
    omega

theorem str_eq (l k : List UInt8) : ((⟨l.toArray⟩ : ByteArray).toList == (⟨k.toArray⟩ : ByteArray).toList) = (l == k) := by rw [toList_mk, toList_mk]

set_option maxRecDepth 100000 in
set_option maxHeartbeats 2000000 in
theorem vars_walk (a b : Int) (w : World) (ht : Tab w) (a0 : -9223372036854775808 ≤ a) (a1 : a ≤ 9223372036854775807) (b0 : -9223372036854775808 ≤ b) (b1 : b ≤ 9223372036854775807) :
    Calls Tryd.prog 6 #[.int .i64 a, .int .i64 b] w fun e w' => e = .returned (.bool true) ∧ Below w.heap.size w w' := by
  have HA := Lib.hid (awake w ht)
  have HV := Lib.hid (fun W (hb : Below w.heap.size w W) => var_any a a0 a1 W (tabN_of ht W hb))
  have HW := Lib.hid (fun W (hb : Below w.heap.size w W) => var_any b b0 b1 W (tabN_of ht W hb))
  have HR := Lib.hid (fun W => rvar_any a W a0 a1)
  clear ht a0 a1 b0 b1
  by_cases ha : a < 1
  · go_enter Tryd.func6, Tryd.ntmps6
    go_wp2_with (go_at_call 9; refine (HA.out).mono ?_; rintro e w1 ⟨rfl, hb⟩; have HB := Lib.hid hb; clear hb)
    go_ret
    exact ⟨rfl, HB.out⟩
  by_cases hb1 : b < 1
  · go_enter Tryd.func6, Tryd.ntmps6
    go_wp2_with (go_at_call 9; refine (HA.out).mono ?_; rintro e w1 ⟨rfl, hb⟩; have HB := Lib.hid hb; clear hb)
    go_ret
    exact ⟨rfl, HB.out⟩
  have h2 : (vn a == vn b) = (a == b) := by
    by_cases h : a = b
    · rw [h]; simp
    · have : vn a ≠ vn b := fun e => h (vn_inj a b (by omega) (by omega) e)
      rw [beq_eq_false_iff_ne.2 this, beq_eq_false_iff_ne.2 h]
  have s1 := str_eq (vn a) (vn b)
  rw [h2] at s1
  generalize (⟨(vn a).toArray⟩ : ByteArray) = SA at *
  generalize (⟨(vn b).toArray⟩ : ByteArray) = SB at *
  clear h2
  have g1 : decide (a < 1) = false := by simpa using ha
  have g2 : decide (b < 1) = false := by simpa using hb1
  clear ha hb1
  by_cases hab : a = b
  · have t1 : (a == b) = true := by simpa using hab
    rw [t1] at s1
    clear hab
    go_enter Tryd.func6, Tryd.ntmps6
    go_wp2_with fail
    go_at_call 9
    refine (HA.out).mono ?_
    rintro e w1 ⟨rfl, hb⟩
    have B1 := Lib.hid hb
    clear hb
    go_wp2_with fail
    go_at_call 16
    refine (HV.out w1 B1.out).mono ?_
    rintro e w2 ⟨rfl, hb⟩
    have B2 := Lib.hid (B1.out.trans (hb.mono B1.out.size))
    clear hb
    go_wp2_with fail
    go_at_call 17
    refine (HR.out w2).mono ?_
    rintro e w3 ⟨rfl, hb⟩
    have B3 := Lib.hid (B2.out.trans (hb.mono B2.out.size))
    clear hb
    go_wp2_with fail
    go_at_call 16
    refine (HV.out w3 B3.out).mono ?_
    rintro e w4 ⟨rfl, hb⟩
    have B4 := Lib.hid (B3.out.trans (hb.mono B3.out.size))
    clear hb
    go_wp2_with fail
    go_at_call 16
    refine (HW.out w4 B4.out).mono ?_
    rintro e w5 ⟨rfl, hb⟩
    have B5 := Lib.hid (B4.out.trans (hb.mono B4.out.size))
    clear hb
    go_wp2_with fail
    go_ret
    exact ⟨rfl, B5.out⟩
  · have t1 : (a == b) = false := by simpa using hab
    rw [t1] at s1
    clear hab
    go_enter Tryd.func6, Tryd.ntmps6
    go_wp2_with fail
    go_at_call 9
    refine (HA.out).mono ?_
    rintro e w1 ⟨rfl, hb⟩
    have B1 := Lib.hid hb
    clear hb
    go_wp2_with fail
    go_at_call 16
    refine (HV.out w1 B1.out).mono ?_
    rintro e w2 ⟨rfl, hb⟩
    have B2 := Lib.hid (B1.out.trans (hb.mono B1.out.size))
    clear hb
    go_wp2_with fail
    go_at_call 17
    refine (HR.out w2).mono ?_
    rintro e w3 ⟨rfl, hb⟩
    have B3 := Lib.hid (B2.out.trans (hb.mono B2.out.size))
    clear hb
    go_wp2_with fail
    go_at_call 16
    refine (HV.out w3 B3.out).mono ?_
    rintro e w4 ⟨rfl, hb⟩
    have B4 := Lib.hid (B3.out.trans (hb.mono B3.out.size))
    clear hb
    go_wp2_with fail
    go_at_call 16
    refine (HW.out w4 B4.out).mono ?_
    rintro e w5 ⟨rfl, hb⟩
    have B5 := Lib.hid (B4.out.trans (hb.mono B4.out.size))
    clear hb
    go_wp2_with fail
    go_ret
    exact ⟨rfl, B5.out⟩
end Go.Proofs.YtiimofdbconlhaaDoor
