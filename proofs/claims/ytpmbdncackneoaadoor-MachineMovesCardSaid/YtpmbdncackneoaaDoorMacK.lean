/- What is made of two numbers. -/
import Derived.Test.YtpmbdncackneoaaDoorMacJ
namespace Go.Proofs.YtpmbdncackneoaaDoor
open Go.RowKit HeaM Ma

theorem cut_wrap (n : Int) : cut (wrap64 n) = cut n := by
  unfold wrap64 cut
  omega

set_option maxHeartbeats 4000000 in
set_option maxRecDepth 100000 in
theorem calculate_t {C : Cx} {s s' : Ms} {n : Nat} {sign a b : Int} {w : World} (h : RunE C w s) (hr : reckon C.m s sign a b = some (n, s')) (ha : -4611686018427387904 ≤ a ∧ a < 4611686018427387904) (hb : -4611686018427387904 ≤ b ∧ b < 4611686018427387904) (hn : s.stk.length ≤ 1000000000) (hf : s.frs.length ≤ 1000000000) (htn : s.trs.length ≤ 1000000000) :
    Calls Tryd.prog 61 #[.pointer (some ⟨C.lo, 0, none⟩), .int .i64 sign, .int .i64 a, .int .i64 b] w (OkRun C s' n) := by
  have HA := Lib.hid fun k => answer_t k h hn
  have HT := Lib.hid fun k => truth_t k h hn
  have HRA := Lib.hid fun (n : Nat) (s' : Ms) (hr : raise C.m s [100, 105, 118] = some (n, s')) => raise_t ⟨#[100, 105, 118]⟩ h rfl hr hn hf htn
  clear h hn hf htn
  unfold reckon at hr
  by_cases h0 : sign = 0
  · rw [if_pos h0] at hr
    subst h0
    simp only [answer, ok, Option.some.injEq, Prod.mk.injEq] at hr
    obtain ⟨rfl, rfl⟩ := hr
    go_enter Tryd.func61, Tryd.ntmps61
    go_wp2_with fail
    refine (HA.out _).mono ?_
    rintro e w' ⟨rfl, hw⟩
    have HW := Lib.hid hw
    clear hw
    go_wp2
    go_ret
    exact ⟨rfl, HW.out⟩
  rw [if_neg h0] at hr
  by_cases h1 : sign = 1
  · rw [if_pos h1] at hr
    subst h1
    simp only [answer, ok, Option.some.injEq, Prod.mk.injEq] at hr
    obtain ⟨rfl, rfl⟩ := hr
    go_enter Tryd.func61, Tryd.ntmps61
    go_wp2_with fail
    refine (HA.out _).mono ?_
    rintro e w' ⟨rfl, hw⟩
    have HW := Lib.hid hw
    clear hw
    go_wp2
    go_ret
    exact ⟨rfl, HW.out⟩
  rw [if_neg h1] at hr
  by_cases h2 : sign = 2
  · rw [if_pos h2] at hr
    subst h2
    simp only [answer, ok, Option.some.injEq, Prod.mk.injEq] at hr
    obtain ⟨rfl, rfl⟩ := hr
    go_enter Tryd.func61, Tryd.ntmps61
    go_wp2_with fail
    refine (HA.out _).mono ?_
    rintro e w' ⟨rfl, hw⟩
    have HW := Lib.hid hw
    clear hw
    go_wp2
    go_ret
    exact ⟨rfl, by have h := HW.out; rw [cut_wrap] at h; exact h⟩
  rw [if_neg h2] at hr
  by_cases h7 : sign = 7
  · rw [if_pos h7] at hr
    subst h7
    simp only [truth, ok, Option.some.injEq, Prod.mk.injEq] at hr
    obtain ⟨rfl, rfl⟩ := hr
    have HTT := Lib.hid (HT.out (decide (a < b)))
    clear HA HT HRA
    obtain ⟨t, ht⟩ : ∃ t, decide (a < b) = t := ⟨_, rfl⟩
    rw [ht] at HTT ⊢
    cases t with
    | true =>
      have hc := of_decide_eq_true ht
      go_enter Tryd.func61, Tryd.ntmps61
      go_wp2_with fail
      refine HTT.out.mono ?_
      rintro e w' ⟨rfl, hw⟩
      have HW := Lib.hid hw
      clear hw
      go_wp2
      go_ret
      exact ⟨rfl, HW.out⟩
    | false =>
      have hc := of_decide_eq_false ht
      go_enter Tryd.func61, Tryd.ntmps61
      go_wp2_with fail
      refine HTT.out.mono ?_
      rintro e w' ⟨rfl, hw⟩
      have HW := Lib.hid hw
      clear hw
      go_wp2
      go_ret
      exact ⟨rfl, HW.out⟩
  rw [if_neg h7] at hr
  by_cases h8 : sign = 8
  · rw [if_pos h8] at hr
    subst h8
    simp only [truth, ok, Option.some.injEq, Prod.mk.injEq] at hr
    obtain ⟨rfl, rfl⟩ := hr
    have HTT := Lib.hid (HT.out (decide (a ≤ b)))
    clear HA HT HRA
    obtain ⟨t, ht⟩ : ∃ t, decide (a ≤ b) = t := ⟨_, rfl⟩
    rw [ht] at HTT ⊢
    cases t with
    | true =>
      have hc := of_decide_eq_true ht
      go_enter Tryd.func61, Tryd.ntmps61
      go_wp2_with fail
      refine HTT.out.mono ?_
      rintro e w' ⟨rfl, hw⟩
      have HW := Lib.hid hw
      clear hw
      go_wp2
      go_ret
      exact ⟨rfl, HW.out⟩
    | false =>
      have hc := of_decide_eq_false ht
      go_enter Tryd.func61, Tryd.ntmps61
      go_wp2_with fail
      refine HTT.out.mono ?_
      rintro e w' ⟨rfl, hw⟩
      have HW := Lib.hid hw
      clear hw
      go_wp2
      go_ret
      exact ⟨rfl, HW.out⟩
  rw [if_neg h8] at hr
  by_cases h34 : sign ≠ 3 ∧ sign ≠ 4
  · rw [if_pos h34] at hr; cases hr
  rw [if_neg h34] at hr
  by_cases hb0 : b = 0
  · rw [if_pos hb0] at hr
    subst hb0
    have HR := Lib.hid (HRA.out _ _ hr)
    clear hr
    have e0 : (sign == 0) = false := by rw [beq_eq_false_iff_ne]; exact h0
    have e1 : (sign == 1) = false := by rw [beq_eq_false_iff_ne]; exact h1
    have e2 : (sign == 2) = false := by rw [beq_eq_false_iff_ne]; exact h2
    have e7 : (sign == 7) = false := by rw [beq_eq_false_iff_ne]; exact h7
    have e8 : (sign == 8) = false := by rw [beq_eq_false_iff_ne]; exact h8
    go_enter Tryd.func61, Tryd.ntmps61
    go_wp2_with fail
    refine HR.out.mono ?_
    rintro e w' ⟨rfl, hw⟩
    have HW := Lib.hid hw
    clear hw
    go_wp2
    go_ret
    exact ⟨rfl, HW.out⟩
  rw [if_neg hb0] at hr
  have hbz : (b == 0) = false := by rw [beq_eq_false_iff_ne]; exact hb0
  by_cases h3 : sign = 3
  · rw [if_pos h3] at hr
    subst h3
    simp only [answer, ok, Option.some.injEq, Prod.mk.injEq] at hr
    obtain ⟨rfl, rfl⟩ := hr
    go_enter Tryd.func61, Tryd.ntmps61
    go_wp2_with fail
    refine (HA.out _).mono ?_
    rintro e w' ⟨rfl, hw⟩
    have HW := Lib.hid hw
    clear hw
    go_wp2
    go_ret
    exact ⟨rfl, by have h := HW.out; rw [cut_wrap] at h; exact h⟩
  rw [if_neg h3] at hr
  by_cases h4 : sign = 4
  · rw [if_pos h4] at hr
    subst h4
    simp only [answer, ok, Option.some.injEq, Prod.mk.injEq] at hr
    obtain ⟨rfl, rfl⟩ := hr
    go_enter Tryd.func61, Tryd.ntmps61
    go_wp2_with fail
    refine (HA.out _).mono ?_
    rintro e w' ⟨rfl, hw⟩
    have HW := Lib.hid hw
    clear hw
    go_wp2
    go_ret
    exact ⟨rfl, HW.out⟩
  rw [if_neg h4] at hr
  cases hr
end Go.Proofs.YtpmbdncackneoaaDoor
