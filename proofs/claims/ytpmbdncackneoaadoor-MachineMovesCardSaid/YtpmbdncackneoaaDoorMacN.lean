/- Operators; the end of a function. -/
import Derived.Test.YtpmbdncackneoaaDoorMacL
import Derived.Test.YtpmbdncackneoaaDoorMacH
namespace Go.Proofs.YtpmbdncackneoaaDoor
open Go.RowKit HeaM Ma

set_option maxHeartbeats 2000000 in
set_option maxRecDepth 100000 in
theorem operate_num {C : Cx} {s s' : Ms} {n : Nat} {sign x y : Int} {a b : Nat} {w : World} (h : RunE C w s) (hx : Rep s.W s.F (.num x)) (hy : Rep s.W s.F (.num y)) (ha : Hid ((V.num x).word = a)) (hb : Hid ((V.num y).word = b)) (hr : operate C.m s sign (.num x) (.num y) = some (n, s')) (hn : s.stk.length ≤ 1000000000) (hf : s.frs.length ≤ 1000000000) (htn : s.trs.length ≤ 1000000000) :
    Calls Tryd.prog 39 #[.pointer (some ⟨C.lo, 0, none⟩), .int .i64 sign, .int .u64 (a : Int), .int .u64 (b : Int)] w (OkRun C s' n) := by
  have hlt : a < 18446744073709551616 := by
    obtain ⟨_, _, _, _, _, _, _, h⟩ := h
    rw [← ha.out]
    exact word_lt hx (by have := h.g.wl; have := h.fit.q; omega)
  have hlt2 : b < 18446744073709551616 := by
    obtain ⟨_, _, _, _, _, _, _, h⟩ := h
    rw [← hb.out]
    exact word_lt hy (by have := h.g.wl; have := h.fit.q; omega)
  unfold operate at hr
  by_cases h5 : sign = 5 ∨ sign = 6
  · rw [if_pos h5] at hr
    have HE : Hid (Calls Tryd.prog 58 #[.pointer (some ⟨C.lo, 0, none⟩), .int .i64 sign, .int .u64 (a : Int), .int .u64 (b : Int)] w (OkRun C s' n)) := by
      by_cases hfu : s.fuel = 0
      · rw [if_pos hfu] at hr
        simp only [Option.some.injEq, Prod.mk.injEq] at hr
        obtain ⟨rfl, rfl⟩ := hr
        exact equal_no h hfu
      · rw [if_neg hfu] at hr
        simp only [truth, ok, Option.some.injEq, Prod.mk.injEq] at hr
        obtain ⟨rfl, rfl⟩ := hr
        exact equal_yes h5 hn (examine_num h hfu hx hy ha hb)
    clear h hr
    rcases h5 with rfl | rfl
    all_goals
      go_enter Tryd.func39, Tryd.ntmps39
      go_wp2_with fail
      refine HE.out.mono ?_
      rintro e w' ⟨rfl, hw⟩
      have HW := Lib.hid hw
      clear hw
      go_wp2
      go_ret
      exact ⟨rfl, HW.out⟩
  · rw [if_neg h5] at hr
    have h5a : sign ≠ 5 := fun e => h5 (.inl e)
    have h5b : sign ≠ 6 := fun e => h5 (.inr e)
    by_cases h9 : sign = 9
    · rw [if_pos h9] at hr; simp at hr
    rw [if_neg h9] at hr
    have h10 : sign ≠ 10 := by
      rintro rfl
      simp [reckon] at hr
    have HC := Lib.hid fun (w : World) (h : RunE C w s) => calculate_t h hr hx hy hn hf htn
    have HI : Hid (∀ w, Calls Tryd.prog 52 #[.int .u64 (a : Int)] w fun e w' => e = .returned (.bool true) ∧ w = w') := fun w => isnum_v (.num x) a w ha hlt
    have HJ : Hid (∀ w, Calls Tryd.prog 52 #[.int .u64 (b : Int)] w fun e w' => e = .returned (.bool true) ∧ w = w') := fun w => isnum_v (.num y) b w hb hlt2
    have HNA := Lib.hid fun w => n_v x a w ha hx.1 hx.2
    have HNB := Lib.hid fun w => n_v y b w hb hy.1 hy.2
    have HE := Lib.hid h
    clear h hr
    have e5 : (sign == 5) = false := by rw [beq_eq_false_iff_ne]; exact h5a
    have e6 : (sign == 6) = false := by rw [beq_eq_false_iff_ne]; exact h5b
    have e9 : (sign == 9) = false := by rw [beq_eq_false_iff_ne]; exact h9
    have e10 : (sign == 10) = false := by rw [beq_eq_false_iff_ne]; exact h10
    go_enter Tryd.func39, Tryd.ntmps39
    go_wp2_with fail
    refine (HI.out _).mono ?_
    rintro e w' ⟨rfl, rfl⟩
    go_wp2_with fail
    refine (HJ.out _).mono ?_
    rintro e w' ⟨rfl, rfl⟩
    go_wp2_with fail
    refine (HNA.out _).mono ?_
    rintro e w' ⟨rfl, rfl⟩
    go_wp2_with fail
    refine (HNB.out _).mono ?_
    rintro e w' ⟨rfl, rfl⟩
    go_wp2_with fail
    refine (HC.out _ HE.out).mono ?_
    rintro e w' ⟨rfl, hw⟩
    have HW := Lib.hid hw
    clear hw
    go_wp2
    go_ret
    exact ⟨rfl, HW.out⟩

set_option maxHeartbeats 1000000 in
set_option maxRecDepth 100000 in
theorem do_ret {C : Cx} {s s' : Ms} {v : V} {t : List V} {f : Fr} {fs : List Fr} {w : World} (n a : Int) (str : ByteArray) (h : RunE C w s) (hs : s.stk = v :: t) (hf : s.frs = f :: fs) (hn : s.stk.length ≤ 1000000000) (hfn : s.frs.length ≤ 1000000000) (hl : leave s = some (0, s')) :
    Calls Tryd.prog 20 #[.pointer (some ⟨C.lo, 0, none⟩), .agg #[.int .u8 8, .int .i64 n, .int .i64 a, .string str]] w (OkRun C s' 0) := by
  have HL := Lib.hid fun (w : World) (h : RunE C w s) => leave_t h hs hf hn hfn hl
  have HLD : ∀ w, RunE C w s → Calls Tryd.prog 44 #[.pointer (some ⟨C.lo, 0, none⟩), .agg #[.int .u8 8, .int .i64 n, .int .i64 a, .string str]] w (VoidRun C s') := by
    intro w h
    have H1 := Lib.hid (HL.out _ (h.ins 8 n a str))
    clear h
    go_enter Tryd.func44, Tryd.ntmps44
    go_wp2_with fail
    refine H1.out.mono ?_
    rintro e w' ⟨rfl, hw⟩
    have HW := Lib.hid hw
    clear hw
    go_wp2
    refine bodyPost_ret (results_none rfl _ _ _) rfl ?_
    exact ⟨rfl, HW.out⟩
  have H1 := Lib.hid (HLD _ (h.ins 8 n a str))
  clear h HLD HL
  go_enter Tryd.func20, Tryd.ntmps20
  go_wp2_with fail
  refine H1.out.mono ?_
  rintro e w' ⟨rfl, hw⟩
  have HW := Lib.hid hw
  clear hw
  go_wp2
  go_ret
  exact ⟨rfl, HW.out⟩
end Go.Proofs.YtpmbdncackneoaaDoor
