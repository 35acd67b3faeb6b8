/- MacJ, MacK, MacL, in one text. -/
import Derived.Test.YteenlckpjncgoaaDoorMacI

namespace Go.Proofs.YteenlckpjncgoaaDoor
open Go.RowKit HeaM Ma

theorem land_stk {s s1 : Ms} {t : Tr} {ts : List Tr} (h : land s t ts = some s1) : s1.stk.length ≤ s.stk.length := by
  unfold land at h
  split at h
  · split at h
    · cases h
    · simp only [Option.some.injEq] at h
      subst h
      simp only [List.length_drop]
      omega
  · cases h

set_option maxHeartbeats 1000000 in
set_option maxRecDepth 100000 in
theorem raise_no {C : Cx} {s : Ms} {w : World} (str : ByteArray) (h : RunE C w s) (ht : s.trs = []) :
    Calls Tryd.prog 51 #[.pointer (some ⟨C.lo, 0, none⟩), .string str] w (OkRun C { s with raised := str.data.toList } 9) := by
  have HL := Lib.hid (land_no h ht)
  clear h
  go_enter Tryd.func51, Tryd.ntmps51
  go_wp2_with fail
  refine HL.out.mono ?_
  rintro e w1 ⟨rfl, h⟩
  obtain ⟨vfr, vst, vtr, vout, vdn, v1, v2, h⟩ := h
  have c9 := h.cells.2.2.2.2.2.2.2.2.2.1
  have f9 := h.free 9
  have hF := RunF.setR (j := 9) (u := .string str) (s := { s with raised := str.data.toList }) h.fit ⟨_, _, _, _, _, _, h.cell, rfl⟩ (by
    have hG := h.g
    exact { hG with })
  have HF := Lib.hid hF
  clear h hF
  go_wp2_with fail
  go_ret
  exact ⟨rfl, _, _, _, _, _, _, _, HF.out⟩

set_option maxHeartbeats 1000000 in
set_option maxRecDepth 100000 in
theorem raise_yes {C : Cx} {s s1 s' : Ms} {t : Tr} {ts : List Tr} {w : World} (str : ByteArray) (h : RunE C w s) (ht : s.trs = t :: ts) (hl : land s t ts = some s1) (hp : putText C.m s1 (if 4096 < str.data.toList.length then tLong else str.data.toList) = some (0, s')) (hn : s.stk.length ≤ 1000000000) (hf : s.frs.length ≤ 1000000000) (htn : s.trs.length ≤ 1000000000) :
    Calls Tryd.prog 51 #[.pointer (some ⟨C.lo, 0, none⟩), .string str] w (OkRun C s' 0) := by
  have HL := Lib.hid (land_yes h ht hl hf htn)
  have hs1 := land_stk hl
  have hsz : str.data.toList.length = str.size := rfl
  rw [hsz] at hp
  clear h ht hl
  by_cases h4 : 4096 < str.size
  · rw [if_pos h4] at hp
    have HT := Lib.hid fun (w : World) (h : RunE C w s1) => text_short ⟨#[108, 111, 110, 103]⟩ h rfl (by decide) hp (by omega)
    have h4i : (4096 : Int) < (str.size : Int) := by omega
    clear hp h4
    go_enter Tryd.func51, Tryd.ntmps51
    go_wp2_with fail
    refine HL.out.mono ?_
    rintro e w1 ⟨rfl, h⟩
    have H := Lib.hid h
    clear h
    go_wp2_with fail
    refine (HT.out _ H.out).mono ?_
    rintro e w' ⟨rfl, hw⟩
    have HW := Lib.hid hw
    clear hw
    go_wp2
    go_ret
    exact ⟨rfl, HW.out⟩
  · rw [if_neg h4] at hp
    have HT := Lib.hid fun (w : World) (h : RunE C w s1) => text_short str h rfl (by rw [hsz]; omega) hp (by omega)
    have h4i : ¬ (4096 : Int) < (str.size : Int) := by omega
    clear hp h4
    go_enter Tryd.func51, Tryd.ntmps51
    go_wp2_with fail
    refine HL.out.mono ?_
    rintro e w1 ⟨rfl, h⟩
    have H := Lib.hid h
    clear h
    go_wp2_with fail
    refine (HT.out _ H.out).mono ?_
    rintro e w' ⟨rfl, hw⟩
    have HW := Lib.hid hw
    clear hw
    go_wp2
    go_ret
    exact ⟨rfl, HW.out⟩

theorem putText_zero {c : Mc} {s s' : Ms} {l : List UInt8} {n : Nat} (h : putText c s l = some (n, s')) : n = 0 := by
  unfold putText at h
  by_cases hq : s.W.length + need 3 l.length ≤ c.q
  · rw [if_pos hq] at h
    simp only [ok, Option.some.injEq, Prod.mk.injEq] at h
    exact h.1.symm
  · rw [if_neg hq] at h; cases h
theorem raise_nil {c : Mc} {s : Ms} {l : List UInt8} (h : s.trs = []) : raise c s l = some (9, { s with raised := l }) := by
  unfold raise; simp only [h]
theorem raise_cons {c : Mc} {s s' : Ms} {l : List UInt8} {t : Tr} {ts : List Tr} {n : Nat} (h : s.trs = t :: ts) (hr : raise c s l = some (n, s')) : ∃ s1, land s t ts = some s1 ∧ putText c s1 (if 4096 < l.length then tLong else l) = some (n, s') := by
  unfold raise at hr
  rw [h] at hr
  rcases hl : land s t ts with _ | s1
  · simp only [hl] at hr; cases hr
  · simp only [hl] at hr; exact ⟨s1, rfl, hr⟩

theorem raise_t {C : Cx} {s s' : Ms} {n : Nat} {l : List UInt8} {w : World} (str : ByteArray) (h : RunE C w s) (hl : str.data.toList = l) (hr : raise C.m s l = some (n, s')) (hn : s.stk.length ≤ 1000000000) (hf : s.frs.length ≤ 1000000000) (htn : s.trs.length ≤ 1000000000) :
    Calls Tryd.prog 51 #[.pointer (some ⟨C.lo, 0, none⟩), .string str] w (OkRun C s' n) := by
  subst hl
  rcases ht : s.trs with _ | ⟨t, ts⟩
  · rw [raise_nil ht] at hr
    simp only [Option.some.injEq, Prod.mk.injEq] at hr
    obtain ⟨rfl, rfl⟩ := hr
    exact raise_no str h ht
  · obtain ⟨s1, hl, hp⟩ := raise_cons ht hr
    obtain rfl := putText_zero hp
    exact raise_yes str h ht hl hp hn hf htn

set_option maxHeartbeats 1000000 in
set_option maxRecDepth 100000 in
theorem text_t' {C : Cx} {s s' : Ms} {n : Nat} {l : List UInt8} {w : World} (str : ByteArray) (h : RunE C w s) (hl : str.data.toList = l) (hr : Ma.text C.m s l = some (n, s')) (hn : s.stk.length ≤ 1000000000) (hf : s.frs.length ≤ 1000000000) (htn : s.trs.length ≤ 1000000000) :
    Calls Tryd.prog 43 #[.pointer (some ⟨C.lo, 0, none⟩), .string str] w (OkRun C s' n) := by
  subst hl
  have hsz : str.data.toList.length = str.size := rfl
  unfold Ma.text at hr
  by_cases h4 : 4096 < str.data.toList.length
  · rw [if_pos h4] at hr
    rw [hsz] at h4
    have HR := Lib.hid (raise_t ⟨#[108, 111, 110, 103]⟩ h rfl hr hn hf htn)
    have h4i : (4096 : Int) < (str.size : Int) := by omega
    clear h hr h4
    go_enter Tryd.func43, Tryd.ntmps43
    go_wp2_with fail
    refine HR.out.mono ?_
    rintro e w' ⟨rfl, hw⟩
    have HW := Lib.hid hw
    clear hw
    go_wp2
    go_ret
    exact ⟨rfl, HW.out⟩
  · rw [if_neg h4] at hr
    obtain rfl := putText_zero hr
    exact text_short str h rfl (by omega) hr hn
end Go.Proofs.YteenlckpjncgoaaDoor

namespace Go.Proofs.YteenlckpjncgoaaDoor
open Go.RowKit HeaM Ma

theorem cut_wrap (n : Int) : cut (wrap64 n) = cut n := by
  unfold wrap64 cut
  omega

set_option maxHeartbeats 4000000 in
set_option maxRecDepth 100000 in
theorem calculate_t {C : Cx} {s s' : Ms} {n : Nat} {sign a b : Int} {w : World} (h : RunE C w s) (hr : reckon C.m s sign a b = some (n, s')) (ha : -4611686018427387904 ≤ a ∧ a < 4611686018427387904) (hb : -4611686018427387904 ≤ b ∧ b < 4611686018427387904) (hn : s.stk.length ≤ 1000000000) (hf : s.frs.length ≤ 1000000000) (htn : s.trs.length ≤ 1000000000) :
    Calls Tryd.prog 71 #[.pointer (some ⟨C.lo, 0, none⟩), .int .i64 sign, .int .i64 a, .int .i64 b] w (OkRun C s' n) := by
  have HA := Lib.hid fun k => answer_t k h hn
  have HT := Lib.hid fun k => truth_t k h hn
  have HRA := Lib.hid fun (n : Nat) (s' : Ms) (hr : raise C.m s [100, 105, 118] = some (n, s')) => raise_t ⟨#[100, 105, 118]⟩ h rfl hr hn hf htn
  clear h hn hf htn
  unfold reckon at hr
  by_cases h0 : sign = 0
  · rw [if_pos h0] at hr
    subst h0
    simp only [answer, ok, Option.some.injEq, Prod.mk.injEq] at hr
    obtain ⟨rfl, rfl⟩ := hr
    go_enter Tryd.func71, Tryd.ntmps71
    go_wp2_with fail
    refine (HA.out _).mono ?_
    rintro e w' ⟨rfl, hw⟩
    have HW := Lib.hid hw
    clear hw
    go_wp2
    go_ret
    exact ⟨rfl, HW.out⟩
  rw [if_neg h0] at hr
  by_cases h1 : sign = 1
  · rw [if_pos h1] at hr
    subst h1
    simp only [answer, ok, Option.some.injEq, Prod.mk.injEq] at hr
    obtain ⟨rfl, rfl⟩ := hr
    go_enter Tryd.func71, Tryd.ntmps71
    go_wp2_with fail
    refine (HA.out _).mono ?_
    rintro e w' ⟨rfl, hw⟩
    have HW := Lib.hid hw
    clear hw
    go_wp2
    go_ret
    exact ⟨rfl, HW.out⟩
  rw [if_neg h1] at hr
  by_cases h2 : sign = 2
  · rw [if_pos h2] at hr
    subst h2
    simp only [answer, ok, Option.some.injEq, Prod.mk.injEq] at hr
    obtain ⟨rfl, rfl⟩ := hr
    go_enter Tryd.func71, Tryd.ntmps71
    go_wp2_with fail
    refine (HA.out _).mono ?_
    rintro e w' ⟨rfl, hw⟩
    have HW := Lib.hid hw
    clear hw
    go_wp2
    go_ret
    exact ⟨rfl, by have h := HW.out; rw [cut_wrap] at h; exact h⟩
  rw [if_neg h2] at hr
  by_cases h7 : sign = 7
  · rw [if_pos h7] at hr
    subst h7
    simp only [truth, ok, Option.some.injEq, Prod.mk.injEq] at hr
    obtain ⟨rfl, rfl⟩ := hr
    have HTT := Lib.hid (HT.out (decide (a < b)))
    clear HA HT HRA
    obtain ⟨t, ht⟩ : ∃ t, decide (a < b) = t := ⟨_, rfl⟩
    rw [ht] at HTT ⊢
    cases t with
    | true =>
      have hc := of_decide_eq_true ht
      go_enter Tryd.func71, Tryd.ntmps71
      go_wp2_with fail
      refine HTT.out.mono ?_
      rintro e w' ⟨rfl, hw⟩
      have HW := Lib.hid hw
      clear hw
      go_wp2
      go_ret
      exact ⟨rfl, HW.out⟩
    | false =>
      have hc := of_decide_eq_false ht
      go_enter Tryd.func71, Tryd.ntmps71
      go_wp2_with fail
      refine HTT.out.mono ?_
      rintro e w' ⟨rfl, hw⟩
      have HW := Lib.hid hw
      clear hw
      go_wp2
      go_ret
      exact ⟨rfl, HW.out⟩
  rw [if_neg h7] at hr
  by_cases h8 : sign = 8
  · rw [if_pos h8] at hr
    subst h8
    simp only [truth, ok, Option.some.injEq, Prod.mk.injEq] at hr
    obtain ⟨rfl, rfl⟩ := hr
    have HTT := Lib.hid (HT.out (decide (a ≤ b)))
    clear HA HT HRA
    obtain ⟨t, ht⟩ : ∃ t, decide (a ≤ b) = t := ⟨_, rfl⟩
    rw [ht] at HTT ⊢
    cases t with
    | true =>
      have hc := of_decide_eq_true ht
      go_enter Tryd.func71, Tryd.ntmps71
      go_wp2_with fail
      refine HTT.out.mono ?_
      rintro e w' ⟨rfl, hw⟩
      have HW := Lib.hid hw
      clear hw
      go_wp2
      go_ret
      exact ⟨rfl, HW.out⟩
    | false =>
      have hc := of_decide_eq_false ht
      go_enter Tryd.func71, Tryd.ntmps71
      go_wp2_with fail
      refine HTT.out.mono ?_
      rintro e w' ⟨rfl, hw⟩
      have HW := Lib.hid hw
      clear hw
      go_wp2
      go_ret
      exact ⟨rfl, HW.out⟩
  rw [if_neg h8] at hr
  by_cases h34 : sign ≠ 3 ∧ sign ≠ 4
  · rw [if_pos h34] at hr; cases hr
  rw [if_neg h34] at hr
  by_cases hb0 : b = 0
  · rw [if_pos hb0] at hr
    subst hb0
    have HR := Lib.hid (HRA.out _ _ hr)
    clear hr
    have e0 : (sign == 0) = false := by rw [beq_eq_false_iff_ne]; exact h0
    have e1 : (sign == 1) = false := by rw [beq_eq_false_iff_ne]; exact h1
    have e2 : (sign == 2) = false := by rw [beq_eq_false_iff_ne]; exact h2
    have e7 : (sign == 7) = false := by rw [beq_eq_false_iff_ne]; exact h7
    have e8 : (sign == 8) = false := by rw [beq_eq_false_iff_ne]; exact h8
    go_enter Tryd.func71, Tryd.ntmps71
    go_wp2_with fail
    refine HR.out.mono ?_
    rintro e w' ⟨rfl, hw⟩
    have HW := Lib.hid hw
    clear hw
    go_wp2
    go_ret
    exact ⟨rfl, HW.out⟩
  rw [if_neg hb0] at hr
  have hbz : (b == 0) = false := by rw [beq_eq_false_iff_ne]; exact hb0
  by_cases h3 : sign = 3
  · rw [if_pos h3] at hr
    subst h3
    simp only [answer, ok, Option.some.injEq, Prod.mk.injEq] at hr
    obtain ⟨rfl, rfl⟩ := hr
    go_enter Tryd.func71, Tryd.ntmps71
    go_wp2_with fail
    refine (HA.out _).mono ?_
    rintro e w' ⟨rfl, hw⟩
    have HW := Lib.hid hw
    clear hw
    go_wp2
    go_ret
    exact ⟨rfl, by have h := HW.out; rw [cut_wrap] at h; exact h⟩
  rw [if_neg h3] at hr
  by_cases h4 : sign = 4
  · rw [if_pos h4] at hr
    subst h4
    simp only [answer, ok, Option.some.injEq, Prod.mk.injEq] at hr
    obtain ⟨rfl, rfl⟩ := hr
    go_enter Tryd.func71, Tryd.ntmps71
    go_wp2_with fail
    refine (HA.out _).mono ?_
    rintro e w' ⟨rfl, hw⟩
    have HW := Lib.hid hw
    clear hw
    go_wp2
    go_ret
    exact ⟨rfl, HW.out⟩
  rw [if_neg h4] at hr
  cases hr
end Go.Proofs.YteenlckpjncgoaaDoor

namespace Go.Proofs.YteenlckpjncgoaaDoor
open Go.RowKit HeaM Ma

/-- What a verdict is: 0 alike, 1 different. -/
def verd (b : Bool) : Int := if b then 0 else 1
theorem msame_t (b : Bool) (w : World) : Calls Tryd.prog 95 #[.bool b] w fun e w' => e = .returned (.int .i64 (verd b)) ∧ w = w' := by
  cases b with
  | true =>
    go_enter Tryd.func95, Tryd.ntmps95
    go_wp2
    go_ret
    exact ⟨rfl, rfl⟩
  | false =>
    go_enter Tryd.func95, Tryd.ntmps95
    go_wp2
    go_ret
    exact ⟨rfl, rfl⟩

set_option maxHeartbeats 2000000 in
set_option maxRecDepth 100000 in
theorem examine_num {C : Cx} {s : Ms} {x y : Int} {a b : Nat} {w : World} (h : RunE C w s) (hf : s.fuel ≠ 0) (hx : Rep s.W s.F (.num x)) (hy : Rep s.W s.F (.num y)) (ha : Hid ((V.num x).word = a)) (hb : Hid ((V.num y).word = b)) :
    Calls Tryd.prog 90 #[.pointer (some ⟨C.lo, 0, none⟩), .int .u64 (a : Int), .int .u64 (b : Int)] w fun e w' => e = .returned (.int .i64 (verd (decide (x = y)))) ∧ RunE C w' { s with fuel := s.fuel - 1 } := by
  have HS := Lib.hid (step_yes h hf)
  have hlt : a < 18446744073709551616 := by
    obtain ⟨_, _, _, _, _, _, _, h⟩ := h
    rw [← ha.out]
    exact word_lt hx (by have := h.g.wl; have := h.fit.q; omega)
  have hab : decide (a = b) = decide (x = y) := by rw [← ha.out, ← hb.out]; exact decide_eq_decide.2 (num_inj hx hy)
  have HAB := Lib.hid hab
  clear h hf hab
  go_enter Tryd.func90, Tryd.ntmps90
  go_wp2_with fail
  refine HS.out.mono ?_
  rintro e w1 ⟨rfl, h⟩
  have H := Lib.hid h
  clear h
  obtain ⟨vfr, vst, vtr, vout, vdn, v1, v2, h1⟩ := H.out
  obtain ⟨c0, _⟩ := h1.cells
  obtain ⟨m0, _⟩ := h1.mach
  have HK := Lib.hid (kind_v w1 h1.g.heap h1.g.len (by have := h1.g.wl; have := h1.fit.q; omega) hx ha)
  clear h1
  have HI := Lib.hid fun w => isnum_v (.num x) a w ha hlt
  go_wp2_with fail
  refine HK.out.mono ?_
  rintro e w' ⟨rfl, nq, rfl⟩
  have HW : Hid (RunE C (w1.drewN nq) { s with fuel := s.fuel - 1 }) := H.out.drewN nq
  have hk0 : ((V.num x).kind : Int) = 0 := rfl
  clear c0 m0 H HK
  generalize w1.drewN nq = w2 at *
  go_wp2_with fail
  refine (HI.out _).mono ?_
  rintro e w' ⟨rfl, rfl⟩
  have hi : (V.num x).isNum = true := rfl
  rw [hi]
  go_wp2_with fail
  have e : ((a : Int) == (b : Int)) = decide (x = y) := by
    rw [← HAB.out, Bool.eq_iff_iff, beq_iff_eq, decide_eq_true_eq]
    omega
  rw [e]
  refine (msame_t _ _).mono ?_
  rintro e w' ⟨rfl, rfl⟩
  go_wp2
  go_ret
  exact ⟨rfl, HW.out⟩

set_option maxHeartbeats 1000000 in
theorem examine_no {C : Cx} {s : Ms} {a b : Int} {w : World} (h : RunE C w s) (hf : s.fuel = 0) :
    Calls Tryd.prog 90 #[.pointer (some ⟨C.lo, 0, none⟩), .int .u64 a, .int .u64 b] w fun e w' => e = .returned (.int .i64 4) ∧ RunE C w' s := by
  have HS := Lib.hid (step_no h hf)
  clear h hf
  go_enter Tryd.func90, Tryd.ntmps90
  go_wp2_with fail
  refine HS.out.mono ?_
  rintro e w1 ⟨rfl, h⟩
  have H := Lib.hid h
  clear h
  go_wp2
  go_ret
  exact ⟨rfl, H.out⟩

set_option maxHeartbeats 2000000 in
set_option maxRecDepth 100000 in
/-- Verdicts that are told at once: alike, different, spent. -/
theorem compare_t {C : Cx} {s' : Ms} {a b v : Int} {w : World} (hv : v = 0 ∨ v = 1 ∨ v = 4) (h : Calls Tryd.prog 90 #[.pointer (some ⟨C.lo, 0, none⟩), .int .u64 a, .int .u64 b] w fun e w' => e = .returned (.int .i64 v) ∧ RunE C w' s') :
    Calls Tryd.prog 87 #[.pointer (some ⟨C.lo, 0, none⟩), .int .u64 a, .int .u64 b] w fun e w' => e = .returned (.int .i64 v) ∧ RunE C w' s' := by
  have HE := Lib.hid h
  clear h
  rcases hv with rfl | rfl | rfl
  · go_enter Tryd.func87, Tryd.ntmps87
    go_wp2_with fail
    refine wp_loop_rounds 1 ?_
    rw [rounds_succ]
    go_wp2_with fail
    refine HE.out.mono ?_
    rintro e w1 ⟨rfl, h⟩
    have H := Lib.hid h
    clear h
    go_wp2_with fail
    refine wp_loop_rounds 1 ?_
    rw [rounds_succ]
    go_wp2_with fail
    go_quiet (fail)
    have HW : Hid (RunE C (w1.drewN nq) s') := H.out.drewN nq
    generalize w1.drewN nq = w2 at *
    go_wp2_with fail
    go_ret
    exact ⟨rfl, HW.out⟩
  all_goals
    go_enter Tryd.func87, Tryd.ntmps87
    go_wp2_with fail
    refine wp_loop_rounds 1 ?_
    rw [rounds_succ]
    go_wp2_with fail
    refine HE.out.mono ?_
    rintro e w1 ⟨rfl, h⟩
    have H := Lib.hid h
    clear h
    go_wp2_with fail
    go_ret
    exact ⟨rfl, H.out⟩

set_option maxHeartbeats 2000000 in
set_option maxRecDepth 100000 in
theorem equal_no {C : Cx} {s : Ms} {a b sign : Int} {w : World} (h : RunE C w s) (hf : s.fuel = 0) :
    Calls Tryd.prog 69 #[.pointer (some ⟨C.lo, 0, none⟩), .int .i64 sign, .int .u64 a, .int .u64 b] w (OkRun C s 10) := by
  have HC := Lib.hid (compare_t (.inr (.inr rfl)) (examine_no (a := a) (b := b) h hf))
  clear h hf
  go_enter Tryd.func69, Tryd.ntmps69
  go_wp2_with fail
  refine HC.out.mono ?_
  rintro e w1 ⟨rfl, h⟩
  have H := Lib.hid h
  clear h
  go_wp2_with fail
  go_ret
  exact ⟨rfl, H.out⟩

set_option maxHeartbeats 2000000 in
set_option maxRecDepth 100000 in
theorem equal_yes {C : Cx} {s1 : Ms} {a b sign : Int} {y : Bool} {w : World} (hs : sign = 5 ∨ sign = 6) (hn : s1.stk.length ≤ 1000000000) (h : Calls Tryd.prog 90 #[.pointer (some ⟨C.lo, 0, none⟩), .int .u64 a, .int .u64 b] w fun e w' => e = .returned (.int .i64 (verd y)) ∧ RunE C w' s1) :
    Calls Tryd.prog 69 #[.pointer (some ⟨C.lo, 0, none⟩), .int .i64 sign, .int .u64 a, .int .u64 b] w (OkRun C (Ma.push s1 (.num (if (y == decide (sign = 5)) then 1 else 0))) 0) := by
  have HC := Lib.hid (compare_t (by cases y <;> simp [verd]) h)
  have HT := Lib.hid fun (w : World) (h : RunE C w s1) => truth_t (y == decide (sign = 5)) h hn
  clear h
  rcases hs with rfl | rfl <;> cases y
  all_goals
    simp only [verd] at HC
    go_enter Tryd.func69, Tryd.ntmps69
    go_wp2_with fail
    refine HC.out.mono ?_
    rintro e w1 ⟨rfl, h⟩
    have H := Lib.hid h
    clear h
    go_wp2_with fail
    refine (HT.out _ H.out).mono ?_
    rintro e w' ⟨rfl, hw⟩
    have HW := Lib.hid hw
    clear hw
    go_wp2
    go_ret
    exact ⟨rfl, HW.out⟩
end Go.Proofs.YteenlckpjncgoaaDoor
