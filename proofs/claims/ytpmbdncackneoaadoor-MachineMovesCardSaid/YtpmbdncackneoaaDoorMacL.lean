/- Two values compared, that have no parts. -/
import Derived.Test.YtpmbdncackneoaaDoorMacK
namespace Go.Proofs.YtpmbdncackneoaaDoor
open Go.RowKit HeaM Ma

/-- What a verdict is: 0 alike, 1 different. -/
def verd (b : Bool) : Int := if b then 0 else 1
theorem msame_t (b : Bool) (w : World) : Calls Tryd.prog 89 #[.bool b] w fun e w' => e = .returned (.int .i64 (verd b)) ∧ w = w' := by
  cases b with
  | true =>
    go_enter Tryd.func89, Tryd.ntmps89
    go_wp2
    go_ret
    exact ⟨rfl, rfl⟩
  | false =>
    go_enter Tryd.func89, Tryd.ntmps89
    go_wp2
    go_ret
    exact ⟨rfl, rfl⟩

set_option maxHeartbeats 2000000 in
set_option maxRecDepth 100000 in
theorem examine_num {C : Cx} {s : Ms} {x y : Int} {a b : Nat} {w : World} (h : RunE C w s) (hf : s.fuel ≠ 0) (hx : Rep s.W s.F (.num x)) (hy : Rep s.W s.F (.num y)) (ha : Hid ((V.num x).word = a)) (hb : Hid ((V.num y).word = b)) :
    Calls Tryd.prog 84 #[.pointer (some ⟨C.lo, 0, none⟩), .int .u64 (a : Int), .int .u64 (b : Int)] w fun e w' => e = .returned (.int .i64 (verd (decide (x = y)))) ∧ RunE C w' { s with fuel := s.fuel - 1 } := by
  have HS := Lib.hid (step_yes h hf)
  have hlt : a < 18446744073709551616 := by
    obtain ⟨_, _, _, _, _, _, _, h⟩ := h
    rw [← ha.out]
    exact word_lt hx (by have := h.g.wl; have := h.fit.q; omega)
  have hab : decide (a = b) = decide (x = y) := by rw [← ha.out, ← hb.out]; exact decide_eq_decide.2 (num_inj hx hy)
  have HAB := Lib.hid hab
  clear h hf hab
  go_enter Tryd.func84, Tryd.ntmps84
  go_wp2_with fail
  refine HS.out.mono ?_
  rintro e w1 ⟨rfl, h⟩
  have H := Lib.hid h
  clear h
  obtain ⟨vfr, vst, vtr, vout, vdn, v1, v2, h1⟩ := H.out
  obtain ⟨c0, _⟩ := h1.cells
  obtain ⟨m0, _⟩ := h1.mach
  have HK := Lib.hid (kind_v w1 h1.g.heap h1.g.len (by have := h1.g.wl; have := h1.fit.q; omega) hx ha)
  clear h1
  have HI := Lib.hid fun w => isnum_v (.num x) a w ha hlt
  go_wp2_with fail
  refine HK.out.mono ?_
  rintro e w' ⟨rfl, nq, rfl⟩
  have HW : Hid (RunE C (w1.drewN nq) { s with fuel := s.fuel - 1 }) := H.out.drewN nq
  have hk0 : ((V.num x).kind : Int) = 0 := rfl
  clear c0 m0 H HK
  generalize w1.drewN nq = w2 at *
  go_wp2_with fail
  refine (HI.out _).mono ?_
  rintro e w' ⟨rfl, rfl⟩
  have hi : (V.num x).isNum = true := rfl
  rw [hi]
  go_wp2_with fail
  have e : ((a : Int) == (b : Int)) = decide (x = y) := by
    rw [← HAB.out, Bool.eq_iff_iff, beq_iff_eq, decide_eq_true_eq]
    omega
  rw [e]
  refine (msame_t _ _).mono ?_
  rintro e w' ⟨rfl, rfl⟩
  go_wp2
  go_ret
  exact ⟨rfl, HW.out⟩

set_option maxHeartbeats 1000000 in
theorem examine_no {C : Cx} {s : Ms} {a b : Int} {w : World} (h : RunE C w s) (hf : s.fuel = 0) :
    Calls Tryd.prog 84 #[.pointer (some ⟨C.lo, 0, none⟩), .int .u64 a, .int .u64 b] w fun e w' => e = .returned (.int .i64 4) ∧ RunE C w' s := by
  have HS := Lib.hid (step_no h hf)
  clear h hf
  go_enter Tryd.func84, Tryd.ntmps84
  go_wp2_with fail
  refine HS.out.mono ?_
  rintro e w1 ⟨rfl, h⟩
  have H := Lib.hid h
  clear h
  go_wp2
  go_ret
  exact ⟨rfl, H.out⟩

set_option maxHeartbeats 2000000 in
set_option maxRecDepth 100000 in
/-- Verdicts that are told at once: alike, different, spent. -/
theorem compare_t {C : Cx} {s' : Ms} {a b v : Int} {w : World} (hv : v = 0 ∨ v = 1 ∨ v = 4) (h : Calls Tryd.prog 84 #[.pointer (some ⟨C.lo, 0, none⟩), .int .u64 a, .int .u64 b] w fun e w' => e = .returned (.int .i64 v) ∧ RunE C w' s') :
    Calls Tryd.prog 80 #[.pointer (some ⟨C.lo, 0, none⟩), .int .u64 a, .int .u64 b] w fun e w' => e = .returned (.int .i64 v) ∧ RunE C w' s' := by
  have HE := Lib.hid h
  clear h
  rcases hv with rfl | rfl | rfl
  · go_enter Tryd.func80, Tryd.ntmps80
    go_wp2_with fail
    refine wp_loop_rounds 1 ?_
    rw [rounds_succ]
    go_wp2_with fail
    refine HE.out.mono ?_
    rintro e w1 ⟨rfl, h⟩
    have H := Lib.hid h
    clear h
    go_wp2_with fail
    refine wp_loop_rounds 1 ?_
    rw [rounds_succ]
    go_wp2_with fail
    go_quiet (fail)
    have HW : Hid (RunE C (w1.drewN nq) s') := H.out.drewN nq
    generalize w1.drewN nq = w2 at *
    go_wp2_with fail
    go_ret
    exact ⟨rfl, HW.out⟩
  all_goals
    go_enter Tryd.func80, Tryd.ntmps80
    go_wp2_with fail
    refine wp_loop_rounds 1 ?_
    rw [rounds_succ]
    go_wp2_with fail
    refine HE.out.mono ?_
    rintro e w1 ⟨rfl, h⟩
    have H := Lib.hid h
    clear h
    go_wp2_with fail
    go_ret
    exact ⟨rfl, H.out⟩

set_option maxHeartbeats 2000000 in
set_option maxRecDepth 100000 in
theorem equal_no {C : Cx} {s : Ms} {a b sign : Int} {w : World} (h : RunE C w s) (hf : s.fuel = 0) :
    Calls Tryd.prog 58 #[.pointer (some ⟨C.lo, 0, none⟩), .int .i64 sign, .int .u64 a, .int .u64 b] w (OkRun C s 10) := by
  have HC := Lib.hid (compare_t (.inr (.inr rfl)) (examine_no (a := a) (b := b) h hf))
  clear h hf
  go_enter Tryd.func58, Tryd.ntmps58
  go_wp2_with fail
  refine HC.out.mono ?_
  rintro e w1 ⟨rfl, h⟩
  have H := Lib.hid h
  clear h
  go_wp2_with fail
  go_ret
  exact ⟨rfl, H.out⟩

set_option maxHeartbeats 2000000 in
set_option maxRecDepth 100000 in
theorem equal_yes {C : Cx} {s1 : Ms} {a b sign : Int} {y : Bool} {w : World} (hs : sign = 5 ∨ sign = 6) (hn : s1.stk.length ≤ 1000000000) (h : Calls Tryd.prog 84 #[.pointer (some ⟨C.lo, 0, none⟩), .int .u64 a, .int .u64 b] w fun e w' => e = .returned (.int .i64 (verd y)) ∧ RunE C w' s1) :
    Calls Tryd.prog 58 #[.pointer (some ⟨C.lo, 0, none⟩), .int .i64 sign, .int .u64 a, .int .u64 b] w (OkRun C (Ma.push s1 (.num (if (y == decide (sign = 5)) then 1 else 0))) 0) := by
  have HC := Lib.hid (compare_t (by cases y <;> simp [verd]) h)
  have HT := Lib.hid fun (w : World) (h : RunE C w s1) => truth_t (y == decide (sign = 5)) h hn
  clear h
  rcases hs with rfl | rfl <;> cases y
  all_goals
    simp only [verd] at HC
    go_enter Tryd.func58, Tryd.ntmps58
    go_wp2_with fail
    refine HC.out.mono ?_
    rintro e w1 ⟨rfl, h⟩
    have H := Lib.hid h
    clear h
    go_wp2_with fail
    refine (HT.out _ H.out).mono ?_
    rintro e w' ⟨rfl, hw⟩
    have HW := Lib.hid hw
    clear hw
    go_wp2
    go_ret
    exact ⟨rfl, HW.out⟩
end Go.Proofs.YtpmbdncackneoaaDoor
