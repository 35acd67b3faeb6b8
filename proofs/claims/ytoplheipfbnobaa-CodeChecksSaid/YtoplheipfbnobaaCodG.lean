/- The reference: what an instruction takes and leaves; whether it may stand there. -/
import Derived.Test.YtoplheipfbnobaaCodF
namespace CodM
def rtk (x : Ins) : Int :=
  if x.op = 6 then x.a else if x.op = 9 then (if x.n < 2 ∨ 1000 < x.n then -1 else x.n) else if x.op = 18 then (if x.n < 1 ∨ 1000000 < x.n then -1 else x.n + 1)
  else if x.op = 10 ∨ x.op = 11 ∨ x.op = 17 then (if x.n < 0 ∨ 100000 < x.n then -1 else 1) else if x.op = 7 then 2
  else if x.op = 20 then (if x.n < 0 ∨ 10 < x.n then -1 else 2)
  else if x.op = 8 ∨ x.op = 13 ∨ x.op = 14 ∨ x.op = 15 ∨ x.op = 16 ∨ x.op = 19 ∨ x.op = 21 ∨ x.op = 22 ∨ x.op = 23 then 1
  else if x.op ≤ 5 ∨ x.op = 12 ∨ x.op = 24 ∨ x.op = 25 ∨ x.op = 26 then 0 else -1
def rlv (x : Ins) : Int := if x.op = 8 ∨ x.op = 12 ∨ x.op = 13 ∨ x.op = 19 ∨ x.op = 24 ∨ x.op = 25 ∨ x.op = 26 then 0 else 1

/-- The reference's test, by its parts. -/
def rfn (fs : List Fun) (caps globs : Int) (x : Ins) (d t : Int) : Bool :=
  if x.op = 2 then decide (0 ≤ x.n ∧ x.n < d)
  else if x.op = 3 then decide (0 ≤ x.n ∧ x.n < caps)
  else if x.op = 5 then decide (0 ≤ x.n ∧ x.n < globs)
  else if x.op = 6 then decide (0 ≤ x.n ∧ x.n < fs.length ∧ (fs[x.n.toNat]?.map Fun.caps) = some x.a)
  else if x.op = 8 then decide (d = 2 ∧ t = 0)
  else if x.op = 25 then decide (0 < t)
  else true

theorem alw_tk_eq {fs : List Fun} {caps globs : Int} {x : Ins} {d t : Int} (h : alw fs caps globs x d t = true) (hd : d ≤ 1000000) (h1 : 1 ≤ d) : rtk x = tk x ∧ rtk x < d ∧ 0 ≤ rtk x ∧ rfn fs caps globs x d t = true := by
  obtain ⟨hT0, hT1, hL0, hL1, h18⟩ := alw_tk h hd h1
  unfold alw at h
  simp only [Bool.and_eq_true, decide_eq_true_eq] at h
  obtain ⟨⟨h0, h2⟩, h3⟩ := h
  have hr : rtk x = tk x := by
    unfold nm at h2
    unfold rtk
    by_cases e18 : x.op = 18
    · have := h18 e18
      rw [if_neg (by omega), if_neg (by omega), if_pos e18, this]
      rw [if_neg (by omega), if_neg (by omega), if_neg (by omega), if_neg (by omega), if_neg (by omega), if_pos e18, decide_eq_true_eq] at h2
      rw [if_neg (by omega)]
    · unfold tk
      repeat' split
      all_goals first | rfl | omega | (simp only [*, if_true, if_false] at h2; omega) | skip
      all_goals (exfalso; revert h2; repeat' split) 
      all_goals first | (intro h2; rw [decide_eq_true_eq] at h2; omega) | (intro h2; omega)
  refine ⟨hr, ?_, by omega, ?_⟩
  · rw [hr]
    by_cases e8 : x.op = 8
    · rw [if_pos e8, decide_eq_true_eq] at h3
      have : tk x = 1 := by unfold tk; rw [if_neg (by omega), if_neg (by omega), if_neg (by omega), if_neg (by omega), if_pos (by omega)]
      omega
    · rw [if_neg e8] at h3
      by_cases e25 : x.op = 25
      · have : tk x = 0 := by unfold tk; rw [if_neg (by omega), if_neg (by omega), if_neg (by omega), if_neg (by omega), if_neg (by omega)]
        omega
      · rw [if_neg e25, decide_eq_true_eq] at h3
        exact h3
  · unfold rfn
    unfold nm at h2
    by_cases e2 : x.op = 2
    · rw [if_pos e2] at *; exact h2
    by_cases e3 : x.op = 3
    · rw [if_neg e2, if_pos e3] at *; exact h2
    by_cases e5 : x.op = 5
    · rw [if_neg e2, if_neg e3, if_pos e5] at *; exact h2
    by_cases e6 : x.op = 6
    · rw [if_neg e2, if_neg e3, if_neg e5, if_pos e6] at *
      rw [decide_eq_true_eq] at *
      exact ⟨h2.1, h2.2.1, h2.2.2.2⟩
    rw [if_neg e2, if_neg e3, if_neg e5, if_neg e6]
    by_cases e8 : x.op = 8
    · rw [if_pos e8] at *; exact h3
    by_cases e25 : x.op = 25
    · rw [if_neg e8, if_pos e25] at *; exact h3
    rw [if_neg e8, if_neg e25]

theorem alw_of {fs : List Fun} {caps globs : Int} {x : Ins} {d t : Int} (h1 : rtk x < d) (h2 : 0 ≤ rtk x) (h3 : rfn fs caps globs x d t = true) (hd : d ≤ 1000000) (h0 : 1 ≤ d) : alw fs caps globs x d t = true := by
  have h26 : x.op ≤ 26 := by
    unfold rtk at h2
    revert h2
    repeat' split
    all_goals (intro h2; omega)
  have htk : x.op ≠ 18 → rtk x = tk x := by
    intro e18
    unfold rtk at h2 ⊢
    unfold tk
    revert h2
    repeat' split
    all_goals (intro h2; first | rfl | omega)
  have h18 : x.op = 18 → 1 ≤ x.n ∧ x.n + 1 < d ∧ tk x = x.n + 1 := by
    intro e
    unfold rtk at h1 h2
    rw [if_neg (by omega), if_neg (by omega), if_pos e] at h1 h2
    have hn : ¬ (x.n < 1 ∨ 1000000 < x.n) := by
      intro hh
      rw [if_pos hh] at h2
      omega
    rw [if_neg hn] at h1 h2
    refine ⟨by omega, by omega, ?_⟩
    unfold tk Go.RowKit.wrap64
    rw [if_neg (by omega), if_neg (by omega), if_pos e]
    omega
  unfold alw
  rw [Bool.and_eq_true, Bool.and_eq_true, decide_eq_true_eq]
  refine ⟨⟨h26, ?_⟩, ?_⟩
  · unfold rfn at h3
    unfold nm
    by_cases e2 : x.op = 2
    · rw [if_pos e2] at *; exact h3
    by_cases e3 : x.op = 3
    · rw [if_neg e2, if_pos e3] at *; exact h3
    by_cases e5 : x.op = 5
    · rw [if_neg e2, if_neg e3, if_pos e5] at *; exact h3
    by_cases e6 : x.op = 6
    · rw [if_neg e2, if_neg e3, if_neg e5, if_pos e6] at *
      rw [decide_eq_true_eq] at *
      have : rtk x = x.a := by unfold rtk; rw [if_pos e6]
      exact ⟨h3.1, h3.2.1, by omega, h3.2.2⟩
    rw [if_neg e2, if_neg e3, if_neg e5, if_neg e6]
    by_cases e9 : x.op = 9
    · rw [if_pos e9, decide_eq_true_eq]
      unfold rtk at h2
      rw [if_neg e6, if_pos e9] at h2
      split at h2 <;> omega
    by_cases e18 : x.op = 18
    · rw [if_neg e9, if_pos e18, decide_eq_true_eq]
      have := h18 e18
      omega
    by_cases e20 : x.op = 20
    · rw [if_neg e9, if_neg e18, if_pos e20, decide_eq_true_eq]
      unfold rtk at h2
      rw [if_neg e6, if_neg e9, if_neg e18, if_neg (by omega), if_neg (by omega), if_pos e20] at h2
      split at h2 <;> omega
    rw [if_neg e9, if_neg e18, if_neg e20]
    by_cases e10 : x.op = 10 ∨ x.op = 11 ∨ x.op = 17
    · rw [if_pos e10, decide_eq_true_eq]
      unfold rtk at h2
      rw [if_neg e6, if_neg e9, if_neg e18, if_pos e10] at h2
      split at h2 <;> omega
    rw [if_neg e10]
  · have hlt : tk x < d := by
      by_cases e18 : x.op = 18
      · have := h18 e18; omega
      · rw [← htk e18]; exact h1
    unfold rfn at h3
    by_cases e8 : x.op = 8
    · rw [if_pos e8]
      rw [if_neg (by omega), if_neg (by omega), if_neg (by omega), if_neg (by omega), if_pos e8] at h3
      exact h3
    by_cases e25 : x.op = 25
    · rw [if_neg e8, if_pos e25]
      rw [if_neg (by omega), if_neg (by omega), if_neg (by omega), if_neg (by omega), if_neg (by omega), if_pos e25] at h3
      exact h3
    rw [if_neg e8, if_neg e25, decide_eq_true_eq]
    exact hlt

theorem alw_false {fs : List Fun} {caps globs : Int} {x : Ins} {d t : Int} (h : rtk x < 0 ∨ d ≤ rtk x ∨ rfn fs caps globs x d t = false) (hd : d ≤ 1000000) (h0 : 1 ≤ d) : alw fs caps globs x d t = false := by
  rcases hh : alw fs caps globs x d t with _ | _
  · rfl
  · obtain ⟨_, h1, h2, h3⟩ := alw_tk_eq hh hd h0
    rcases h with h | h | h
    · omega
    · omega
    · rw [h3] at h; cases h
end CodM
namespace Go.Proofs.Ytoplheipfbnobaa
open Go.RowKit OctM CodM

def IntPost (n : Int) (w : World) (e : Ending) (w' : World) : Prop := e = .returned (.int .i64 n) ∧ Below w.heap.size w w'
theorem intPost {n m : Int} {w w' : World} (h : n = m) (hb : Below w.heap.size w w') : IntPost n w (.returned (.int .i64 m)) w' := by subst h; exact ⟨rfl, hb⟩

set_option maxHeartbeats 4000000 in
set_option maxRecDepth 100000 in
theorem takes (op : Nat) (n a : Int) (s : ByteArray) (w : World) :
    Calls Try.prog 38 #[.agg #[.int .u8 (op : Int), .int .i64 n, .int .i64 a, .string s]] w (IntPost (rtk ⟨op, n, a, s⟩) w) := by
  go_enter Try.func38, Try.ntmps38
  go_wp2_with fail
  all_goals
    go_ret
    refine intPost ?_ ((Below.refl _ _).alloc (Nat.le_refl _) _)
    simp only [beq_iff_eq, beq_eq_false_iff_ne, ne_eq] at *
    first
      | (subst_vars; rfl)
      | (unfold rtk; dsimp only; (repeat' split) <;> first | rfl | omega)

set_option maxHeartbeats 4000000 in
set_option maxRecDepth 100000 in
theorem leaves (op : Nat) (n a : Int) (s : ByteArray) (w : World) :
    Calls Try.prog 39 #[.agg #[.int .u8 (op : Int), .int .i64 n, .int .i64 a, .string s]] w (IntPost (rlv ⟨op, n, a, s⟩) w) := by
  go_enter Try.func39, Try.ntmps39
  go_wp2_with fail
  all_goals
    go_ret
    refine intPost ?_ ((Below.refl _ _).alloc (Nat.le_refl _) _)
    simp only [beq_iff_eq, beq_eq_false_iff_ne, ne_eq] at *
    unfold rlv
    dsimp only
    (repeat' split) <;> first | rfl | omega
end Go.Proofs.Ytoplheipfbnobaa
