/- Plain: where the reference goes on from a place. -/
import Derived.Test.YtoplheipfbnobaaCodG
import Derived.Test.YtoplheipfbnobaaCodR
namespace CodM
section
variable {fs : List Fun} {globs : Int} {f : Fun} {P : Nat} {d t : Int} {x : Ins}
theorem alw_le {caps : Int} (h : alw fs caps globs x d t = true) : x.op ≤ 26 := by
  unfold alw at h
  simp only [Bool.and_eq_true, decide_eq_true_eq] at h
  exact h.1.1
theorem rlv_le (x : Ins) : 0 ≤ rlv x ∧ rlv x ≤ 1 := by unfold rlv; split <;> simp
theorem nexts_none (hx : f.code[P]? = some x) (hal : alw fs f.caps globs x d t = true) (h : x.op = 8 ∨ x.op = 26) : Nexts fs globs f (P, d, t) x [] := by
  have hs : succ x P d t = [] := by unfold succ; rw [if_pos h]
  exact ⟨hx, hal, (by simp only [hs]; simp), (by simp)⟩
theorem nexts_one {q : Int × Int} {m : Int} {j : Nat} (hx : f.code[P]? = some x) (hal : alw fs f.caps globs x d t = true) (hs : succ x P d t = [(m, q)]) (hm : (P : Int) < m) (hj : m.toNat = j) : Nexts fs globs f (P, d, t) x [(j, q)] := by
  subst hj
  refine ⟨hx, hal, ?_, ?_⟩
  · simp only [hs]
    intro s h
    obtain rfl := List.mem_singleton.1 h
    exact ⟨hm, by simp⟩
  · simp only [hs]
    intro s h
    obtain rfl := List.mem_singleton.1 h
    exact ⟨(m, q), by simp, hm, rfl⟩
theorem nexts_two {q q2 : Int × Int} {m m2 : Int} {j j2 : Nat} (hx : f.code[P]? = some x) (hal : alw fs f.caps globs x d t = true) (hs : succ x P d t = [(m, q), (m2, q2)]) (hm : (P : Int) < m) (hm2 : (P : Int) < m2) (hj : m.toNat = j) (hj2 : m2.toNat = j2) : Nexts fs globs f (P, d, t) x [(j2, q2), (j, q)] := by
  subst hj hj2
  refine ⟨hx, hal, ?_, ?_⟩
  · simp only [hs]
    intro s h
    simp only [List.mem_cons, List.not_mem_nil, or_false] at h
    rcases h with rfl | rfl
    · exact ⟨hm, by simp⟩
    · exact ⟨hm2, by simp⟩
  · simp only [hs]
    intro s h
    simp only [List.mem_cons, List.not_mem_nil, or_false] at h
    rcases h with rfl | rfl
    · exact ⟨(m2, q2), by simp, hm2, rfl⟩
    · exact ⟨(m, q), by simp, hm, rfl⟩
theorem succ_other (ht : rtk x = tk x) (h8 : x.op ≠ 8) (h26 : x.op ≠ 26) (h12 : x.op ≠ 12) (h13 : x.op ≠ 13) (h24 : x.op ≠ 24) (h25 : x.op ≠ 25) (hl : x.op ≤ 26) : succ x P d t = [((P : Int) + 1, d - rtk x + rlv x, t)] := by
  unfold succ
  rw [if_neg (by omega), if_neg h12, if_neg h13, if_neg h24, if_neg h25, ht]
  have : rlv x = lv x := by
    unfold rlv lv
    by_cases h : x.op = 19
    · rw [if_pos (by omega), if_neg (by omega)]
    · rw [if_neg (by omega), if_pos (by omega)]
  rw [this]
  simp only [List.cons.injEq, Prod.mk.injEq, and_true, true_and]
  omega
theorem tk_of (h : x.op = 12 ∨ x.op = 24 ∨ x.op = 25) : tk x = 0 := by
  unfold tk; rw [if_neg (by omega), if_neg (by omega), if_neg (by omega), if_neg (by omega), if_neg (by omega)]
theorem tk_13 (h : x.op = 13) : tk x = 1 := by
  unfold tk; rw [if_neg (by omega), if_neg (by omega), if_neg (by omega), if_neg (by omega), if_pos (by omega)]
theorem rlv_of (h : x.op = 12 ∨ x.op = 13 ∨ x.op = 24 ∨ x.op = 25) : rlv x = 0 := by unfold rlv; rw [if_pos (by omega)]
theorem succ_25 (ht : rtk x = tk x) (h : x.op = 25) : succ x P d t = [((P : Int) + 1, d - rtk x + rlv x, t - 1)] := by
  rw [ht, tk_of (by omega), rlv_of (by omega)]
  unfold succ
  rw [if_neg (by omega), if_neg (by omega), if_neg (by omega), if_neg (by omega), if_pos h]
  simp
theorem succ_12 (ht : rtk x = tk x) (h : x.op = 12) : succ x P d t = [(x.n, d - rtk x + rlv x, t)] := by
  rw [ht, tk_of (by omega), rlv_of (by omega)]
  unfold succ
  rw [if_neg (by omega), if_pos h]
  simp
theorem succ_13 (ht : rtk x = tk x) (h : x.op = 13) : succ x P d t = [(x.n, d - rtk x + rlv x, t), ((P : Int) + 1, d - rtk x + rlv x, t)] := by
  rw [ht, tk_13 h, rlv_of (by omega)]
  unfold succ
  rw [if_neg (by omega), if_neg (by omega), if_pos h]
  simp
theorem succ_24 (ht : rtk x = tk x) (h : x.op = 24) : succ x P d t = [(x.n, d + 1, t), ((P : Int) + 1, d - rtk x + rlv x, t + 1)] := by
  rw [ht, tk_of (by omega), rlv_of (by omega)]
  unfold succ
  rw [if_neg (by omega), if_neg (by omega), if_neg (by omega), if_pos h]
  simp
end
end CodM
