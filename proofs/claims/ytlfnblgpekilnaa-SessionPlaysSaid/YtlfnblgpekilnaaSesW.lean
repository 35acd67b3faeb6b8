/- Rows of words that came in; a table with one session. -/
import Derived.Test.YtlfnblgpekilnaaSesE
namespace Go.Proofs.Ytlfnblgpekilnaa
open Go.RowKit OctM

/-- Words. -/
def RdW (w : World) (v : Value) (l : List Nat) : Prop :=
  ∃ o c, v = .slice o l.length c ∧ ∀ (j x : Nat), l[j]? = some x → (∃ b off, o = some ⟨b, off, none⟩ ∧ w.cell? ⟨b, off + j, none⟩ = some (.int .u64 (x : Int))) ∧ x < 18446744073709551616
theorem RdW.below {w w' : World} {v : Value} {l : List Nat} (h : RdW w v l) (hb : Below w.heap.size w w') : RdW w' v l := by
  obtain ⟨o, c, hv, hx⟩ := h
  refine ⟨o, c, hv, fun j x hj => ?_⟩
  obtain ⟨⟨b, off, ho, hc⟩, hlt⟩ := hx j x hj
  exact ⟨⟨b, off, ho, (hb.cell (World.block_lt_of_cell? w _ hc)).trans hc⟩, hlt⟩

/-- A table with at most one session. -/
def stR (id top : Nat) (r : List UInt8) : List Se := if top = 0 then [] else [⟨id, top, r⟩]
theorem pl_one (id n : Nat) (r : List UInt8) : pl [⟨id, n, r⟩] id = 0 := by simp [pl]
theorem seAt_one (id n : Nat) (r : List UInt8) : seAt [⟨id, n, r⟩] id = some ⟨id, n, r⟩ := by
  unfold seAt; rw [pl_one]; simp
theorem pl_none (id : Nat) : pl [] id = 0 := rfl
theorem seAt_none (id : Nat) : seAt [] id = none := rfl
theorem ask_one (id n m : Nat) (r : List UInt8) (h : id ≠ 0) : askS [⟨id, n, r⟩] id m = if m = 0 then (1, []) else if n < m then (6, []) else if m < n then (16, []) else (0, r) := by
  unfold askS
  rw [seAt_one]
  by_cases hm : m = 0
  · rw [if_pos (.inr hm), if_pos hm]
  · rw [if_neg (by omega), if_neg hm]
theorem ask_none (id m : Nat) (h : id ≠ 0) : askS [] id m = if m = 0 then (1, []) else (6, []) := by
  unfold askS
  rw [seAt_none]
  by_cases hm : m = 0
  · rw [if_pos (.inr hm), if_pos hm]
  · rw [if_neg (by omega), if_neg hm]; rfl
theorem put_stR (id top n : Nat) (r x : List UInt8) (h : id ≠ 0) :
    (top < n → putS (stR id top r) ⟨id, n, x⟩ = (0, stR id n x)) ∧ (¬ top < n → ∃ c : Int, c ≠ 0 ∧ putS (stR id top r) ⟨id, n, x⟩ = (c, stR id top r)) := by
  unfold stR
  by_cases ht : top = 0
  · subst ht
    rw [if_pos rfl]
    refine ⟨fun hn => ?_, fun hn => ⟨1, by decide, ?_⟩⟩
    · unfold putS
      dsimp only
      rw [ask_none id n h, if_neg (show ¬ n = 0 by omega), if_neg (show ¬ n = 0 by omega)]
      rfl
    · unfold putS
      dsimp only
      rw [ask_none id n h, if_pos (show n = 0 by omega)]
      rfl
  · rw [if_neg ht]
    refine ⟨fun hn => ?_, fun hn => ?_⟩
    · unfold putS
      dsimp only
      rw [ask_one id top n r h, if_neg (show ¬ n = 0 by omega), if_pos hn, if_neg (show ¬ n = 0 by omega)]
      simp only [insS, seAt_one, pl_one]
      rfl
    · unfold putS
      dsimp only
      rw [ask_one id top n r h]
      by_cases h0 : n = 0
      · rw [if_pos h0]
        exact ⟨1, by decide, rfl⟩
      · rw [if_neg h0, if_neg hn]
        by_cases h1 : n < top
        · rw [if_pos h1]
          exact ⟨16, by decide, rfl⟩
        · rw [if_neg h1]
          exact ⟨7, by decide, rfl⟩
theorem ask_stR (id top : Nat) (r : List UInt8) (h : id ≠ 0) (ht : top ≠ 0) : askS (stR id top r) id top = (0, r) := by
  unfold stR
  rw [if_neg ht, ask_one id top top r h, if_neg ht, if_neg (Nat.lt_irrefl _), if_neg (Nat.lt_irrefl _)]
theorem stR_ris (id top : Nat) (r : List UInt8) : Ris (stR id top r) := by
  unfold stR; split
  · exact ris_nil
  · exact ris_one _
theorem stR_len (id top : Nat) (r : List UInt8) : (stR id top r).length ≤ 1 := by
  unfold stR; split <;> simp
theorem stR_rp (id top : Nat) (r : List UInt8) (hr : r.length ≤ 1) : ∀ s ∈ stR id top r, s.rp.length ≤ 1000000 := by
  unfold stR; split
  · simp
  · intro s hs; simp at hs; subst hs; show r.length ≤ 1000000; omega
end Go.Proofs.Ytlfnblgpekilnaa
