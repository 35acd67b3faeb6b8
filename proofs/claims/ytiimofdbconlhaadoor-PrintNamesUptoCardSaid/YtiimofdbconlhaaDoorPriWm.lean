/- Small types: the plain words. -/
import Derived.Test.YtiimofdbconlhaaDoorPriV
namespace Go.Proofs.YtiimofdbconlhaaDoor
open Go.RowKit PriM

/-- What is wrong with a type itself, at a depth. -/
def badT (d : Nat) (nm : List UInt8) (n : Nat) : Bool := decide (8 < d) || decide (6 < n) || (nm == [] && decide (0 < n)) || (nm == [45, 62] && n != 2) || (nm == [42] && decide (n < 2))
mutual
def smT (d : Nat) : Ty → Bool
  | .mk nm _ ks => !badT d nm ks.length && smTs (d + 1) ks
def smTs (d : Nat) : List Ty → Bool
  | [] => true
  | t :: ts => smT d t && smTs d ts
end
theorem smT_mk (d : Nat) (nm : List UInt8) (v : Int) (ks : List Ty) : smT d (.mk nm v ks) = (!badT d nm ks.length && smTs (d + 1) ks) := by unfold smT; rfl
theorem smTs_get {d : Nat} : ∀ {ks : List Ty} {i : Nat} (h : i < ks.length), smTs d ks = true → smT d ks[i] = true
  | t :: ts, 0, _, hs => by simp only [smTs, Bool.and_eq_true] at hs; exact hs.1
  | t :: ts, i + 1, h, hs => by
    simp only [smTs, Bool.and_eq_true] at hs
    exact smTs_get (i := i) (by simpa using h) hs.2
/-- What has been looked at up to k. -/
theorem smTs_take {d : Nat} {ks : List Ty} {k : Nat} (h : k < ks.length) : smTs d (ks.take (k + 1)) = (smTs d (ks.take k) && smT d ks[k]) := by
  induction ks generalizing k with
  | nil => simp at h
  | cons t ts ih =>
    cases k with
    | zero => simp [smTs]
    | succ k =>
      have := ih (k := k) (by simpa using h)
      simp only [List.take_succ_cons, smTs, List.getElem_cons_succ]
      rw [this, Bool.and_assoc]
theorem smTs_false {d : Nat} {ks : List Ty} {k : Nat} (h : k < ks.length) (hf : smT d ks[k] = false) : smTs d ks = false := by
  cases hs : smTs d ks with
  | false => rfl
  | true => rw [smTs_get h hs] at hf; cases hf

mutual
/-- What a small type's name and kids are like, all the way down. -/
def okT : Ty → Prop
  | .mk nm _ ks => (nm = [] → ks.length = 0) ∧ (nm = [45, 62] → ks.length = 2) ∧ (nm = [42] → 2 ≤ ks.length) ∧ ks.length ≤ 6 ∧ okTs ks
def okTs : List Ty → Prop
  | [] => True
  | t :: ts => okT t ∧ okTs ts
end
theorem okTs_mem : ∀ {ks : List Ty}, okTs ks → ∀ t ∈ ks, okT t
  | k :: ks, ⟨h0, h1⟩, t, ht => by
    rcases List.mem_cons.1 ht with rfl | ht
    · exact h0
    · exact okTs_mem h1 t ht

theorem badT_false {d : Nat} {nm : List UInt8} {n : Nat} (h : badT d nm n = false) : d ≤ 8 ∧ n ≤ 6 ∧ (nm = [] → n = 0) ∧ (nm = [45, 62] → n = 2) ∧ (nm = [42] → 2 ≤ n) := by
  unfold badT at h
  simp only [Bool.or_eq_false_iff, decide_eq_false_iff_not, Bool.and_eq_false_iff, beq_eq_false_iff_ne, bne_eq_false_iff_eq] at h
  obtain ⟨⟨⟨⟨h1, h2⟩, h3⟩, h4⟩, h5⟩ := h
  refine ⟨by omega, by omega, fun e => ?_, fun e => ?_, fun e => ?_⟩
  · rcases h3 with h3 | h3
    · exact absurd e h3
    · omega
  · rcases h4 with h4 | h4
    · exact absurd e h4
    · exact h4
  · rcases h5 with h5 | h5
    · exact absurd e h5
    · omega
mutual
theorem okT_of : ∀ {t : Ty} {d : Nat}, smT d t = true → okT t
  | .mk nm v ks, d, h => by
    rw [smT_mk] at h
    simp only [Bool.and_eq_true, Bool.not_eq_true'] at h
    obtain ⟨h1, h2⟩ := h
    obtain ⟨_, a, b, c, e⟩ := badT_false h1
    exact ⟨b, c, e, a, okTs_of h2⟩
theorem okTs_of : ∀ {ts : List Ty} {d : Nat}, smTs d ts = true → okTs ts
  | [], _, _ => trivial
  | t :: ts, d, h => by
    simp only [smTs, Bool.and_eq_true] at h
    exact ⟨okT_of h.1, okTs_of h.2⟩
end
end Go.Proofs.YtiimofdbconlhaaDoor
