/- Load: hasSoundParts, and the whole. -/
import Derived.Test.YtkdhajiplonloaaHeaUb
namespace Go.Proofs.Ytkdhajiplonloaa
open Go.RowKit HeaM

/-- Objects, one behind the other: the next one begins where one ends. -/
theorem ob_next {l done todo : List (List Nat)} {o : Nat} (hl : ∀ s ∈ l, Seg s) (h : SegAt l done todo o) (hlt : o < l.flatten.length) : ∃ s t, todo = s :: t ∧ Ob l.flatten (marks l) o ∧ szX (l.flatten.getD o 0) = s.length := by
  cases todo with
  | nil =>
    have h1 := h.split
    rw [List.append_nil] at h1
    rw [h1, h.at_] at hlt
    omega
  | cons s t =>
    have hs := hl s (by rw [h.split]; simp)
    obtain ⟨e1, _⟩ := h.head hs.1
    refine ⟨s, t, rfl, ?_, by rw [e1]; exact hs.2.1⟩
    refine ob_marks hl o ?_
    have hd := marks_length fun x hx => hl x (by rw [h.split]; exact List.mem_append_left _ hx)
    rw [h.split, h.at_]
    unfold marks at hd ⊢
    rw [List.flatMap_append, List.getElem?_append_right (by omega), hd, Nat.sub_self]
    rfl

end Go.Proofs.Ytkdhajiplonloaa
