/- The reference's Right: what it takes is right. -/
import Derived.Test.YtkdhajiplonloaaHeaUh
namespace Go.Proofs.Ytkdhajiplonloaa
open Go.RowKit HeaM

/-- What Right leaves. -/
def RtPost (w w' : World) (W : List Nat) (e : Ending) : Prop := ∃ b : Bool, e = .returned (.bool b) ∧ (b = true → ∃ F, Right W F) ∧ Below w.heap.size w w'
theorem rtNo {w w' : World} {W : List Nat} (hb : Below w.heap.size w w') : RtPost w w' W (.returned (.bool false)) := ⟨false, rfl, fun h => absurd h (by decide), hb⟩

/-- The second pass: what was looked at is sound. -/
structure RsR (w wr : World) (W : List Nat) (l done todo : List (List Nat)) (o g : Nat) : Prop where
  at_ : SegAt l done todo o
  sound : ∀ i, i < o → Ob W (marks l) i → W.getD i 0 % 256 ≠ 3 → ∀ x ∈ rst W i, x % 2 = 1 ∨ isObj W (marks l) x = true
  row : wr.ownsRow w.heap.size 4 1 (.slice (some ⟨g, 0, none⟩) W.length W.length) W.length (Fs (marks l))
  below : Below w.heap.size w wr
theorem RsR.more {w wr w1 : World} {W : List Nat} {l done todo : List (List Nat)} {o g : Nat} (h : RsR w wr W l done todo o g) (hb : Below wr.heap.size wr w1) : RsR w w1 W l done todo o g :=
  ⟨h.at_, h.sound, own_kept h.row (Below.kept (S := fun k => wr.heap.size ≤ k) hb fun k h1 _ => h1) fun k hk hs => by have := (h.row.lt k hk).2; omega, h.below.trans (hb.mono h.below.size)⟩
theorem RsR.next {w wr : World} {W : List Nat} {l done todo : List (List Nat)} {s : List Nat} {o g : Nat} (h : RsR w wr W l done (s :: todo) o g) (hob : Ob W (marks l) o) (hs : szX (W.getD o 0) = s.length) (hp : W.getD o 0 % 256 ≠ 3 → ∀ x ∈ rst W o, x % 2 = 1 ∨ isObj W (marks l) x = true) : RsR w wr W l (done ++ [s]) todo (o + szX (W.getD o 0)) g := by
  refine ⟨by rw [hs]; exact h.at_.next, ?_, h.row, h.below⟩
  intro i hi hi2 hk x hx
  rcases Nat.lt_trichotomy i o with h1 | h1 | h1
  · exact h.sound i h1 hi2 hk x hx
  · subst h1
    exact hp hk x hx
  · have h2 := hob.rest i h1 hi
    rw [hi2.mark] at h2
    cases h2

end Go.Proofs.Ytkdhajiplonloaa
