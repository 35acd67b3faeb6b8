/- Restart. -/
import Derived.Test.YtdckcjcddibglaaDruH
namespace Go.Proofs.Ytdckcjcddibglaa
open Go.RowKit

/-- A slice that reads as whole numbers. -/
def RdI (w : World) (v : Value) (l : List Int) : Prop :=
  ∃ o c, v = .slice o l.length c ∧ l.length ≤ 9223372036854775807 ∧ ∀ j x, l[j]? = some x → ∃ b off, o = some ⟨b, off, none⟩ ∧ w.cell? ⟨b, off + j, none⟩ = some (.int .i64 x)

theorem RdI.nil (w : World) : RdI w (.slice none 0 0) [] := ⟨none, 0, rfl, by simp, fun j x h => by simp at h⟩

theorem RdI.kept {w w' : World} {v : Value} {l : List Int} (h : RdI w v l) (hk : ∀ b, l ≠ [] → v.ownBlock = some b → b < w.heap.size → w'.heap[b]? = w.heap[b]?) : RdI w' v l := by
  obtain ⟨o, c, rfl, h1, h2⟩ := h
  refine ⟨o, c, rfl, h1, fun j x hx => ?_⟩
  obtain ⟨b, off, rfl, hc⟩ := h2 j x hx
  exact ⟨b, off, rfl, (World.cell?_of_block (w := w) (hk b (by rintro rfl; simp at hx) rfl (World.block_lt_of_cell? w _ hc))).trans hc⟩

theorem RdI.lt {w : World} {v : Value} {l : List Int} (h : RdI w v l) (hl : l ≠ []) : ∀ g, v.ownBlock = some g → g < w.heap.size := by
  obtain ⟨o, c, rfl, h1, h2⟩ := h
  rcases l with _ | ⟨x, t⟩
  · exact absurd rfl hl
  · obtain ⟨b, off, rfl, hc⟩ := h2 0 x rfl
    intro g hg
    have : b = g := by simpa [Value.ownBlock] using hg
    subst this
    exact World.block_lt_of_cell? w _ hc

/-- The tracks behind a fall: the first k of them have fallen. -/
def fell (d : Dr) (cuts : List Int) (k : Nat) : Dr := { d with tr := fun j => if j < k then loseT (d.tr j) (cuts.getD j (-1)) else d.tr j }
def restartS (d : Dr) (cuts : List Int) : Dr := { fell d cuts d.n with off := false, fuse := 0 }

theorem fell_zero (d : Dr) (cuts : List Int) : fell d cuts 0 = d := by
  obtain ⟨n, m, tr, o, p, f⟩ := d
  simp [fell]

theorem fell_succ (d : Dr) (cuts : List Int) (k : Nat) : (fell d cuts k).set k (loseT ((fell d cuts k).tr k) (cuts.getD k (-1))) = fell d cuts (k + 1) := by
  obtain ⟨n, m, tr, o, p, f⟩ := d
  simp only [fell, Dr.set, Dr.mk.injEq, true_and, and_true]
  funext j
  simp only [upd]
  by_cases h : j = k
  · subst h
    rw [if_pos rfl, if_neg (by omega), if_pos (by omega)]
  · rw [if_neg h]
    by_cases h2 : j < k
    · rw [if_pos h2, if_pos (by omega)]
    · rw [if_neg h2, if_neg (by omega)]

/-- At a round's head. -/
def RLoop (w : World) (S : Nat → Prop) (D T : Nat) (d : Dr) (cuts : List Int) (k : Nat) (wr : World) : Prop :=
  (∃ vn vd, DAt wr S D T vn vd (fell d cuts k)) ∧ Kept (fun k => k = T) w wr

/-- What Restart leaves. -/
def RPost (w : World) (S : Nat → Prop) (D T : Nat) (d : Dr) (e : Ending) (w' : World) : Prop :=
  e = .returned (.int .i64 0) ∧ (∃ vn' vd', DAt w' S D T vn' vd' d) ∧ Kept S w w'

end Go.Proofs.Ytdckcjcddibglaa
