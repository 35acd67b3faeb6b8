/- Are two types one? The plain words, and the walk where they part at once. -/
import Derived.Test.YtiimofdbconlhaaDoorPriWs
namespace Go.Proofs.YtiimofdbconlhaaDoor
open Go.RowKit PriM

mutual
def tyEq : Ty → Ty → Bool
  | .mk n v ks, u => n == u.name && (v == u.var && (ks.length == u.kids.length && tysEq ks u.kids))
def tysEq : List Ty → List Ty → Bool
  | [], _ => true
  | _ :: _, [] => true
  | t :: ts, u :: us => tyEq t u && tysEq ts us
end
theorem tyEq_mk (n m : List UInt8) (v u : Int) (ks ls : List Ty) : tyEq (.mk n v ks) (.mk m u ls) = (n == m && (v == u && (ks.length == ls.length && tysEq ks ls))) := by unfold tyEq; rfl
theorem tysEq_drop {ks ls : List Ty} {k : Nat} (h : k < ks.length) (h' : k < ls.length) : tysEq (ks.drop k) (ls.drop k) = (tyEq ks[k] ls[k] && tysEq (ks.drop (k + 1)) (ls.drop (k + 1))) := by
  rw [List.drop_eq_getElem_cons h, List.drop_eq_getElem_cons h', tysEq]
theorem tysEq_nil {ks ls : List Ty} {k : Nat} (h : ks.length ≤ k) : tysEq (ks.drop k) (ls.drop k) = true := by
  rw [List.drop_of_length_le h]; unfold tysEq; rfl
theorem tysEq_iff : ∀ {ks ls : List Ty}, (∀ t ∈ ks, ∀ u, tyEq t u = true ↔ t = u) → ks.length = ls.length → (tysEq ks ls = true ↔ ks = ls)
  | [], [], _, _ => by simp [tysEq]
  | [], _ :: _, _, h => by simp at h
  | _ :: _, [], _, h => by simp at h
  | t :: ts, u :: us, ih, h => by
    have h1 := ih t (by simp) u
    have h2 := tysEq_iff (ks := ts) (ls := us) (fun x hx => ih x (by simp [hx])) (by simpa using h)
    rw [tysEq, Bool.and_eq_true, h1, h2, List.cons.injEq]
theorem tyEq_iff (t : Ty) : ∀ u, tyEq t u = true ↔ t = u := by
  induction t using Ty.rec' with
  | h nm v ks ih =>
    intro u
    obtain ⟨m, z, ls⟩ := u
    rw [tyEq_mk]
    simp only [Bool.and_eq_true, beq_iff_eq, Ty.mk.injEq]
    constructor
    · rintro ⟨h1, h2, h3, h4⟩
      exact ⟨h1, h2, (tysEq_iff ih h3).1 h4⟩
    · rintro ⟨h1, h2, h3⟩
      exact ⟨h1, h2, by rw [h3], (tysEq_iff ih (by rw [h3])).2 h3⟩

/-- Two boxes. -/
structure Bx2 (w w1 : World) (c0 c1 c2 d0 d1 d2 : Value) : Prop where
  a : BoxT w1 w.heap.size c0 c1 c2
  b : BoxT w1 (w.heap.size + 1) d0 d1 d2
  bel : Below w.heap.size w w1
  size : w.heap.size + 2 ≤ w1.heap.size
theorem Bx2.new (w : World) (c0 c1 c2 d0 d1 d2 : Value) : Bx2 w ((w.alloc (.cells #[c0, c1, c2] 24)).alloc (.cells #[d0, d1, d2] 24)) c0 c1 c2 d0 d1 d2 := by
  have hb : Below w.heap.size w (w.alloc (.cells #[c0, c1, c2] 24)) := (Below.refl _ _).alloc (Nat.le_refl _) _
  refine ⟨?_, ?_, hb.alloc hb.size _, by simp⟩
  · have h1 := heap_alloc_new w (.cells #[c0, c1, c2] 24)
    have h2 : Below (w.alloc (.cells #[c0, c1, c2] 24)).heap.size (w.alloc (.cells #[c0, c1, c2] 24)) ((w.alloc (.cells #[c0, c1, c2] 24)).alloc (.cells #[d0, d1, d2] 24)) := (Below.refl _ _).alloc (Nat.le_refl _) _
    exact (h2.block _ (by simp)).trans h1
  · have h1 := heap_alloc_new (w.alloc (.cells #[c0, c1, c2] 24)) (.cells #[d0, d1, d2] 24)
    rw [show (w.alloc (.cells #[c0, c1, c2] 24)).heap.size = w.heap.size + 1 by simp] at h1
    exact h1
theorem Bx2.on {w w1 w2 : World} {c0 c1 c2 d0 d1 d2 : Value} (h : Bx2 w w1 c0 c1 c2 d0 d1 d2) (hb : Below w1.heap.size w1 w2) : Bx2 w w2 c0 c1 c2 d0 d1 d2 := by
  have hs := h.size
  exact ⟨(hb.block _ (by omega)).trans h.a, (hb.block _ (by omega)).trans h.b, h.bel.trans (hb.mono (by omega)), Nat.le_trans hs hb.size⟩

set_option maxRecDepth 100000 in
set_option maxHeartbeats 2000000 in
/-- Names, variables, or how many kids. -/
theorem same_bad (S S' : ByteArray) (v v' : Int) (o o' : Option Addr) (m m' c c' : Nat) (w : World) (hb : S.toList ≠ S'.toList ∨ v ≠ v' ∨ m ≠ m') :
    Calls Tryd.prog 13 #[.agg #[.string S, .int .i64 v, .slice o m c], .agg #[.string S', .int .i64 v', .slice o' m' c']] w (BPost w false) := by
  have HF := Lib.hid (fun wr (h : Below w.heap.size w wr) => (show BPost w false (.returned (.bool false)) wr from ⟨rfl, h⟩))
  have H1 := Lib.hid (Bx2.new w (.string S) (.int .i64 v) (.slice o m c) (.string S') (.int .i64 v') (.slice o' m' c')).bel
  by_cases h1 : S.toList = S'.toList
  · have t1 : (S.toList == S'.toList) = true := by simpa using h1
    by_cases h2 : v = v'
    · have t2 : (v == v') = true := by simpa using h2
      have t2' : (v != v') = false := by simpa using h2
      have h3 : m ≠ m' := by rcases hb with h | h | h <;> first | exact absurd h1 h | exact absurd h2 h | exact h
      have t3 : ((m : Int) == (m' : Int)) = false := by rw [beq_eq_false_iff_ne]; omega
      have t3' : ((m : Int) != (m' : Int)) = true := by rw [bne_iff_ne]; omega
      clear hb h1 h2 h3
      go_enter Tryd.func13, Tryd.ntmps13
      go_wp2
      go_ret
      exact HF.out _ H1.out
    · have t2 : (v == v') = false := by simpa using h2
      have t2' : (v != v') = true := by simpa using h2
      clear hb h1 h2
      go_enter Tryd.func13, Tryd.ntmps13
      go_wp2
      go_ret
      exact HF.out _ H1.out
  · have t1 : (S.toList == S'.toList) = false := by simpa using h1
    clear hb h1
    go_enter Tryd.func13, Tryd.ntmps13
    go_wp2
    go_ret
    exact HF.out _ H1.out
end Go.Proofs.YtiimofdbconlhaaDoor
