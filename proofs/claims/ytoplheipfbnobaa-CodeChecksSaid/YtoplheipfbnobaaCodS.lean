/- Places in memory; the reference's right. -/
import Derived.Test.YtoplheipfbnobaaCodH
import Derived.Test.YtoplheipfbnobaaCodR
import Derived.Test.YtoplheipfbnobaaOctE
import Derived.Maps.AppendAt
import Derived.Deep.DeepCutAuto
namespace Go.Proofs.Ytoplheipfbnobaa
open Go.RowKit OctM CodM

/-- Places as values. -/
def CsN : List Sn → List Value
  | [] => []
  | p :: ps => .int .i64 (p.1 : Int) :: .int .i64 p.2.1 :: .int .i64 p.2.2 :: CsN ps
theorem CsN_length (ps : List Sn) : (CsN ps).length = ps.length * 3 := by
  induction ps with
  | nil => rfl
  | cons p ps ih => simp only [CsN, List.length_cons, ih]; omega
theorem CsN_append (a b : List Sn) : CsN (a ++ b) = CsN a ++ CsN b := by
  induction a with
  | nil => rfl
  | cons p ps ih => simp only [List.cons_append, CsN, ih]
theorem CsN_get (ps : List Sn) : ∀ j p, ps[j]? = some p → (CsN ps)[j * 3]? = some (.int .i64 (p.1 : Int)) ∧ (CsN ps)[j * 3 + 1]? = some (.int .i64 p.2.1) ∧ (CsN ps)[j * 3 + 2]? = some (.int .i64 p.2.2) := by
  induction ps with
  | nil => intro j p h; simp at h
  | cons q ps ih =>
    intro j p h
    cases j with
    | zero => simp at h; subst h; exact ⟨rfl, rfl, rfl⟩
    | succ j =>
      have := ih j p (by simpa using h)
      rw [show (j + 1) * 3 = j * 3 + 1 + 1 + 1 by omega]
      simp only [CsN, List.getElem?_cons_succ]
      exact this

theorem seenInfo : (Try.prog.info? 79).map (fun i => (i.zero, i.size, i.bytes)) = some (some (.agg #[.int .i64 0, .int .i64 0, .int .i64 0]), 3, 24) := by kernel_rfl

/-- A slice of places of the call's own; places that lie in a block. -/
def OwnN (w : World) (base : Nat) (v : Value) (ps : List Sn) : Prop := w.ownsRow base 79 3 v ps.length (CsN ps)
def CellsN (w : World) (b : Nat) (ps : List Sn) : Prop :=
  ∀ j t, ps[j]? = some t → w.cell? ⟨b, j * 3, none⟩ = some (.int .i64 (t.1 : Int)) ∧ w.cell? ⟨b, j * 3 + 1, none⟩ = some (.int .i64 t.2.1) ∧ w.cell? ⟨b, j * 3 + 2, none⟩ = some (.int .i64 t.2.2)
theorem OwnN.cells {w : World} {base g c n : Nat} {ps : List Sn} (h : OwnN w base (.slice (some ⟨g, 0, none⟩) n c) ps) : CellsN w g ps := by
  intro j m hj
  obtain ⟨h1, h2, h3⟩ := CsN_get _ j m hj
  have c1 := World.ownsRow.cells h (g := g) rfl _ _ h1
  have c2 := World.ownsRow.cells h (g := g) rfl _ _ h2
  have c3 := World.ownsRow.cells h (g := g) rfl _ _ h3
  rw [add_none] at c1 c2 c3
  simp only [Nat.zero_add] at c1 c2 c3
  exact ⟨c1, c2, c3⟩
theorem OwnN.form {w : World} {base : Nat} {v : Value} {ps : List Sn} (h : OwnN w base v ps) (hl : 0 < ps.length) : ∃ g c, v = .slice (some ⟨g, 0, none⟩) ps.length c ∧ ps.length ≤ c ∧ c ≤ maxLen ∧ base ≤ g ∧ g < w.heap.size := by
  rcases h.2 with ⟨rfl, hn⟩ | ⟨g, cap, cur, rfl, hb, hg, hn, hm, _⟩
  · omega
  · exact ⟨g, cap, rfl, hn, hm, hb, (Array.getElem?_eq_some_iff.1 hg).1⟩
theorem OwnN.below {w w' : World} {base k : Nat} {v : Value} {ps : List Sn} (h : OwnN w base v ps) (hb : Below k w w') (hk : w.heap.size ≤ k) : OwnN w' base v ps :=
  own_kept h (S := fun k' => k ≤ k') (Below.kept hb fun _ h _ => h) (fun k' hk' => by have := (h.lt k' hk').2; omega)
theorem ownN_lit (w : World) (base : Nat) (p : Sn) (hb : base ≤ w.heap.size) : OwnN (w.alloc (.cells #[.int .i64 (p.1 : Int), .int .i64 p.2.1, .int .i64 p.2.2] 79)) base (.slice (some ⟨w.heap.size, 0, none⟩) 1 1) [p] :=
  ⟨by simp [CsN], .inr ⟨_, 1, _, rfl, hb, heap_alloc_new w _, Nat.le_refl _, by decide, rfl, rfl⟩⟩

open Classical in
noncomputable def val (fs : List Fun) (globs : Int) (f : Fun) : Bool := decide (Valid fs globs f)
open Classical in
theorem val_true {fs : List Fun} {globs : Int} {f : Fun} (h0 : 0 ≤ f.caps) (h : ∃ F, Closed fs globs f F) : val fs globs f = true := by unfold val; exact decide_eq_true ⟨h0, h⟩
open Classical in
theorem val_false {fs : List Fun} {globs : Int} {f : Fun} (h : f.caps < 0 ∨ ¬ ∃ F, Closed fs globs f F) : val fs globs f = false := by
  unfold val
  exact decide_eq_false (fun hv => by rcases h with h | h; (have := hv.1; omega); exact h hv.2)

def RiPost (fs : List Fun) (globs : Int) (f : Fun) (w0 : World) (e : Ending) (w' : World) : Prop := e = .returned (.bool (val fs globs f)) ∧ Below w0.heap.size w0 w'
theorem riPost {fs : List Fun} {globs : Int} {f : Fun} {w0 w' : World} {b : Bool} (hb : val fs globs f = b) (h : Below w0.heap.size w0 w') : RiPost fs globs f w0 (.returned (.bool b)) w' := by
  subst hb; exact ⟨rfl, h⟩

set_option maxHeartbeats 1000000 in
set_option maxRecDepth 100000 in
theorem right_neg (fs : List Fun) (globs : Int) (f : Fun) (w : World) (va : Value) (o : Option Addr) (m c : Nat) (h : f.caps < 0) :
    Calls Try.prog 21 #[.agg #[.int .i64 f.caps, .slice o m c], va, .int .i64 globs] w (RiPost fs globs f w) := by
  have HO := Lib.hid (val_false (fs := fs) (globs := globs) (f := f) (.inl h))
  have hd : decide (f.caps < 0) = true := by simpa using h
  go_enter Try.func21, Try.ntmps21
  go_wp2_with fail
  go_ret
  exact riPost HO.out ((Below.refl _ _).alloc (Nat.le_refl _) _)

set_option maxHeartbeats 1000000 in
set_option maxRecDepth 100000 in
theorem right_none (fs : List Fun) (globs : Int) (f : Fun) (w : World) (va : Value) (o : Option Addr) (c : Nat) (h : ¬ f.caps < 0) (h0 : f.code.length = 0) :
    Calls Try.prog 21 #[.agg #[.int .i64 f.caps, .slice o 0 c], va, .int .i64 globs] w (RiPost fs globs f w) := by
  have HO := Lib.hid (val_false (fs := fs) (globs := globs) (f := f) (.inr (by rintro ⟨F, hF⟩; have := hF.lt 0 _ hF.zero; omega)))
  have hd : decide (f.caps < 0) = false := by simpa using h
  clear h0
  go_enter Try.func21, Try.ntmps21
  go_wp2_with fail
  go_ret
  exact riPost HO.out ((Below.refl _ _).alloc (Nat.le_refl _) _)
end Go.Proofs.Ytoplheipfbnobaa
