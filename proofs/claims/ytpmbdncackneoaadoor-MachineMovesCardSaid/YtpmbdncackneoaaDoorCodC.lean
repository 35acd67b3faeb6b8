/- A place that is reached, and what follows an instruction. -/
import Derived.Test.YtpmbdncackneoaaDoorCodB
namespace CodM
/-- Places' states, as cells. -/
def AtV (A : List (Int × Int)) : List Go.Value := A.flatMap fun s => [.int .i64 s.1, .int .i64 s.2]
theorem atv_length (A : List (Int × Int)) : (AtV A).length = 2 * A.length := by
  induction A with
  | nil => rfl
  | cons a A ih => simp [AtV] at *; omega
theorem atv_get (A : List (Int × Int)) (j : Nat) (s : Int × Int) (h : A[j]? = some s) : (AtV A)[j * 2]? = some (.int .i64 s.1) ∧ (AtV A)[j * 2 + 1]? = some (.int .i64 s.2) := by
  induction A generalizing j with
  | nil => simp at h
  | cons a A ih =>
    have e : AtV (a :: A) = .int .i64 a.1 :: .int .i64 a.2 :: AtV A := rfl
    cases j with
    | zero => simp at h; subst h; simp [e]
    | succ j =>
      simp at h
      have := ih j h
      rw [show (j + 1) * 2 = j * 2 + 2 by omega, e]
      exact this
theorem atv_set (A : List (Int × Int)) (j : Nat) (s : Int × Int) (h : j < A.length) : ((AtV A).set (j * 2) (.int .i64 s.1)).set (j * 2 + 1) (.int .i64 s.2) = AtV (A.set j s) := by
  induction A generalizing j with
  | nil => simp at h
  | cons a A ih =>
    have e : AtV (a :: A) = .int .i64 a.1 :: .int .i64 a.2 :: AtV A := rfl
    cases j with
    | zero => rfl
    | succ j =>
      have := ih j (by simpa using h)
      rw [show (j + 1) * 2 = j * 2 + 1 + 1 by omega, e]
      simp only [List.set_cons_succ]
      rw [this]
      rfl

/-- Can one come to a place like that? -/
def rch (A : List (Int × Int)) (i : Nat) (s : Int × Int) : Bool × List (Int × Int) :=
  match A[i]? with
  | none => (false, A)
  | some a => if a.1 = 0 then (true, A.set i s) else (decide (a.1 = s.1 ∧ a.2 = s.2), A)
/-- Can one come to places, one after the other? -/
def goes (i : Nat) : List (Int × Int × Int) → List (Int × Int) → Bool × List (Int × Int)
  | [], A => (true, A)
  | s :: l, A => if (i : Int) < s.1 then (if (rch A s.1.toNat s.2).1 = true then goes i l (rch A s.1.toNat s.2).2 else (false, (rch A s.1.toNat s.2).2)) else (false, A)
end CodM
namespace Go.Proofs.YtpmbdncackneoaaDoor.Oc
open Go.RowKit OctM CodM

/-- The places' states in memory. -/
def AtS (w : World) (q : Nat) (A : List (Int × Int)) : Prop := w.heap[q]? = some (.cells (AtV A).toArray 103 (0, 0))
theorem AtS.lt {w : World} {q : Nat} {A : List (Int × Int)} (h : AtS w q A) : q < w.heap.size := lt_of_block h
theorem AtS.get {w : World} {q : Nat} {A : List (Int × Int)} (h : AtS w q A) {j : Nat} {s : Int × Int} (hs : A[j]? = some s) : w.cell? ⟨q, j * 2, none⟩ = some (.int .i64 s.1) ∧ w.cell? ⟨q, j * 2 + 1, none⟩ = some (.int .i64 s.2) := by
  obtain ⟨h1, h2⟩ := atv_get A j s hs
  exact ⟨cellk h (by simpa using h1), cellk h (by simpa using h2)⟩
theorem AtS.free {w : World} {q : Nat} {A : List (Int × Int)} (h : AtS w q A) (i : Nat) : w.frozen? ⟨q, i, none⟩ = false := by
  have h : w.heap[q]? = _ := h
  simp [World.frozen?, h]
theorem AtS.set {w : World} {q : Nat} {A : List (Int × Int)} (h : AtS w q A) {j : Nat} (hj : j < A.length) (s : Int × Int) : AtS ((w.setCell ⟨q, j * 2, none⟩ (.int .i64 s.1)).setCell ⟨q, j * 2 + 1, none⟩ (.int .i64 s.2)) q (A.set j s) := by
  have h : w.heap[q]? = _ := h
  unfold AtS
  rw [← atv_set A j s hj]
  simp [World.setCell, Array.getElem?_modify, h]

structure RePost (q : Nat) (w : World) (r : Bool × List (Int × Int)) (e : Ending) (w' : World) : Prop where
  ret : e = .returned (.bool r.1)
  at_ : AtS w' q r.2
  kept : Kept (fun k => k = q) w w'
theorem rePost {q : Nat} {w : World} {r : Bool × List (Int × Int)} {w' : World} {b : Bool} {A : List (Int × Int)} (h : r = (b, A)) (ha : AtS w' q A) (hk : Kept (fun k => k = q) w w') : RePost q w r (.returned (.bool b)) w' := by
  subst h; exact ⟨rfl, ha, hk⟩
theorem kept_of_below {S : Nat → Prop} {w w' : World} (h : Below w.heap.size w w') : Kept S w w' := (Below.kept (S := fun k => w.heap.size ≤ k) h (fun _ h _ => h)).weak (fun k h1 h2 => by omega)

set_option maxHeartbeats 4000000 in
set_option maxRecDepth 100000 in
theorem reach_far (p q : Nat) (A : List (Int × Int)) (globs caps d t : Int) (i : Nat) (w : World) (va vc : Value) (h : WkC w p va globs caps vc q A.length) (hq : AtS w q A) (hvc : ∃ o c, vc = .slice o A.length c) (hi : A.length ≤ i) :
    Calls Tryd.prog 46 #[.pointer (some ⟨p, 0, none⟩), .int .i64 (i : Int), .agg #[.int .i64 d, .int .i64 t]] w (RePost q w (rch A i (d, t))) := by
  obtain ⟨o, c, rfl⟩ := hvc
  have c3 := h.c3
  have hp := h.lt
  have hb1 : Below w.heap.size w (w.alloc (.cells #[.int .i64 d, .int .i64 t] 103)) := (Below.refl _ _).alloc (Nat.le_refl _) _
  have HF := Lib.hid (rePost (q := q) (w := w) (r := rch A i (d, t)) (b := false) (A := A) (w' := w.alloc (.cells #[.int .i64 d, .int .i64 t] 103)) (by unfold rch; rw [List.getElem?_eq_none hi]) ((hb1.block q hq.lt).trans hq) (kept_of_below hb1))
  have hii : decide ((A.length : Int) ≤ (i : Int)) = true := by simp; omega
  go_enter Tryd.func46, Tryd.ntmps46
  go_wp2_with fail
  go_ret
  exact HF.out

set_option maxHeartbeats 4000000 in
set_option maxRecDepth 100000 in
theorem reach_new (p q : Nat) (A : List (Int × Int)) (globs caps d t : Int) (i : Nat) (w : World) (va vc : Value) (h : WkC w p va globs caps vc q A.length) (hq : AtS w q A) (hvc : ∃ o c, vc = .slice o A.length c) (hi : i < A.length) (hpq : p ≠ q) (a : Int) (ha : A[i]? = some (0, a)) :
    Calls Tryd.prog 46 #[.pointer (some ⟨p, 0, none⟩), .int .i64 (i : Int), .agg #[.int .i64 d, .int .i64 t]] w (RePost q w (rch A i (d, t))) := by
  obtain ⟨o, c, rfl⟩ := hvc
  have c3 := h.c3
  have c4 := h.c4
  have hp := h.lt
  have hqq := hq.lt
  obtain ⟨a0, a1⟩ := hq.get ha
  dsimp only at a0 a1
  have hii : decide ((A.length : Int) ≤ (i : Int)) = false := by simp; omega
  have hil : (i : Int) < (A.length : Int) := by omega
  have hb1 : Below w.heap.size w (w.alloc (.cells #[.int .i64 d, .int .i64 t] 103)) := (Below.refl _ _).alloc (Nat.le_refl _) _
  have f0 := hq.free (i * 2)
  have f1 := hq.free (i * 2 + 1)
  have HF := Lib.hid (rePost (q := q) (w := w) (r := rch A i (d, t)) (b := true) (A := A.set i (d, t)) (w' := ((((w.setCell ⟨q, i * 2, none⟩ (.int .i64 d)).setCell ⟨q, i * 2 + 1, none⟩ (.int .i64 t)).alloc (.cells #[.int .i64 d, .int .i64 t] 103)).drew.drew)) (by unfold rch; rw [ha]; simp) ((Below.heap_alloc _ _ _ (by simpa [World.setCell] using hqq)).trans (hq.set hi (d, t))) ((((((Kept.refl (fun k => k = q) w).setCell (p := ⟨q, i * 2, none⟩) (.inl rfl) (.int .i64 d)).setCell (p := ⟨q, i * 2 + 1, none⟩) (.inl rfl) (.int .i64 t)).alloc _).drew).drew))
  clear hq hb1
  go_enter Tryd.func46, Tryd.ntmps46
  go_wp2_with fail
  go_region
  go_wp2_with fail
  go_region
  go_wp2_with fail
  go_ret
  exact HF.out

set_option maxHeartbeats 4000000 in
set_option maxRecDepth 100000 in
theorem reach_old (p q : Nat) (A : List (Int × Int)) (globs caps d t : Int) (i : Nat) (w : World) (va vc : Value) (h : WkC w p va globs caps vc q A.length) (hq : AtS w q A) (hvc : ∃ o c, vc = .slice o A.length c) (hi : i < A.length) (a b : Int) (ha : A[i]? = some (a, b)) (hne : a ≠ 0) :
    Calls Tryd.prog 46 #[.pointer (some ⟨p, 0, none⟩), .int .i64 (i : Int), .agg #[.int .i64 d, .int .i64 t]] w (RePost q w (rch A i (d, t))) := by
  obtain ⟨o, c, rfl⟩ := hvc
  have c3 := h.c3
  have c4 := h.c4
  have hp := h.lt
  have hqq := hq.lt
  obtain ⟨a0, a1⟩ := hq.get ha
  dsimp only at a0 a1
  have hii : decide ((A.length : Int) ≤ (i : Int)) = false := by simp; omega
  have hil : (i : Int) < (A.length : Int) := by omega
  have h0 : ((a : Int) == 0) = false := by rw [beq_eq_false_iff_ne]; exact hne
  have hb1 : Below w.heap.size w ((w.alloc (.cells #[.int .i64 d, .int .i64 t] 103)).drew) := Below.drew ((Below.refl _ _).alloc (Nat.le_refl _) _)
  have hqa := (hb1.block q hq.lt).trans hq
  have hkb := kept_of_below (S := fun k => k = q) hb1
  by_cases e1 : a = d
  · subst e1
    by_cases e2 : b = t
    · subst e2
      have HF := Lib.hid (rePost (q := q) (w := w) (r := rch A i (a, b)) (b := true) (A := A) (by unfold rch; rw [ha]; simp [hne]) hqa hkb)
      clear hq hb1 hqa hkb ha
      go_enter Tryd.func46, Tryd.ntmps46
      go_wp2_with fail
      go_region
      go_wp2_with fail
      go_ret
      exact HF.out
    · have HF := Lib.hid (rePost (q := q) (w := w) (r := rch A i (a, t)) (b := false) (A := A) (by unfold rch; rw [ha]; simp [hne, e2]) hqa hkb)
      clear hq hb1 hqa hkb ha
      go_enter Tryd.func46, Tryd.ntmps46
      go_wp2_with fail
      go_region
      go_wp2_with fail
      go_ret
      exact HF.out
  · have HF := Lib.hid (rePost (q := q) (w := w) (r := rch A i (d, t)) (b := false) (A := A) (by unfold rch; rw [ha]; simp [hne, e1]) hqa hkb)
    clear hq hb1 hqa hkb ha
    go_enter Tryd.func46, Tryd.ntmps46
    go_wp2_with fail
    go_region
    go_wp2_with fail
    go_ret
    exact HF.out

theorem reach_any (p q : Nat) (A : List (Int × Int)) (globs caps d t : Int) (i : Int) (w : World) (va vc : Value) (h : WkC w p va globs caps vc q A.length) (hq : AtS w q A) (hvc : ∃ o c, vc = .slice o A.length c) (hpq : p ≠ q) (h0 : 0 ≤ i) :
    Calls Tryd.prog 46 #[.pointer (some ⟨p, 0, none⟩), .int .i64 i, .agg #[.int .i64 d, .int .i64 t]] w (RePost q w (rch A i.toNat (d, t))) := by
  obtain ⟨k, rfl⟩ := Int.eq_ofNat_of_zero_le h0
  rw [Int.toNat_natCast]
  by_cases hk : k < A.length
  · obtain ⟨a, b, hab⟩ : ∃ a b, A[k]? = some (a, b) := ⟨_, _, List.getElem?_eq_getElem hk⟩
    by_cases ha : a = 0
    · subst ha
      exact reach_new p q A globs caps d t k w va vc h hq hvc hk hpq b hab
    · exact reach_old p q A globs caps d t k w va vc h hq hvc hk a b hab ha
  · exact reach_far p q A globs caps d t k w va vc h hq hvc (by omega)
end Go.Proofs.YtpmbdncackneoaaDoor.Oc
