/- Instructions and functions in memory; what an instruction takes and leaves. -/
import Derived.Test.YtpmbdncackneoaaDoorCodM
import Derived.Test.YtpmbdncackneoaaDoorOctB
namespace Go.Proofs.YtpmbdncackneoaaDoor.Oc
open Go.RowKit OctM CodM

/-- An instruction as a value. -/
def insV (x : Ins) : Value := .agg #[.int .u8 (x.op : Int), .int .i64 x.n, .int .i64 x.a, .string x.s]

def EffPost (x : Ins) (w : World) (e : Ending) (w' : World) : Prop := e = .returned (.tuple #[.int .i64 (tk x), .int .i64 (lv x)]) ∧ Below w.heap.size w w'
theorem effPost {x : Ins} {w w' : World} {a b : Int} (ha : tk x = a) (hb : lv x = b) (h : Below w.heap.size w w') : EffPost x w (.returned (.tuple #[.int .i64 a, .int .i64 b])) w' := by
  subst ha hb; exact ⟨rfl, h⟩

set_option maxHeartbeats 4000000 in
set_option maxRecDepth 100000 in
theorem effect (op : Nat) (n a : Int) (s : ByteArray) (w : World) :
    Calls Tryd.prog 67 #[.agg #[.int .u8 (op : Int), .int .i64 n, .int .i64 a, .string s]] w (EffPost ⟨op, n, a, s⟩ w) := by
  go_enter Tryd.func67, Tryd.ntmps67
  go_wp2_with fail
  all_goals
    go_ret2
    refine effPost ?_ ?_ ((Below.refl _ _).alloc (Nat.le_refl _) _)
    all_goals
      simp only [beq_iff_eq, beq_eq_false_iff_ne, ne_eq] at *
      first | unfold tk | unfold lv
      dsimp only
      (repeat' split) <;> first | rfl | omega

/-- The cells of instructions; a slice of them. -/
def InsC (w : World) (b off : Nat) (l : List Ins) : Prop := ∀ j x, l[j]? = some x → w.cell? ⟨b, off + j * 4, none⟩ = some (.int .u8 (x.op : Int)) ∧ w.cell? ⟨b, off + j * 4 + 1, none⟩ = some (.int .i64 x.n) ∧ w.cell? ⟨b, off + j * 4 + 2, none⟩ = some (.int .i64 x.a) ∧ w.cell? ⟨b, off + j * 4 + 3, none⟩ = some (.string x.s)
def RdI (w : World) (v : Value) (l : List Ins) : Prop :=
  (∃ o c, v = .slice o 0 c ∧ l = []) ∨
  ∃ b off c, v = .slice (some ⟨b, off, none⟩) l.length c ∧ 0 < l.length ∧ l.length ≤ c ∧ c ≤ maxLen ∧ InsC w b off l
/-- The cells of functions; a slice of them. -/
def FunC (w : World) (b off : Nat) (l : List Fun) : Prop := ∀ j f, l[j]? = some f → w.cell? ⟨b, off + j * 2, none⟩ = some (.int .i64 f.caps) ∧ ∃ v, w.cell? ⟨b, off + j * 2 + 1, none⟩ = some v ∧ RdI w v f.code
def RdF (w : World) (v : Value) (l : List Fun) : Prop :=
  (∃ o c, v = .slice o 0 c ∧ l = []) ∨
  ∃ b off c, v = .slice (some ⟨b, off, none⟩) l.length c ∧ 0 < l.length ∧ l.length ≤ c ∧ c ≤ maxLen ∧ FunC w b off l

section
variable {w w' : World} {n : Nat}
theorem InsC.below {b off : Nat} {l : List Ins} (h : InsC w b off l) (hb : Below n w w') (hn : w.heap.size ≤ n) : InsC w' b off l := by
  intro j x hx
  obtain ⟨h1, h2, h3, h4⟩ := h j x hx
  have l1 := World.block_lt_of_cell? w _ h1
  simp only at l1
  exact ⟨(hb.cell (by simp; omega)).trans h1, (hb.cell (by simp; omega)).trans h2, (hb.cell (by simp; omega)).trans h3, (hb.cell (by simp; omega)).trans h4⟩
theorem RdI.below {v : Value} {l : List Ins} (h : RdI w v l) (hb : Below n w w') (hn : w.heap.size ≤ n) : RdI w' v l := by
  rcases h with h | ⟨b, off, c, h1, h2, h3, h4, h5⟩
  · exact .inl h
  · exact .inr ⟨b, off, c, h1, h2, h3, h4, h5.below hb hn⟩
theorem FunC.below {b off : Nat} {l : List Fun} (h : FunC w b off l) (hb : Below n w w') (hn : w.heap.size ≤ n) : FunC w' b off l := by
  intro j x hx
  obtain ⟨h1, v, h2, h3⟩ := h j x hx
  have l1 := World.block_lt_of_cell? w _ h1
  simp only at l1
  exact ⟨(hb.cell (by simp; omega)).trans h1, v, (hb.cell (by simp; omega)).trans h2, h3.below hb hn⟩
theorem RdF.below {v : Value} {l : List Fun} (h : RdF w v l) (hb : Below n w w') (hn : w.heap.size ≤ n) : RdF w' v l := by
  rcases h with h | ⟨b, off, c, h1, h2, h3, h4, h5⟩
  · exact .inl h
  · exact .inr ⟨b, off, c, h1, h2, h3, h4, h5.below hb hn⟩
theorem RdI.form {v : Value} {l : List Ins} (h : RdI w v l) : ∃ o c, v = .slice o l.length c := by
  rcases h with ⟨o, c, rfl, rfl⟩ | ⟨b, off, c, rfl, _⟩ <;> exact ⟨_, _, rfl⟩
theorem RdF.form {v : Value} {l : List Fun} (h : RdF w v l) : ∃ o c, v = .slice o l.length c := by
  rcases h with ⟨o, c, rfl, rfl⟩ | ⟨b, off, c, rfl, _⟩ <;> exact ⟨_, _, rfl⟩
end

def NmPost (fs : List Fun) (caps globs : Int) (x : Ins) (d : Int) (w : World) (e : Ending) (w' : World) : Prop := e = .returned (.bool (nm fs caps globs x d)) ∧ Below w.heap.size w w'
theorem nmPost {fs : List Fun} {caps globs : Int} {x : Ins} {d : Int} {w w' : World} {b : Bool} (hb : nm fs caps globs x d = b) (h : Below w.heap.size w w') : NmPost fs caps globs x d w (.returned (.bool b)) w' := by
  subst hb; exact ⟨rfl, h⟩

set_option maxHeartbeats 4000000 in
set_option maxRecDepth 100000 in
theorem names_rest (fs : List Fun) (p : Nat) (caps globs d t : Int) (op : Nat) (n a : Int) (s : ByteArray) (w : World) (h3 : op ≠ 3) (h5 : op ≠ 5) (h6 : op ≠ 6) :
    Calls Tryd.prog 66 #[.pointer (some ⟨p, 0, none⟩), .agg #[.int .u8 (op : Int), .int .i64 n, .int .i64 a, .string s], .agg #[.int .i64 d, .int .i64 t]] w (NmPost fs caps globs ⟨op, n, a, s⟩ d w) := by
  have t3 : ((op : Int) == 3) = false := by rw [beq_eq_false_iff_ne]; omega
  have t5 : ((op : Int) == 5) = false := by rw [beq_eq_false_iff_ne]; omega
  have t6 : ((op : Int) == 6) = false := by rw [beq_eq_false_iff_ne]; omega
  have HB := Lib.hid (show Below w.heap.size w ((w.alloc (.cells #[.int .u8 (op : Int), .int .i64 n, .int .i64 a, .string s] 28)).alloc (.cells #[.int .i64 d, .int .i64 t] 103)) from ((Below.refl _ _).alloc (Nat.le_refl _) _).alloc (by simp) _)
  go_enter Tryd.func66, Tryd.ntmps66
  go_wp2_with fail
  all_goals
    go_ret
    refine nmPost ?_ HB.out
    simp only [beq_iff_eq, beq_eq_false_iff_ne, ne_eq] at *
    unfold nm
    dsimp only
    (repeat' split) <;> first | rfl | (exfalso; omega) | (rw [Bool.eq_iff_iff]; simp only [decide_eq_true_eq, Bool.false_eq_true, iff_false]; omega)

end Go.Proofs.YtpmbdncackneoaaDoor.Oc
