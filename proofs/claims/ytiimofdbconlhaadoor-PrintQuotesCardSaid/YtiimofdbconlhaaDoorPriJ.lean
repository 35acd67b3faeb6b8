/- Types in memory; what kind a type is; the parts that types become. -/
import Derived.Test.YtiimofdbconlhaaDoorPriI
namespace Go.Proofs.YtiimofdbconlhaaDoor
open Go.RowKit PriM

mutual
/-- Three cells are a type; what it leads to lies below n. -/
def TyV (n : Nat) (w : World) : Ty → Value → Value → Value → Prop
  | .mk nm v ks, c0, c1, c2 => c0 = .string ⟨nm.toArray⟩ ∧ c1 = .int .i64 v ∧ -9223372036854775808 ≤ v ∧ v ≤ 9223372036854775807 ∧
    ∃ o cap, c2 = .slice o ks.length cap ∧ (ks = [] ∨ ∃ b off, o = some ⟨b, off, none⟩ ∧ b < n ∧ ks.length ≤ cap ∧ cap ≤ maxLen ∧ TysV n w ks b off)
def TysV (n : Nat) (w : World) : List Ty → Nat → Nat → Prop
  | [], _, _ => True
  | t :: ts, b, off => (∃ c0 c1 c2, w.cell? ⟨b, off, none⟩ = some c0 ∧ w.cell? ⟨b, off + 1, none⟩ = some c1 ∧ w.cell? ⟨b, off + 2, none⟩ = some c2 ∧ TyV n w t c0 c1 c2) ∧ TysV n w ts b (off + 3)
end

theorem TysV.get {n : Nat} {w : World} : ∀ {ts : List Ty} {b off : Nat}, TysV n w ts b off → ∀ i (h : i < ts.length), ∃ c0 c1 c2, w.cell? ⟨b, off + i * 3, none⟩ = some c0 ∧ w.cell? ⟨b, off + i * 3 + 1, none⟩ = some c1 ∧ w.cell? ⟨b, off + i * 3 + 2, none⟩ = some c2 ∧ TyV n w ts[i] c0 c1 c2
  | [], _, _, _, i, h => by simp at h
  | t :: ts, b, off, ⟨h0, h1⟩, 0, _ => by simpa using h0
  | t :: ts, b, off, ⟨h0, h1⟩, i + 1, h => by
    have := TysV.get h1 i (by simpa using h)
    rw [show off + 3 + i * 3 = off + (i + 1) * 3 by omega] at this
    exact this

mutual
theorem TyV.below {n : Nat} {w w' : World} (hb : Below n w w') : ∀ (t : Ty) {c0 c1 c2 : Value}, TyV n w t c0 c1 c2 → TyV n w' t c0 c1 c2
  | .mk _nm _v ks, _c0, _c1, _c2, ⟨h0, h1, h2, h3, o, cap, h4, h5⟩ => ⟨h0, h1, h2, h3, o, cap, h4, h5.elim .inl fun ⟨b, off, e, hl, h6, h7, h8⟩ => .inr ⟨b, off, e, hl, h6, h7, TysV.below hb hl ks h8⟩⟩
theorem TysV.below {n b : Nat} {w w' : World} (hb : Below n w w') (hl : b < n) : ∀ (ts : List Ty) {off : Nat}, TysV n w ts b off → TysV n w' ts b off
  | [], _, _ => trivial
  | t :: ts, _off, ⟨⟨c0, c1, c2, h0, h1, h2, h3⟩, h4⟩ => ⟨⟨c0, c1, c2, (hb.cell hl).trans h0, (hb.cell hl).trans h1, (hb.cell hl).trans h2, TyV.below hb t h3⟩, TysV.below hb hl ts h4⟩
end

/-- A box with a type. -/
def BoxT (w : World) (b : Nat) (c0 c1 c2 : Value) : Prop := w.heap[b]? = some (.cells #[c0, c1, c2] 24 (0, 0))
theorem BoxT.cells {w : World} {b : Nat} {c0 c1 c2 : Value} (h : BoxT w b c0 c1 c2) : w.cell? ⟨b, 0, none⟩ = some c0 ∧ w.cell? ⟨b, 1, none⟩ = some c1 ∧ w.cell? ⟨b, 2, none⟩ = some c2 :=
  ⟨by rw [cell_of_row _ _ _ _ _ _ h]; rfl, by rw [cell_of_row _ _ _ _ _ _ h]; rfl, by rw [cell_of_row _ _ _ _ _ _ h]; rfl⟩

theorem toList_mk (l : List UInt8) : (⟨l.toArray⟩ : ByteArray).toList = l := by rw [ByteArray.toList_eq]

def isFn (nm : List UInt8) (n : Nat) : Bool := nm == [45, 62] && n == 2
def isPr (nm : List UInt8) (n : Nat) : Bool := nm == [42] && decide (2 ≤ n)

set_option maxRecDepth 100000 in
theorem isFunction_any (s : ByteArray) (nm : List UInt8) (hs : s.toList = nm) (v : Int) (o : Option Addr) (n c : Nat) (w : World) (_hn : n ≤ 1000000000000) :
    Calls Tryd.prog 45 #[.agg #[.string s, .int .i64 v, .slice o n c]] w fun e w' => e = .returned (.bool (isFn nm n)) ∧ Below w.heap.size w w' := by
  unfold isFn
  by_cases h1 : nm = [45, 62]
  · have e1 : (s.toList == [45, 62]) = true := by rw [hs]; simpa using h1
    have e2 : (nm == [45, 62]) = true := by simpa using h1
    rw [e2]
    have E2 := Lib.hid hs
    clear e2 hs h1
    by_cases h2 : n = 2
    · have t1 : ((n : Int) == 2) = true := by simp; omega
      have e3 : (n == 2) = true := by simpa using h2
      rw [e3]
      clear h2 e3
      go_enter Tryd.func45, Tryd.ntmps45
      go_wp2
      go_ret
      exact ⟨rfl, (Below.refl _ _).alloc (Nat.le_refl _) _⟩
    · have t1 : ((n : Int) == 2) = false := by simp; omega
      have e3 : (n == 2) = false := by simpa using h2
      rw [e3]
      clear h2 e3
      go_enter Tryd.func45, Tryd.ntmps45
      go_wp2
      go_ret
      exact ⟨rfl, (Below.refl _ _).alloc (Nat.le_refl _) _⟩
  · have e1 : (s.toList == [45, 62]) = false := by rw [hs]; simpa using h1
    have e2 : (nm == [45, 62]) = false := by simpa using h1
    rw [e2]
    clear e2 hs h1
    go_enter Tryd.func45, Tryd.ntmps45
    go_wp2
    go_ret
    exact ⟨rfl, (Below.refl _ _).alloc (Nat.le_refl _) _⟩

set_option maxRecDepth 100000 in
theorem isProduct_any (s : ByteArray) (nm : List UInt8) (hs : s.toList = nm) (v : Int) (o : Option Addr) (n c : Nat) (w : World) (hn : n ≤ 1000000000000) :
    Calls Tryd.prog 47 #[.agg #[.string s, .int .i64 v, .slice o n c]] w fun e w' => e = .returned (.bool (isPr nm n)) ∧ Below w.heap.size w w' := by
  unfold isPr
  by_cases h1 : nm = [42]
  · have e1 : (s.toList == [42]) = true := by rw [hs]; simpa using h1
    have e2 : (nm == [42]) = true := by simpa using h1
    rw [e2]
    clear e2 hs h1
    by_cases h2 : 2 ≤ n
    · have t1 : decide ((2 : Int) ≤ (n : Int)) = true := by simp; omega
      have e3 : decide (2 ≤ n) = true := by simpa using h2
      rw [e3]
      clear h2 e3
      go_enter Tryd.func47, Tryd.ntmps47
      go_wp2
      go_ret
      exact ⟨rfl, (Below.refl _ _).alloc (Nat.le_refl _) _⟩
    · have t1 : decide ((2 : Int) ≤ (n : Int)) = false := by simp; omega
      have e3 : decide (2 ≤ n) = false := by simpa using h2
      rw [e3]
      clear h2 e3
      go_enter Tryd.func47, Tryd.ntmps47
      go_wp2
      go_ret
      exact ⟨rfl, (Below.refl _ _).alloc (Nat.le_refl _) _⟩
  · have e1 : (s.toList == [42]) = false := by rw [hs]; simpa using h1
    have e2 : (nm == [42]) = false := by simpa using h1
    rw [e2]
    clear e2 hs h1
    go_enter Tryd.func47, Tryd.ntmps47
    go_wp2
    go_ret
    exact ⟨rfl, (Below.refl _ _).alloc (Nat.le_refl _) _⟩

theorem isFn_kd (nm : List UInt8) (v : Int) (ks : List Ty) : isFn nm ks.length = decide (kd (.mk nm v ks) = 1) := by
  unfold isFn
  rw [kd_mk]
  by_cases h1 : nm = [45, 62] ∧ ks.length = 2
  · rw [if_pos h1]; simp [h1.1, h1.2]
  · rw [if_neg h1]
    have : (nm == [45, 62] && ks.length == 2) = false := by
      rw [Bool.eq_false_iff]; intro h; simp at h; exact h1 h
    rw [this]
    split <;> simp
theorem isPr_kd (nm : List UInt8) (v : Int) (ks : List Ty) (h : kd (.mk nm v ks) ≠ 1) : isPr nm ks.length = decide (kd (.mk nm v ks) ≠ 0) := by
  unfold isPr
  rw [kd_mk] at h ⊢
  by_cases h1 : nm = [45, 62] ∧ ks.length = 2
  · rw [if_pos h1] at h; exact absurd rfl h
  · rw [if_neg h1]
    by_cases h2 : nm = [42] ∧ 2 ≤ ks.length
    · rw [if_pos h2]; simp [h2.1, h2.2]
    · rw [if_neg h2]
      have : (nm == [42] && decide (2 ≤ ks.length)) = false := by
        rw [Bool.eq_false_iff]; intro h; simp at h; exact h2 h
      rw [this]; simp

def fnOf : Nat → Nat
  | 0 => 32
  | 1 => 75
  | _ => 76

/-- What typ, left and tight leave. -/
def PartR (k : Nat) (w : World) (c0 c1 c2 : Value) (e : Ending) (w' : World) : Prop :=
  ∃ b, e = .returned (Pv.agg ⟨⟨#[]⟩, some (fnOf k, b)⟩) ∧ BoxT w' b c0 c1 c2 ∧ Below w.heap.size w w' ∧ w.heap.size ≤ b

set_option maxRecDepth 100000 in
theorem typ_any (s : ByteArray) (v : Int) (o : Option Addr) (n c : Nat) (w : World) :
    Calls Tryd.prog 21 #[.agg #[.string s, .int .i64 v, .slice o n c]] w (PartR 0 w (.string s) (.int .i64 v) (.slice o n c)) := by
  have HF := fun (x : Obj) => Lib.hid (show BoxT ((w.alloc (.cells #[.string s, .int .i64 v, .slice o n c] 24)).alloc x) w.heap.size (.string s) (.int .i64 v) (.slice o n c) from (Below.heap_alloc _ _ _ (by simp)).trans (heap_alloc_new w _))
  go_enter Tryd.func21, Tryd.ntmps21
  go_wp2
  exact bodyPost_ret (v := .agg #[.string ⟨#[]⟩, .func (.func 32) #[] #[.pointer (some ⟨w.heap.size, 0, none⟩)]]) (by simp [results, Tryd.results21, go_sem]) rfl ⟨_, rfl, (HF _).out, ((Below.refl _ _).alloc (Nat.le_refl _) _).alloc (by simp) _, Nat.le_refl _⟩
end Go.Proofs.YtiimofdbconlhaaDoor
