/- The parts of the examples' expressions. -/
import Derived.Test.YtiimofdbconlhaaDoorPriEa
namespace Go.Proofs.YtiimofdbconlhaaDoor
open Go.RowKit PriM

/-- What makes a row of parts. -/
def RPost (w : World) (l : World → List Pv → Prop) (e : Ending) (w' : World) : Prop := ∃ v ps, e = .returned v ∧ OwnP w' w.heap.size v ps ∧ l w' ps ∧ Below w.heap.size w w'

set_option maxRecDepth 100000 in
theorem number_small (k : Nat) (h : k < 100) (w : World) : Calls Tryd.prog 67 #[.int .i64 k] w fun e w' => e = .returned (.string ⟨(Lib.decDigits k).toArray⟩) ∧ w = w' := by
  have HI := Lib.hid (Tryd.strconv_FormatInt_10_small k h w)
  go_enter Tryd.func67, Tryd.ntmps67
  go_wp2_with (go_at_call 85; refine (HI.out).mono ?_; rintro e w' ⟨rfl, rfl⟩)
  go_ret
  exact ⟨rfl, rfl⟩

set_option maxRecDepth 100000 in
set_option maxHeartbeats 1000000 in
theorem ep_var (s : ByteArray) (w : World) : Calls Tryd.prog 42 #[.agg #[.int .u8 5, .string s, .int .i64 0, .bool false, .slice none 0 0, .slice none 0 0]] w (RPost w fun _ ps => ps = [⟨s, none⟩]) := by
  have hn := heap_alloc_new (w.alloc (.cells #[.int .u8 5, .string s, .int .i64 0, .bool false, .slice none 0 0, .slice none 0 0] 36)) (.cells #[.string s, .nilFunc] 51)
  have HF := Lib.hid (own_lit (l := [⟨s, none⟩]) (base := w.heap.size) hn (by simp) (by simp))
  clear hn
  go_enter Tryd.func42, Tryd.ntmps42
  go_wp2_with (go_at_call 44; refine (plain_any _ _).mono ?_; rintro e w' ⟨rfl, rfl⟩)
  go_ret
  exact ⟨_, _, rfl, by simpa using HF.out, rfl, ((Below.refl _ _).alloc (Nat.le_refl _) _).alloc (by simp) _⟩

set_option maxRecDepth 100000 in
set_option maxHeartbeats 1000000 in
theorem ep_int (k : Nat) (h : k < 100) (w : World) : Calls Tryd.prog 42 #[.agg #[.int .u8 1, .string ⟨#[]⟩, .int .i64 k, .bool false, .slice none 0 0, .slice none 0 0]] w (RPost w fun _ ps => ps = [pT (Lib.decDigits k)]) := by
  have hn := heap_alloc_new (w.alloc (.cells #[.int .u8 1, .string ⟨#[]⟩, .int .i64 k, .bool false, .slice none 0 0, .slice none 0 0] 36)) (.cells #[.string ⟨(Lib.decDigits k).toArray⟩, .nilFunc] 51)
  have HF := Lib.hid (own_lit (l := [pT (Lib.decDigits k)]) (base := w.heap.size) hn (by simp) (by simp))
  have HN := Lib.hid (fun W => number_small k h W)
  clear hn h
  generalize (⟨(Lib.decDigits k).toArray⟩ : ByteArray) = S at *
  go_enter Tryd.func42, Tryd.ntmps42
  go_wp2_with (first
    | (go_at_call 67; refine (HN.out _).mono ?_; rintro e w' ⟨rfl, rfl⟩)
    | (go_at_call 44; refine (plain_any _ _).mono ?_; rintro e w' ⟨rfl, rfl⟩))
  go_ret
  exact ⟨_, _, rfl, by simpa using HF.out, rfl, ((Below.refl _ _).alloc (Nat.le_refl _) _).alloc (by simp) _⟩

/-- Six cells of an expression without patterns. -/
def Six (w : World) (b off : Nat) (kd : Int) (s : ByteArray) (N : Int) (ko : Option Addr) (kn kc : Nat) : Prop :=
  w.cell? ⟨b, off, none⟩ = some (.int .u8 kd) ∧ w.cell? ⟨b, off + 1, none⟩ = some (.string s) ∧ w.cell? ⟨b, off + 2, none⟩ = some (.int .i64 N) ∧ w.cell? ⟨b, off + 3, none⟩ = some (.bool false) ∧ w.cell? ⟨b, off + 4, none⟩ = some (.slice none 0 0) ∧ w.cell? ⟨b, off + 5, none⟩ = some (.slice ko kn kc)
theorem Six.below {n : Nat} {w w' : World} {b off : Nat} {kd : Int} {s : ByteArray} {N : Int} {ko : Option Addr} {kn kc : Nat} (h : Six w b off kd s N ko kn kc) (hb : Below n w w') (hn : b < n) : Six w' b off kd s N ko kn kc := by
  obtain ⟨a0, a1, a2, a3, a4, a5⟩ := h
  exact ⟨(hb.cell hn).trans a0, (hb.cell hn).trans a1, (hb.cell hn).trans a2, (hb.cell hn).trans a3, (hb.cell hn).trans a4, (hb.cell hn).trans a5⟩

/-- The five parts of two expressions between three texts. -/
def Five (t0 t1 t2 : ByteArray) (kd0 : Int) (s0 : ByteArray) (N0 : Int) (ko0 : Option Addr) (kn0 kc0 : Nat) (kd1 : Int) (s1 : ByteArray) (N1 : Int) (ko1 : Option Addr) (kn1 kc1 : Nat) (w : World) (ps : List Pv) : Prop :=
  ∃ b0 b1, ps = [⟨t0, none⟩, ⟨⟨#[]⟩, some (41, b0)⟩, ⟨t1, none⟩, ⟨⟨#[]⟩, some (41, b1)⟩, ⟨t2, none⟩] ∧
    BoxE w b0 (.int .u8 kd0) (.string s0) (.int .i64 N0) (.bool false) (.slice none 0 0) (.slice ko0 kn0 kc0) ∧ BoxE w b1 (.int .u8 kd1) (.string s1) (.int .i64 N1) (.bool false) (.slice none 0 0) (.slice ko1 kn1 kc1)

theorem laid_five (t0 t1 t2 : ByteArray) (bt bk off cap : Nat) (kd0 : Int) (s0 : ByteArray) (N0 : Int) (ko0 : Option Addr) (kn0 kc0 : Nat) (kd1 : Int) (s1 : ByteArray) (N1 : Int) (ko1 : Option Addr) (kn1 kc1 : Nat) (w : World)
    (ht : w.heap[bt]? = some (.cells #[.string t0, .string t1, .string t2] 9 (0, 0))) (h0 : Six w bk off kd0 s0 N0 ko0 kn0 kc0) (h1 : Six w bk (off + 6) kd1 s1 N1 ko1 kn1 kc1) :
    Calls Tryd.prog 69 #[.slice (some ⟨bk, off, none⟩) 2 cap, .func (.func 30) #[] #[], .slice (some ⟨bt, 0, none⟩) 3 3] w (RPost w (Five t0 t1 t2 kd0 s0 N0 ko0 kn0 kc0 kd1 s1 N1 ko1 kn1 kc1)) := by
  refine (laid_two t0 t1 t2 bt bk off cap kd0 s0 N0 false none 0 0 ko0 kn0 kc0 kd1 s1 N1 false none 0 0 ko1 kn1 kc1 w ⟨by rw [cell_of_row _ _ _ _ _ _ ht]; rfl, by rw [cell_of_row _ _ _ _ _ _ ht]; rfl, by rw [cell_of_row _ _ _ _ _ _ ht]; rfl⟩ h0 h1).mono ?_
  rintro e w' ⟨v, b0, b1, rfl, hv, x0, x1, hb⟩
  exact ⟨v, _, rfl, hv, ⟨b0, b1, rfl, x0, x1⟩, hb⟩

theorem RPost.later {w w1 : World} {l : World → List Pv → Prop} {e : Ending} {w' : World} (h : RPost w1 l e w') (hb : Below w.heap.size w w1) : RPost w l e w' := by
  obtain ⟨v, ps, rfl, h1, h2, h3⟩ := h
  exact ⟨v, ps, rfl, own_baseP h1 hb.size, h2, hb.trans (h3.mono hb.size)⟩

set_option maxRecDepth 100000 in
set_option maxHeartbeats 2000000 in
theorem ep_op (s : ByteArray) (bk off cap : Nat) (kd0 : Int) (s0 : ByteArray) (N0 : Int) (ko0 : Option Addr) (kn0 kc0 : Nat) (kd1 : Int) (s1 : ByteArray) (N1 : Int) (ko1 : Option Addr) (kn1 kc1 : Nat) (w : World) (hs : s.size ≤ 1000)
    (h0 : Six w bk off kd0 s0 N0 ko0 kn0 kc0) (h1 : Six w bk (off + 6) kd1 s1 N1 ko1 kn1 kc1) :
    Calls Tryd.prog 42 #[.agg #[.int .u8 17, .string s, .int .i64 0, .bool false, .slice none 0 0, .slice (some ⟨bk, off, none⟩) 2 cap]] w (RPost w (Five ⟨#[40]⟩ (⟨#[32]⟩ ++ s ++ ⟨#[32]⟩) ⟨#[41]⟩ kd0 s0 N0 ko0 kn0 kc0 kd1 s1 N1 ko1 kn1 kc1)) := by
  have lk := World.block_lt_of_cell? w _ h0.1
  obtain ⟨wA, hA⟩ : ∃ wA, wA = (w.alloc (.cells #[.int .u8 17, .string s, .int .i64 0, .bool false, .slice none 0 0, .slice (some ⟨bk, off, none⟩) 2 cap] 36)).alloc (.cells #[.string ⟨#[40]⟩, .string (⟨#[32]⟩ ++ s ++ ⟨#[32]⟩), .string ⟨#[41]⟩] 9) := ⟨_, rfl⟩
  have hbA : Below w.heap.size w wA := by rw [hA]; exact ((Below.refl _ _).alloc (Nat.le_refl _) _).alloc (by simp) _
  have hn : wA.heap[w.heap.size + 1]? = some (.cells #[.string ⟨#[40]⟩, .string (⟨#[32]⟩ ++ s ++ ⟨#[32]⟩), .string ⟨#[41]⟩] 9 (0, 0)) := by
    rw [hA]
    have := heap_alloc_new (w.alloc (.cells #[.int .u8 17, .string s, .int .i64 0, .bool false, .slice none 0 0, .slice (some ⟨bk, off, none⟩) 2 cap] 36)) (.cells #[.string ⟨#[40]⟩, .string (⟨#[32]⟩ ++ s ++ ⟨#[32]⟩), .string ⟨#[41]⟩] 9)
    simp only [World.size_alloc] at this
    exact this
  have HC := Lib.hid (laid_five ⟨#[40]⟩ (⟨#[32]⟩ ++ s ++ ⟨#[32]⟩) ⟨#[41]⟩ (w.heap.size + 1) bk off cap kd0 s0 N0 ko0 kn0 kc0 kd1 s1 N1 ko1 kn1 kc1 wA hn (h0.below hbA lk) (h1.below hbA lk))
  have HB := Lib.hid hbA
  have HA := Lib.hid hA
  have o1 : ¬ 9223372036854775807 < 1 + s.size := by omega
  have o2 : ¬ 9223372036854775807 < 1 + s.size + 1 := by omega
  have o3 : ¬ 9223372036854775807 < (⟨#[32]⟩ ++ s : ByteArray).size + 1 := by rw [ByteArray.size_append]; show ¬ _ < 1 + s.size + 1; omega
  clear hA hbA hn h0 h1 lk hs
  go_enter Tryd.func42, Tryd.ntmps42
  go_wp2_with fail
  obtain rfl := HA.out
  go_at_call 69
  refine (HC.out).mono ?_
  intro e w2 hp
  have hq := hp.later HB.out
  obtain ⟨v, ps, rfl, _⟩ := hp
  have HF := Lib.hid hq
  clear hq
  go_wp2_with fail
  go_ret
  exact HF.out
end Go.Proofs.YtiimofdbconlhaaDoor
