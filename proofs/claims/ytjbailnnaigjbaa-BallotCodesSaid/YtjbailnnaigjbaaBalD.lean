/- One node of one: what it asks of its state. -/
import Derived.Test.YtjbailnnaigjbaaBalC
namespace Go.Proofs.Ytjbailnnaigjbaa
open Go.RowKit OctM

/-- A state of one node. -/
structure One (p : Sc) : Prop where
  n : p.n = 1
  s : p.s = 0
  bs : p.bs = 0
  bt : p.bt = 0

def nsz (n : Nat) (v : Value) : Prop := ∃ o c, v = .slice o n c

set_option maxHeartbeats 4000000 in
set_option maxRecDepth 100000 in
theorem whole_one (p : Sc) (d : Value) (ol ov on om : Option Addr) (nl cl cv cn cm : Nat) (w : World) (h1 : p.n = 1) (h2 : p.s = 0) (hd : nsz 0 d) :
    Calls Try.prog 41 #[stV p d (.slice ol nl cl) (.slice ov 1 cv) (.slice on 1 cn) (.slice om 1 cm)] w fun e w' => e = .returned (.bool true) ∧ Below w.heap.size w w' := by
  obtain ⟨od, cd, rfl⟩ := hd
  unfold stV stC
  rw [h1, h2]
  have HB := Lib.hid (show Below w.heap.size w (w.alloc (.cells #[.int .i64 1, .int .i64 0, .int .i64 p.k, .int .u64 (p.tm : Int), .int .i64 p.vt, .int .u64 (p.bs : Int), .int .u64 (p.bt : Int), .slice od 0 cd, .slice ol nl cl, .int .u64 (p.cm : Int), .int .u8 (p.rl : Int), .int .i64 p.ld, .int .i64 p.lf, .slice ov 1 cv, .slice on 1 cn, .slice om 1 cm] 41)) from (Below.refl _ _).alloc (Nat.le_refl _) _)
  go_enter Try.func41, Try.ntmps41
  go_wp2_with fail
  go_ret
  exact ⟨rfl, HB.out⟩

set_option maxHeartbeats 4000000 in
set_option maxRecDepth 100000 in
theorem last_one (p : Sc) (d v n m : Value) (ol : Option Addr) (nl cl : Nat) (w : World) (h1 : p.bs = 0) (hd : nsz 0 d) (hl : nl ≤ 1000000) :
    Calls Try.prog 18 #[stV p d (.slice ol nl cl) v n m] w fun e w' => e = .returned (.int .u64 (nl : Int)) ∧ Below w.heap.size w w' := by
  obtain ⟨od, cd, rfl⟩ := hd
  have e0 : IntKind.u64.wrap (nl : Int) = (nl : Int) := by rw [IntKind.wrap_u64]; omega
  have e1 : (0 : Int) + (nl : Int) = (nl : Int) := by omega
  unfold stV stC
  rw [h1]
  have HB := Lib.hid (show Below w.heap.size w (w.alloc (.cells #[.int .i64 p.n, .int .i64 p.s, .int .i64 p.k, .int .u64 (p.tm : Int), .int .i64 p.vt, .int .u64 ((0 : Nat) : Int), .int .u64 (p.bt : Int), .slice od 0 cd, .slice ol nl cl, .int .u64 (p.cm : Int), .int .u8 (p.rl : Int), .int .i64 p.ld, .int .i64 p.lf, v, n, m] 41)) from (Below.refl _ _).alloc (Nat.le_refl _) _)
  go_enter Try.func18, Try.ntmps18
  go_wp2_with fail
  go_ret
  exact ⟨rfl, HB.out⟩

set_option maxHeartbeats 4000000 in
set_option maxRecDepth 100000 in
theorem term_zero (p : Sc) (d v n m : Value) (ol : Option Addr) (nl cl : Nat) (w : World) (h1 : p.bs = 0) (h2 : p.bt = 0) (hd : nsz 0 d) (hl : nl ≤ 1000000) :
    Calls Try.prog 45 #[stV p d (.slice ol nl cl) v n m, .int .u64 0] w fun e w' => e = .returned (.tuple #[.int .u64 0, .bool true]) ∧ Below w.heap.size w w' := by
  obtain ⟨od, cd, rfl⟩ := hd
  have e0 : IntKind.u64.wrap (nl : Int) = (nl : Int) := by rw [IntKind.wrap_u64]; omega
  have e2 : decide (nl < 0) = false := by simp
  have e3 : decide ((nl : Int) < 0) = false := by simp
  unfold stV stC
  rw [h1, h2]
  have HB := Lib.hid (show Below w.heap.size w (w.alloc (.cells #[.int .i64 p.n, .int .i64 p.s, .int .i64 p.k, .int .u64 (p.tm : Int), .int .i64 p.vt, .int .u64 ((0 : Nat) : Int), .int .u64 ((0 : Nat) : Int), .slice od 0 cd, .slice ol nl cl, .int .u64 (p.cm : Int), .int .u8 (p.rl : Int), .int .i64 p.ld, .int .i64 p.lf, v, n, m] 41)) from (Below.refl _ _).alloc (Nat.le_refl _) _)
  go_enter Try.func45, Try.ntmps45
  go_wp2_with fail
  go_ret2
  exact ⟨rfl, HB.out⟩

set_option maxHeartbeats 4000000 in
set_option maxRecDepth 100000 in
theorem term_at (p : Sc) (base : Nat) (ps : List (En × Value)) (k : Nat) (x : En × Value) (d l v n m : Value) (w : World) (h1 : p.bs = 0) (hd : nsz 0 d) (hl : OwnL w base l ps) (hx : ps[k]? = some x) (hll : ps.length ≤ 1000) :
    Calls Try.prog 45 #[stV p d l v n m, .int .u64 ((k + 1 : Nat) : Int)] w fun e w' => e = .returned (.tuple #[.int .u64 (x.1.tm : Int), .bool true]) ∧ Below w.heap.size w w' := by
  obtain ⟨od, cd, rfl⟩ := hd
  have hk := (List.getElem?_eq_some_iff.1 hx).1
  obtain ⟨g, c, rfl, hb, hg, -, hc⟩ := own_at hl.row (by omega)
  have hc0 := hc (k * 4 + 0) _ (CsE_get ps k x hx 0 _ rfl)
  rw [Nat.add_zero] at hc0
  have hx0 := (cell_alloc hc0 (.cells #[.int .i64 p.n, .int .i64 p.s, .int .i64 p.k, .int .u64 (p.tm : Int), .int .i64 p.vt, .int .u64 0, .int .u64 (p.bt : Int), .slice od 0 cd, .slice (some ⟨g, 0, none⟩) ps.length c, .int .u64 (p.cm : Int), .int .u8 (p.rl : Int), .int .i64 p.ld, .int .i64 p.lf, v, n, m] 41))
  have e0 : IntKind.u64.wrap (ps.length : Int) = (ps.length : Int) := by rw [IntKind.wrap_u64]; omega
  obtain ⟨K, hK⟩ : ∃ K : Int, ((k + 1 : Nat) : Int) = K := ⟨_, rfl⟩
  have hK0 : (0 : Int) < K := by omega
  have hK1 : K ≤ (ps.length : Int) := by omega
  have e2 : IntKind.u64.wrap (K - 0) = K := by rw [IntKind.wrap_u64]; omega
  have e3 : IntKind.u64.wrap (K - 1) = ((k : Nat) : Int) := by rw [IntKind.wrap_u64]; omega
  have d1 : decide ((ps.length : Int) < K) = false := by simp; omega
  have d2 : (K == 0) = false := by simp; omega
  have d3 : decide (K < 0) = false := by simp; omega
  have hkk : (k : Int) < (ps.length : Int) := by omega
  rw [hK]
  unfold stV stC
  rw [h1]
  have HB := Lib.hid (show Below w.heap.size w (w.alloc (.cells #[.int .i64 p.n, .int .i64 p.s, .int .i64 p.k, .int .u64 (p.tm : Int), .int .i64 p.vt, .int .u64 ((0 : Nat) : Int), .int .u64 (p.bt : Int), .slice od 0 cd, .slice (some ⟨g, 0, none⟩) ps.length c, .int .u64 (p.cm : Int), .int .u8 (p.rl : Int), .int .i64 p.ld, .int .i64 p.lf, v, n, m] 41)) from (Below.refl _ _).alloc (Nat.le_refl _) _)
  clear hK hl hc hc0 hx
  go_enter Try.func45, Try.ntmps45
  go_wp2_with fail
  go_ret2
  exact ⟨rfl, HB.out⟩

/-- A node at work. -/
def NdAt (w : World) (X : Nat) (p : Sc) (d l v n m o : Value) : Prop := w.heap[X]? = some (.cells (stC p d l v n m ++ [o]).toArray 93 (0, 0))

set_option maxHeartbeats 4000000 in
set_option maxRecDepth 100000 in
theorem others_one (X : Nat) (p : Sc) (d l v n m o : Value) (w : World) (h : NdAt w X p d l v n m o) (h1 : p.n = 1) (h2 : p.s = 0) :
    Calls Try.prog 61 #[.pointer (some ⟨X, 0, none⟩)] w fun e w' => e = .returned (.slice none 0 0) ∧ w = w' := by
  have c0 : w.cell? ⟨X, 0, none⟩ = some (.int .i64 1) := by rw [← h1]; exact cellk h rfl
  have c1 : w.cell? ⟨X, 1, none⟩ = some (.int .i64 0) := by rw [← h2]; exact cellk h rfl
  clear h
  go_enter Try.func61, Try.ntmps61
  go_wp2_with fail
  go_loop [3, 10] (fun r i => r = .slice none 0 0 ∧ (i = .int .i64 0 ∨ i = .int .i64 1)) (fun _ i => 2 - (intOf i).toNat)
  case atStart => exact ⟨rfl, .inl rfl⟩
  case round =>
    obtain ⟨rfl, rfl | rfl⟩ := hrel
    · go_wp2_with fail
      go_round
      case rel => exact ⟨rfl, .inr rfl⟩
      case measure => decide
    · go_wp2_with fail
      go_ret
      exact ⟨rfl, rfl⟩

set_option maxHeartbeats 4000000 in
set_option maxRecDepth 100000 in
theorem updateOthers_one (X : Nat) (p : Sc) (d l v n m o : Value) (w : World) (h : NdAt w X p d l v n m o) (h1 : p.n = 1) (h2 : p.s = 0) :
    Calls Try.prog 42 #[.pointer (some ⟨X, 0, none⟩)] w fun e w' => e = .returned (.tuple #[]) ∧ w = w' := by
  have H := Lib.hid (others_one X p d l v n m o w h h1 h2)
  clear h
  go_enter Try.func42, Try.ntmps42
  go_wp2_with fail
  refine H.out.mono ?_
  rintro e w' ⟨rfl, rfl⟩
  go_wp2_with fail
  go_loop [7] (fun i => i = .int .i64 0) (fun _ => 0)
  case atStart => rfl
  case round =>
    subst hrel
    go_wp2_with fail
    go_end0
    exact ⟨rfl, rfl⟩
end Go.Proofs.Ytjbailnnaigjbaa
