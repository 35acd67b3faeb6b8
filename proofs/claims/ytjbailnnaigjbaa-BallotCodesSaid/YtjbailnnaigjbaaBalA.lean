/- Entries; rows of the call's own: a cell set, copies of rows. -/
import Derived.Test.YtjbailnnaigjbaaBalT
import Derived.Laws.IdiomCopy
namespace Go.Proofs.Ytjbailnnaigjbaa
open Go.RowKit OctM

theorem cellk {w : World} {b i : Nat} {cs : Array Value} {t : TypeId} {fr : Nat × Nat} {v : Value} (h : w.heap[b]? = some (.cells cs t fr)) (hv : cs[i]? = some v) : w.cell? ⟨b, i, none⟩ = some v := by simp [World.cell?, h, hv]
theorem kept_of_below {S : Nat → Prop} {w w' : World} (h : Below w.heap.size w w') : Kept S w w' := (Below.kept (S := fun k => w.heap.size ≤ k) h (fun _ h _ => h)).weak (fun k h1 h2 => by omega)
theorem free_of {w : World} {b : Nat} {cs : Array Value} {t : TypeId} (h : w.heap[b]? = some (.cells cs t (0, 0))) (i : Nat) : w.frozen? ⟨b, i, none⟩ = false := by simp [World.frozen?, h]
theorem set_block {w : World} {b i : Nat} {cs : Array Value} {t : TypeId} {u : Value} (h : w.heap[b]? = some (.cells cs t (0, 0))) : (w.setCell ⟨b, i, none⟩ u).heap[b]? = some (.cells (cs.setIfInBounds i u) t (0, 0)) := by simp [World.setCell, Array.getElem?_modify, h]

/-- Cells set one by one, from a place on. -/
def setL : List Value → Nat → List Value → List Value
  | cs, _, [] => cs
  | cs, i, v :: vs => setL (cs.set i v) (i + 1) vs
theorem sets_block {b : Nat} {t : TypeId} : ∀ (vs : List Value) (i : Nat) (W : World) (cs : List Value), W.heap[b]? = some (.cells cs.toArray t (0, 0)) → (W.setCells b i vs).heap[b]? = some (.cells (setL cs i vs).toArray t (0, 0))
  | [], _, _, _, h => h
  | v :: vs, i, W, cs, h => by
    have h1 := set_block (i := i) (u := v) h
    rw [List.setIfInBounds_toArray] at h1
    exact sets_block vs (i + 1) _ _ h1
theorem sets_kept (b : Nat) : ∀ (vs : List Value) (i : Nat) (W : World), Kept (fun g => g = b) W (W.setCells b i vs)
  | [], _, W => Kept.refl _ W
  | v :: vs, i, W => ((Kept.refl (fun g => g = b) W).setCell (p := ⟨b, i, none⟩) (.inl rfl) v).trans (sets_kept b vs (i + 1) _)
theorem sets_below {b n : Nat} (hb : n ≤ b) (vs : List Value) (i : Nat) (W : World) (hn : n ≤ W.heap.size) : Below n W (W.setCells b i vs) :=
  (sets_kept b vs i W).below hn (fun k hk => by omega)
theorem bp_world {P : Program} {f : Func} {R : Ending → World → Prop} {x : Exit} {a : Act} {W W' : World} (e : W' = W) (h : bodyPost P f R x a W') : bodyPost P f R x a W := e ▸ h

structure En where
  tm : Nat
  ss : Nat
  nm : Nat
  cl : List UInt8

/-- The cells of entries, each with its bytes' slice. -/
def cE (p : En × Value) : List Value := [.int .u64 (p.1.tm : Int), .int .u64 (p.1.ss : Int), .int .u64 (p.1.nm : Int), p.2]
def CsE (ps : List (En × Value)) : List Value := ps.flatMap cE
theorem CsE_length (ps : List (En × Value)) : (CsE ps).length = ps.length * 4 := by
  induction ps with
  | nil => rfl
  | cons p ps ih =>
    have : CsE (p :: ps) = cE p ++ CsE ps := by simp [CsE]
    rw [this, List.length_append, ih, List.length_cons]
    simp [cE]
    omega
theorem CsE_get (ps : List (En × Value)) (i : Nat) (p : En × Value) (hp : ps[i]? = some p) (j : Nat) (u : Value) (hu : (cE p)[j]? = some u) : (CsE ps)[i * 4 + j]? = some u := by
  have hj : j < 4 := by
    have h1 := (List.getElem?_eq_some_iff.1 hu).1
    simpa [cE] using h1
  have hi := (List.getElem?_eq_some_iff.1 hp).1
  have h1 : ps = ps.take i ++ p :: ps.drop (i + 1) := by
    rw [← (List.getElem?_eq_some_iff.1 hp).2]
    simp
  have hsp : CsE ps = CsE (ps.take i) ++ (cE p ++ CsE (ps.drop (i + 1))) := by
    have h2 : CsE (ps.take i ++ p :: ps.drop (i + 1)) = CsE (ps.take i) ++ (cE p ++ CsE (ps.drop (i + 1))) := by simp [CsE]
    rw [← h2, ← h1]
  rw [hsp, List.getElem?_append_right (by rw [CsE_length, List.length_take]; omega), CsE_length, List.length_take, List.getElem?_append_left (by simp [cE]; omega)]
  rw [show i * 4 + j - min i ps.length * 4 = j by omega]
  exact hu
theorem CsE_set (ps : List (En × Value)) (i : Nat) (x : En) (v u : Value) (hp : ps[i]? = some (x, v)) : (CsE ps).set (i * 4 + 3) u = CsE (ps.set i (x, u)) := by
  induction ps generalizing i with
  | nil => simp at hp
  | cons p ps ih =>
    have e : ∀ (q : En × Value) (qs : List (En × Value)), CsE (q :: qs) = cE q ++ CsE qs := fun q qs => by simp [CsE]
    rcases i with _ | i
    · simp only [List.getElem?_cons_zero, Option.some.injEq] at hp
      subst hp
      rw [e, List.set_cons_zero, e]
      simp [cE]
    · simp only [List.getElem?_cons_succ] at hp
      rw [e, List.set_cons_succ, e, List.set_append_right _ _ (by simp [cE]; omega), ← ih i hp]
      congr 2
      simp [cE]
      omega

/-- A cell of a row of the call's own is set. -/
theorem own_set {w : World} {base : Nat} {e : TypeId} {size g n cap k : Nat} {xs : List Value} {u : Value} (h : w.ownsRow base e size (.slice (some ⟨g, 0, none⟩) n cap) n xs) : (w.setCell ⟨g, k, none⟩ u).ownsRow base e size (.slice (some ⟨g, 0, none⟩) n cap) n (xs.set k u) := by
  refine ⟨by rw [List.length_set]; exact h.1, ?_⟩
  rcases h.2 with ⟨hv, _⟩ | ⟨g', cap', cur, hv, hb, hg, hn, hm, hs, ht⟩
  · cases hv
  · injection hv with hv _ hc
    injection hv with hv
    injection hv with hv _ _
    subst hv hc
    refine .inr ⟨g, cap, cur.setIfInBounds k u, rfl, hb, set_block hg, hn, hm, by simpa using hs, ?_⟩
    rw [Array.toList_setIfInBounds, List.take_set, ht]

/-- A row of entries of the call's own, each with bytes of its own. -/
structure OwnL (w : World) (base : Nat) (v : Value) (ps : List (En × Value)) : Prop where
  row : w.ownsRow base 51 4 v ps.length (CsE ps)
  cells : ∀ p ∈ ps, Own w base p.2 p.1.cl
  apart : ∀ p ∈ ps, ∀ g, p.2.ownBlock = some g → v.ownBlock ≠ some g

theorem OwnL.kept {S : Nat → Prop} {w w' : World} {base : Nat} {v : Value} {ps : List (En × Value)} (h : OwnL w base v ps) (hk : Kept S w w') (hv : ∀ g, v.ownBlock = some g → ¬ S g) (hp : ∀ p ∈ ps, ∀ g, p.2.ownBlock = some g → ¬ S g) : OwnL w' base v ps :=
  ⟨own_kept h.row hk hv, fun p hp' => own_kept (h.cells p hp') hk (hp p hp'), h.apart⟩
theorem OwnL.below {w w' : World} {base n : Nat} {v : Value} {ps : List (En × Value)} (h : OwnL w base v ps) (hb : Below n w w') (hn : w.heap.size ≤ n) : OwnL w' base v ps :=
  h.kept (S := fun k => n ≤ k) (Below.kept hb fun _ h _ => h) (fun g hg => by have := (h.row.lt g hg).2; simp; omega) (fun p hp g hg => by have := ((h.cells p hp).lt g hg).2; simp; omega)
theorem OwnL.base {w : World} {base b : Nat} {v : Value} {ps : List (En × Value)} (h : OwnL w base v ps) (hb : b ≤ base) : OwnL w b v ps :=
  ⟨own_base h.row hb, fun p hp => own_base (h.cells p hp) hb, h.apart⟩
theorem ownL_nil (w : World) (base : Nat) : OwnL w base (.slice none 0 0) [] := ⟨World.ownsRow_nil _ _ _ _, fun _ h => (List.not_mem_nil h).elim, fun _ h => (List.not_mem_nil h).elim⟩

theorem eqNilB : ∀ (w : World) (a : Option Addr) (n c n' c' : Nat), (binOp .eql 36 (.slice a n c) (.slice none n' c')).run Try.prog w = .ok (.bool a.isNone) w :=
  fun w a n c n' c' => Lib.run_eql_slice_nil w _ _ a n c n' c' Try.underlying36
theorem eqNilU : ∀ (w : World) (a : Option Addr) (n c n' c' : Nat), (binOp .eql 30 (.slice a n c) (.slice none n' c')).run Try.prog w = .ok (.bool a.isNone) w :=
  fun w a n c n' c' => Lib.run_eql_slice_nil w _ _ a n c n' c' Try.underlying30
theorem eqNilE : ∀ (w : World) (a : Option Addr) (n c n' c' : Nat), (binOp .eql 29 (.slice a n c) (.slice none n' c')).run Try.prog w = .ok (.bool a.isNone) w :=
  fun w a n c n' c' => Lib.run_eql_slice_nil w _ _ a n c n' c' Try.underlying29
theorem boolinfo : (Try.prog.info? 4).map (fun i => (i.zero, i.size, i.bytes)) = some (some (.bool false), 1, 1) := by kernel_rfl
theorem enInfo : (Try.prog.info? 51).map (fun i => (i.zero, i.size, i.bytes)) = some (some (.agg #[.int .u64 0, .int .u64 0, .int .u64 0, .slice none 0 0]), 4, 48) := by kernel_rfl

set_option maxHeartbeats 2000000 in
set_option maxRecDepth 100000 in
theorem clb (base n : Nat) (v : Value) (xs : List Value) (w : World) (h : w.ownsRow base 4 1 v n xs) (hl : n ≤ 1000000) (hx : ∀ u ∈ xs, u.oneCell' = true) :
    Calls Try.prog 59 #[v] w fun e w' => ∃ v', e = .returned v' ∧ w'.ownsRow w.heap.size 4 1 v' n xs ∧ Below w.heap.size w w' := by
  have q := eqNilB
  have hx1 := h.1
  have hcs := h
  rcases h.2 with ⟨rfl, rfl⟩ | ⟨g, c, cur, rfl, hb, hg, hn, hm, hs, ht⟩
  · have hx0 : xs = [] := List.eq_nil_of_length_eq_zero (by omega)
    subst hx0
    go_enter Try.func59, Try.ntmps59
    go_wp2_with fail
    go_ret
    exact ⟨_, rfl, World.ownsRow_nil _ _ _ _, Below.refl _ _⟩
  · obtain ⟨i0, hi0, hz0, hz1, hz2⟩ := info_parts boolinfo
    have Hc := Lib.hid (fun j u (hj : xs[j]? = some u) => World.ownsRow.cells hcs rfl j u hj)
    have HX := Lib.hid hx
    have HX1 := Lib.hid hx1
    clear hcs h hg ht hs hx hx1
    go_enter Try.func59, Try.ntmps59
    go_wp2_with (
      at_builtin
      refine wpList_append_own _ rfl _ _ 36 rfl w.heap.size 4 i0 (.bool false) 1 1 Try.underlying36 hi0 hz0 hz1 hz2 rfl (by decide) _ _ _ rfl (World.ownsRow_made w #[] 0 (Nat.le_refl _) (Nat.zero_le _) rfl) ⟨g, 0, none⟩ n c xs rfl ?qc1 ?qc2 ?qc3 ?qc4 ?qc5 ?qc6 ?_)
    case qc1 => have := HX1.out; omega
    case qc2 =>
      intro j u hj
      have h1 := cell_alloc (Hc.out j u hj) (.cells #[] 4)
      rw [add_none, Nat.zero_add] at h1
      exact h1
    case qc3 => exact HX.out
    case qc4 => unfold maxLen; omega
    case qc5 => omega
    intro v' w1 hown hgrow _
    go_wp2_with fail
    go_ret
    refine ⟨v', rfl, by simpa using hown, ?_⟩
    exact ((Below.refl _ w).alloc (Nat.le_refl _) _).grown hgrow (by simp) (by intro k hk; simp [Value.ownBlock] at hk; omega)

set_option maxHeartbeats 2000000 in
set_option maxRecDepth 100000 in
theorem clu (base n : Nat) (v : Value) (xs : List Value) (w : World) (h : w.ownsRow base 32 1 v n xs) (hl : n ≤ 1000000) (hx : ∀ u ∈ xs, u.oneCell' = true) :
    Calls Try.prog 60 #[v] w fun e w' => ∃ v', e = .returned v' ∧ w'.ownsRow w.heap.size 32 1 v' n xs ∧ Below w.heap.size w w' := by
  have q := eqNilU
  have hx1 := h.1
  have hcs := h
  rcases h.2 with ⟨rfl, rfl⟩ | ⟨g, c, cur, rfl, hb, hg, hn, hm, hs, ht⟩
  · have hx0 : xs = [] := List.eq_nil_of_length_eq_zero (by omega)
    subst hx0
    go_enter Try.func60, Try.ntmps60
    go_wp2_with fail
    go_ret
    exact ⟨_, rfl, World.ownsRow_nil _ _ _ _, Below.refl _ _⟩
  · obtain ⟨i0, hi0, hz0, hz1, hz2⟩ := info_parts u64info
    have Hc := Lib.hid (fun j u (hj : xs[j]? = some u) => World.ownsRow.cells hcs rfl j u hj)
    have HX := Lib.hid hx
    have HX1 := Lib.hid hx1
    clear hcs h hg ht hs hx hx1
    go_enter Try.func60, Try.ntmps60
    go_wp2_with (
      at_builtin
      refine wpList_append_own _ rfl _ _ 30 rfl w.heap.size 32 i0 (.int .u64 0) 1 8 Try.underlying30 hi0 hz0 hz1 hz2 rfl (by decide) _ _ _ rfl (World.ownsRow_made w #[] 0 (Nat.le_refl _) (Nat.zero_le _) rfl) ⟨g, 0, none⟩ n c xs rfl ?qc1 ?qc2 ?qc3 ?qc4 ?qc5 ?qc6 ?_)
    case qc1 => have := HX1.out; omega
    case qc2 =>
      intro j u hj
      have h1 := cell_alloc (Hc.out j u hj) (.cells #[] 32)
      rw [add_none, Nat.zero_add] at h1
      exact h1
    case qc3 => exact HX.out
    case qc4 => unfold maxLen; omega
    case qc5 => omega
    intro v' w1 hown hgrow _
    go_wp2_with fail
    go_ret
    refine ⟨v', rfl, by simpa using hown, ?_⟩
    exact ((Below.refl _ w).alloc (Nat.le_refl _) _).grown hgrow (by simp) (by intro k hk; simp [Value.ownBlock] at hk; omega)

set_option maxHeartbeats 2000000 in
set_option maxRecDepth 100000 in
theorem cle (base n : Nat) (v : Value) (xs : List Value) (w : World) (h : w.ownsRow base 51 4 v n xs) (hl : n ≤ 1000000) (hx : ∀ u ∈ xs, u.oneCell' = true) :
    Calls Try.prog 74 #[v] w fun e w' => ∃ v', e = .returned v' ∧ w'.ownsRow w.heap.size 51 4 v' n xs ∧ Below w.heap.size w w' := by
  have q := eqNilE
  have hx1 := h.1
  have hcs := h
  rcases h.2 with ⟨rfl, rfl⟩ | ⟨g, c, cur, rfl, hb, hg, hn, hm, hs, ht⟩
  · have hx0 : xs = [] := List.eq_nil_of_length_eq_zero (by omega)
    subst hx0
    go_enter Try.func74, Try.ntmps74
    go_wp2_with fail
    go_ret
    exact ⟨_, rfl, World.ownsRow_nil _ _ _ _, Below.refl _ _⟩
  · obtain ⟨i0, hi0, hz0, hz1, hz2⟩ := info_parts enInfo
    have Hc := Lib.hid (fun j u (hj : xs[j]? = some u) => World.ownsRow.cells hcs rfl j u hj)
    have HX := Lib.hid hx
    have HX1 := Lib.hid hx1
    clear hcs h hg ht hs hx hx1
    go_enter Try.func74, Try.ntmps74
    go_wp2_with (
      at_builtin
      refine wpList_append_own _ rfl _ _ 29 rfl w.heap.size 51 i0 (.agg #[.int .u64 0, .int .u64 0, .int .u64 0, .slice none 0 0]) 4 48 Try.underlying29 hi0 hz0 hz1 hz2 rfl (by decide) _ _ _ rfl (World.ownsRow_made w #[] 0 (Nat.le_refl _) (Nat.zero_le _) rfl) ⟨g, 0, none⟩ n c xs rfl ?qc1 ?qc2 ?qc3 ?qc4 ?qc5 ?qc6 ?_)
    case qc1 => have := HX1.out; omega
    case qc2 =>
      intro j u hj
      have h1 := cell_alloc (Hc.out j u hj) (.cells #[] 51)
      rw [add_none, Nat.zero_add] at h1
      exact h1
    case qc3 => exact HX.out
    case qc4 => unfold maxLen; omega
    case qc5 => omega
    intro v' w1 hown hgrow _
    go_wp2_with fail
    go_ret
    refine ⟨v', rfl, by simpa using hown, ?_⟩
    exact ((Below.refl _ w).alloc (Nat.le_refl _) _).grown hgrow (by simp) (by intro k hk; simp [Value.ownBlock] at hk; omega)
end Go.Proofs.Ytjbailnnaigjbaa
