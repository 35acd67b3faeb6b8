/- A row from its end; a stack with a row on it. -/
import Derived.Test.YtiimofdbconlhaaDoorPriB
namespace Go.Proofs.YtiimofdbconlhaaDoor
open Go.RowKit Go.Shelf PriM

attribute [local go_sem] Oper.semAt_some

/-- What comes in the k rounds from the end: the index, the part. -/
def encB (x : Nat × Pv) : Array Value := #[.int .i64 (x.1 : Int), x.2.agg]

set_option maxRecDepth 100000 in
set_option maxHeartbeats 4000000 in
/-- slices.Backward's closure, for every loop body that keeps the row. -/
theorem back1_in (F : Fence) (n : Nat) (h7 : F.fn 74) (hro : F.round = none) (hn : 1 ≤ n) (l Bs n₀ b off cap : Nat) (Z : Nat → Prop) (ps : List Pv) (hlen : ps.length ≤ 140737488351232) (hb : b < n₀) (hbr : ¬ Z b) (hB : Bs < n₀) (hBr : ¬ Z Bs) (J Jx : List (Nat × Pv) → World → Prop)
    (hY : ∀ pre x W, J pre W → pre.length < ps.length → YieldAt F (n - 1) Tryd.prog l (encB x) W fun e W' =>
      (e = .returned (.bool true) ∧ J (pre ++ [x]) W' ∧ KeptB n₀ Z W W') ∨ (e = .returned (.bool false) ∧ Jx (pre ++ [x]) W'))
    (W : World) (hBs : W.cell? ⟨Bs, 0, none⟩ = some (.slice (some ⟨b, off, none⟩) ps.length cap)) (hc : CellsP W b off ps) (h0 : J [] W) :
    CallsIn F n Tryd.prog 74 #[.func (.yield l) #[] #[], .pointer (some ⟨Bs, 0, none⟩)] W fun e W' => (∃ v, e = .returned v) ∧
      ((∃ ys : List (Nat × Pv), ys.map (·.2) = ps.reverse ∧ J ys W') ∨ (∃ pre, Jx pre W')) := by
  have hBs1 := hBs
  refine callsIn_of_wp Tryd.func74 rfl h7 ?_ hro
  simp only [Tryd.ntmps74, List.size_toArray, List.length_cons, List.length_nil, Nat.reduceAdd, Nat.reduceSub, Array.replicate_succ, Array.replicate_zero, List.push_toArray, List.append_toArray, List.nil_append, List.cons_append]
  gi_wp2
  gi_loopw [3] (fun i wr => ∃ (k : Nat) (ys : List (Nat × Pv)), k ≤ ps.length ∧ i = .int .i64 ((k : Int) - 1) ∧ ys.length + k = ps.length ∧ ys.map (·.2) = (ps.drop k).reverse ∧ J ys wr ∧ KeptB n₀ Z W wr)
    (fun i _ => (intOf i + 1).toNat)
  case atStart => exact ⟨ps.length, [], Nat.le_refl _, rfl, by simp, by simp, h0, KeptB.refl _ _ _⟩
  case round =>
    obtain ⟨k, ys, hk, rfl, hyl, hym, hJs, hnx⟩ := hrel
    have hBw := (hnx.cell (p := ⟨Bs, 0, none⟩) hB hBr).trans hBs1
    cases k with
    | zero =>
      gi_wp2
      go_end0
      exact ⟨⟨_, rfl⟩, .inl ⟨ys, by simpa using hym, hJs⟩⟩
    | succ k =>
      obtain ⟨c0, c1⟩ := hc k ps[k] (by simp [show k < ps.length by omega])
      have c0 := (hnx.cell (p := ⟨b, off + k * 2, none⟩) hb hbr).trans c0
      have c1 := (hnx.cell (p := ⟨b, off + k * 2 + 1, none⟩) hb hbr).trans c1
      have hsn : (ys ++ [(k, ps[k])]).map (·.2) = (ps.drop k).reverse := by
        rw [List.map_append, hym, List.drop_eq_getElem_cons (show k < ps.length by omega), List.reverse_cons]; rfl
      have HS := Lib.hid hsn
      have HY := Lib.hid hym
      clear hsn hym
      obtain ⟨fn, tmps, assign, body, hy, hR⟩ := hY ys (k, ps[k]) wr hJs (by omega)
      unfold encB Pv.agg at hy
      dsimp only at hy
      have e1 : ((k + 1 : Nat) : Int) - 1 = k := by omega
      rw [e1]
      generalize ps[k] = p at *
      gi_wp2
      refine hR.mono ?_
      rintro e W3 (⟨rfl, hJ3, hk3⟩ | ⟨rfl, hJx3⟩)
      · gi_wp2
        go_roundw
        case rel => exact ⟨k, _, by omega, rfl, by simp; omega, HS.out, hJ3, hnx.trans hk3⟩
        case measure => simp [intOf]
      · gi_wp2
        refine bodyPost_ret (results_none rfl _ _ _) rfl ?_
        exact ⟨⟨_, rfl⟩, .inr ⟨_, hJx3⟩⟩

set_option maxRecDepth 100000 in
set_option maxHeartbeats 1000000 in
/-- .. at a slice of no parts. -/
theorem back1_nil_in (F : Fence) (n : Nat) (h7 : F.fn 74) (hro : F.round = none) (l Bs : Nat) (o : Option Addr) (c : Nat) (J : List (Nat × Pv) → World → Prop) (W : World) (hBs : W.cell? ⟨Bs, 0, none⟩ = some (.slice o 0 c)) (h0 : J [] W) :
    CallsIn F n Tryd.prog 74 #[.func (.yield l) #[] #[], .pointer (some ⟨Bs, 0, none⟩)] W fun e W' => (∃ v, e = .returned v) ∧ J [] W' := by
  refine callsIn_of_wp Tryd.func74 rfl h7 ?_ hro
  simp only [Tryd.ntmps74, List.size_toArray, List.length_cons, List.length_nil, Nat.reduceAdd, Nat.reduceSub, Array.replicate_succ, Array.replicate_zero, List.push_toArray, List.append_toArray, List.nil_append, List.cons_append]
  gi_wp2
  gi_loopw [3] (fun i wr => i = .int .i64 (-1) ∧ J [] wr) (fun _ _ => 0)
  case atStart => exact ⟨rfl, h0⟩
  case round =>
    obtain ⟨rfl, hJs⟩ := hrel
    gi_wp2
    go_end0
    exact ⟨⟨_, rfl⟩, hJs⟩

/-- The row that is gone through: none, or one that lies apart from Z. -/
def RdZ (n₀ : Nat) (Z : Nat → Prop) (w : World) (v : Value) (l : List Pv) : Prop :=
  (∃ o c, v = .slice o 0 c ∧ l = []) ∨
  ∃ b off c, v = .slice (some ⟨b, off, none⟩) l.length c ∧ b < n₀ ∧ ¬ Z b ∧ CellsP w b off l

theorem back_stops (F : Fence) (n : Nat) (h7 : F.fn 74) (hro : F.round = none) (hn : 1 ≤ n) (Bs n₀ : Nat) (Z : Nat → Prop) (sv : Value) (ps : List Pv) (hlen : ps.length ≤ 140737488351232) (w : World) (hB : Bs < n₀) (hBZ : ¬ Z Bs) (hn₀ : n₀ ≤ w.heap.size)
    (hc : w.cell? ⟨Bs, 0, none⟩ = some sv) (hI : RdZ n₀ Z w sv ps) :
    SeqStopsK F n Tryd.prog 74 #[.pointer (some ⟨Bs, 0, none⟩)] encB (KeptB n₀ Z) (fun ys => ys.map (·.2) = ps.reverse) (fun _ => True) ps.length w := fun l J Jx W hW _ _ hY h0 => by
  have hc' := (hW.cell (p := ⟨Bs, 0, none⟩) (by show Bs < _; omega)).trans hc
  rcases hI with ⟨o, c, rfl, rfl⟩ | ⟨b, off, cap, rfl, hb, hbz, hcs⟩
  · exact (back1_nil_in F n h7 hro l Bs o c J W hc' h0).mono fun e W' ⟨he, hj⟩ => ⟨he, .inl ⟨_, rfl, hj⟩⟩
  · refine (back1_in F n h7 hro hn l Bs n₀ b off cap Z ps hlen hb hbz hB hBZ J Jx hY W hc' (fun j p hj => ?_) h0).mono ?_
    · obtain ⟨a, b'⟩ := hcs j p hj
      exact ⟨(hW.cell (by show b < _; omega)).trans a, (hW.cell (by show b < _; omega)).trans b'⟩
    · rintro e W' ⟨he, ⟨ys, h, hj⟩ | ⟨pre, hj⟩⟩
      · exact ⟨he, .inl ⟨_, h, hj⟩⟩
      · exact ⟨he, .inr ⟨_, trivial, hj⟩⟩

set_option maxHeartbeats 1000000 in
/-- slices.Backward: the slice is boxed; the function captures the box. -/
theorem back_in (F : Fence) (n : Nat) (h5 : F.fn 43) (hro : F.round = none) (a : Option Addr) (len cap : Nat) (w : World) :
    CallsIn F n Tryd.prog 43 #[.slice a len cap] w fun e w' => e = .returned (.func (.func 74) #[] #[.pointer (some ⟨w.heap.size, 0, none⟩)]) ∧ w' = w.alloc (.cells #[.slice a len cap] 53) := by
  refine callsIn_of_wp Tryd.func43 rfl h5 ?_ hro
  simp only [Tryd.ntmps43, List.size_toArray, List.length_cons, List.length_nil, Nat.reduceAdd, Nat.reduceSub, Array.replicate_succ, Array.replicate_zero, List.push_toArray, List.append_toArray, List.nil_append, List.cons_append]
  gi_wp2
  go_ret
  exact ⟨rfl, rfl⟩
end Go.Proofs.YtiimofdbconlhaaDoor
