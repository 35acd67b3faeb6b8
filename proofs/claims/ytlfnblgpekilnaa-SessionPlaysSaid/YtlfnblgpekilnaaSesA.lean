/- Sessions: the plain table; rows of the call's own; a row copied over. -/
import Derived.Test.YtlfnblgpekilnaaOctE
import Derived.Test.YtlfnblgpekilnaaOctP
import Derived.BigRegion
import Derived.Deep.Cut
import Derived.Deep.CutBlock
import Derived.Deep.DeepCutAuto
import Derived.Deep.RegionLaw
import Derived.Deep.RegionHeld3
import Derived.OrdersHeld
import Derived.Laws.BytesArg
import Derived.Lib.SlBytesConst
import Derived.Laws.CopyRow
import Derived.Lib.AppendZerosOnto
import Derived.Lib.Overlaps
import Derived.Laws.Externs
namespace Go.Proofs.Ytlfnblgpekilnaa
open Go.RowKit OctM

theorem cellk {w : World} {b i : Nat} {cs : Array Value} {t : TypeId} {fr : Nat × Nat} {v : Value} (h : w.heap[b]? = some (.cells cs t fr)) (hv : cs[i]? = some v) : w.cell? ⟨b, i, none⟩ = some v := by simp [World.cell?, h, hv]
theorem kept_of_below {S : Nat → Prop} {w w' : World} (h : Below w.heap.size w w') : Kept S w w' := (Below.kept (S := fun k => w.heap.size ≤ k) h (fun _ h _ => h)).weak (fun k h1 h2 => by omega)
theorem free_of {w : World} {b : Nat} {cs : Array Value} {t : TypeId} (h : w.heap[b]? = some (.cells cs t (0, 0))) (i : Nat) : w.frozen? ⟨b, i, none⟩ = false := by simp [World.frozen?, h]
theorem set_block {w : World} {b i : Nat} {cs : Array Value} {t : TypeId} {u : Value} (h : w.heap[b]? = some (.cells cs t (0, 0))) : (w.setCell ⟨b, i, none⟩ u).heap[b]? = some (.cells (cs.setIfInBounds i u) t (0, 0)) := by simp [World.setCell, Array.getElem?_modify, h]
theorem own_slice {w : World} {base : Nat} {e : TypeId} {size : Nat} {v : Value} {n : Nat} {xs : List Value} (h : w.ownsRow base e size v n xs) : ∃ o c, v = .slice o n c := by
  rcases h.2 with ⟨rfl, rfl⟩ | ⟨g, c, cur, rfl, _⟩
  · exact ⟨_, _, rfl⟩
  · exact ⟨_, _, rfl⟩
theorem own_at {w : World} {base : Nat} {e : TypeId} {size : Nat} {v : Value} {n : Nat} {xs : List Value} (h : w.ownsRow base e size v n xs) (hn : 0 < n) : ∃ g c, v = .slice (some ⟨g, 0, none⟩) n c ∧ base ≤ g ∧ g < w.heap.size ∧ (∀ i, w.frozen? ⟨g, i, none⟩ = false) ∧ ∀ j u, xs[j]? = some u → w.cell? ⟨g, j, none⟩ = some u := by
  have hc := h
  rcases h.2 with ⟨rfl, rfl⟩ | ⟨g, c, cur, rfl, hb, hg, _⟩
  · omega
  · refine ⟨g, c, rfl, hb, lt_of_block hg, fun i => free_of hg i, fun j u hj => ?_⟩
    have := World.ownsRow.cells hc rfl j u hj
    rw [add_none, Nat.zero_add] at this
    exact this
theorem own_set {w : World} {base : Nat} {e : TypeId} {size g n cap k : Nat} {xs : List Value} {u : Value} (h : w.ownsRow base e size (.slice (some ⟨g, 0, none⟩) n cap) n xs) : (w.setCell ⟨g, k, none⟩ u).ownsRow base e size (.slice (some ⟨g, 0, none⟩) n cap) n (xs.set k u) := by
  refine ⟨by rw [List.length_set]; exact h.1, ?_⟩
  rcases h.2 with ⟨hv, _⟩ | ⟨g', cap', cur, hv, hb, hg, hn, hm, hs, ht⟩
  · cases hv
  · injection hv with hv _ hc
    injection hv with hv
    injection hv with hv _ _
    subst hv hc
    refine .inr ⟨g, cap, cur.setIfInBounds k u, rfl, hb, set_block hg, hn, hm, by simpa using hs, ?_⟩
    rw [Array.toList_setIfInBounds, List.take_set, ht]
theorem own_ne {w : World} {base : Nat} {e t : TypeId} {size : Nat} {v : Value} {n : Nat} {xs : List Value} {X : Nat} {cs : Array Value} {fr : Nat × Nat} (h : w.ownsRow base e size v n xs) (hX : w.heap[X]? = some (.cells cs t fr)) (ht : t ≠ e) : v.ownBlock ≠ some X := by
  rcases h.2 with ⟨rfl, _⟩ | ⟨g, c, cur, rfl, _, hg, _⟩
  · intro h; cases h
  · intro e'
    have : g = X := by simpa [Value.ownBlock] using e'
    subst this
    rw [hg] at hX
    injection hX with hX
    injection hX with _ hX _
    exact ht hX.symm
theorem own_ne2 {w : World} {b1 b2 : Nat} {e1 e2 : TypeId} {s1 s2 : Nat} {v u : Value} {n1 n2 : Nat} {xs ys : List Value} (h : w.ownsRow b1 e1 s1 v n1 xs) (k : w.ownsRow b2 e2 s2 u n2 ys) (he : e1 ≠ e2) : ∀ g, v.ownBlock = some g → u.ownBlock ≠ some g := by
  rcases h.2 with ⟨rfl, _⟩ | ⟨g, c, cur, rfl, _, hg, _⟩
  · intro g h; cases h
  · intro g' e'
    have : g = g' := by simpa [Value.ownBlock] using e'
    subst this
    exact own_ne k hg he

/-- A session. -/
structure Se where
  id : Nat
  nm : Nat
  rp : List UInt8

/-- The cells of sessions, each with its reply's slice. -/
def cS (p : Se × Value) : List Value := [.int .u64 (p.1.id : Int), .int .u64 (p.1.nm : Int), p.2]
def CsS (ps : List (Se × Value)) : List Value := ps.flatMap cS
theorem CsS_length (ps : List (Se × Value)) : (CsS ps).length = ps.length * 3 := by
  induction ps with
  | nil => rfl
  | cons p ps ih =>
    have : CsS (p :: ps) = cS p ++ CsS ps := by simp [CsS]
    rw [this, List.length_append, ih, List.length_cons]
    simp [cS]
    omega
theorem CsS_append (ps qs : List (Se × Value)) : CsS (ps ++ qs) = CsS ps ++ CsS qs := by simp [CsS]
theorem CsS_take (ps : List (Se × Value)) (i : Nat) (h : i ≤ ps.length) : (CsS ps).take (i * 3) = CsS (ps.take i) := by
  have e : CsS ps = CsS (ps.take i) ++ CsS (ps.drop i) := by rw [← CsS_append, List.take_append_drop]
  rw [e, List.take_append_of_le_length (by rw [CsS_length, List.length_take]; omega), List.take_of_length_le (by rw [CsS_length, List.length_take]; omega)]
theorem CsS_drop (ps : List (Se × Value)) (i : Nat) (h : i ≤ ps.length) : (CsS ps).drop (i * 3) = CsS (ps.drop i) := by
  have e : CsS ps = CsS (ps.take i) ++ CsS (ps.drop i) := by rw [← CsS_append, List.take_append_drop]
  have hl : i * 3 = (CsS (ps.take i)).length := by rw [CsS_length, List.length_take]; omega
  rw [e, hl, List.drop_left]
theorem CsS_get (ps : List (Se × Value)) (i : Nat) (p : Se × Value) (hp : ps[i]? = some p) (j : Nat) (u : Value) (hu : (cS p)[j]? = some u) : (CsS ps)[i * 3 + j]? = some u := by
  have hj : j < 3 := by
    have h1 := (List.getElem?_eq_some_iff.1 hu).1
    simpa [cS] using h1
  have hi := (List.getElem?_eq_some_iff.1 hp).1
  have h1 : ps = ps.take i ++ p :: ps.drop (i + 1) := by
    rw [← (List.getElem?_eq_some_iff.1 hp).2]
    simp
  have hsp : CsS ps = CsS (ps.take i) ++ (cS p ++ CsS (ps.drop (i + 1))) := by
    have h2 : CsS (ps.take i ++ p :: ps.drop (i + 1)) = CsS (ps.take i) ++ (cS p ++ CsS (ps.drop (i + 1))) := by simp [CsS]
    rw [← h2, ← h1]
  rw [hsp, List.getElem?_append_right (by rw [CsS_length, List.length_take]; omega), CsS_length, List.length_take, List.getElem?_append_left (by simp [cS]; omega)]
  rw [show i * 3 + j - min i ps.length * 3 = j by omega]
  exact hu
theorem CsS_set (ps : List (Se × Value)) (i : Nat) (x y : Se) (v u : Value) (hp : ps[i]? = some (x, v)) (hid : y.id = x.id) : ((CsS ps).set (i * 3 + 1) (.int .u64 (y.nm : Int))).set (i * 3 + 2) u = CsS (ps.set i (y, u)) := by
  induction ps generalizing i with
  | nil => simp at hp
  | cons p ps ih =>
    have e : ∀ (q : Se × Value) (qs : List (Se × Value)), CsS (q :: qs) = cS q ++ CsS qs := fun q qs => by simp [CsS]
    rcases i with _ | i
    · simp only [List.getElem?_cons_zero, Option.some.injEq] at hp
      subst hp
      rw [e, List.set_cons_zero, e]
      simp [cS, hid]
    · simp only [List.getElem?_cons_succ] at hp
      rw [e, List.set_cons_succ, e, List.set_append_right _ _ (by simp [cS]; omega), List.set_append_right _ _ (by simp [cS]; omega), ← ih i hp]
      congr 2
      · congr 1
        simp [cS]
        omega
      · simp [cS]
        omega

/-- A row of sessions of the call's own, each with bytes of its own. -/
structure OwnS (w : World) (base : Nat) (t : TypeId) (v : Value) (ps : List (Se × Value)) : Prop where
  row : w.ownsRow base t 3 v ps.length (CsS ps)
  cells : ∀ p ∈ ps, Own w base p.2 p.1.rp

theorem OwnS.kept {S : Nat → Prop} {w w' : World} {base : Nat} {t : TypeId} {v : Value} {ps : List (Se × Value)} (h : OwnS w base t v ps) (hk : Kept S w w') (hv : ∀ g, v.ownBlock = some g → ¬ S g) (hp : ∀ p ∈ ps, ∀ g, p.2.ownBlock = some g → ¬ S g) : OwnS w' base t v ps :=
  ⟨own_kept h.row hk hv, fun p hp' => own_kept (h.cells p hp') hk (hp p hp')⟩
theorem OwnS.below {w w' : World} {base n : Nat} {t : TypeId} {v : Value} {ps : List (Se × Value)} (h : OwnS w base t v ps) (hb : Below n w w') (hn : w.heap.size ≤ n) : OwnS w' base t v ps :=
  h.kept (S := fun k => n ≤ k) (Below.kept hb fun _ h _ => h) (fun g hg => by have := (h.row.lt g hg).2; simp; omega) (fun p hp g hg => by have := ((h.cells p hp).lt g hg).2; simp; omega)
theorem OwnS.base {w : World} {base b : Nat} {t : TypeId} {v : Value} {ps : List (Se × Value)} (h : OwnS w base t v ps) (hb : b ≤ base) : OwnS w b t v ps :=
  ⟨own_base h.row hb, fun p hp => own_base (h.cells p hp) hb⟩
theorem ownS_nil (w : World) (base : Nat) (t : TypeId) : OwnS w base t (.slice none 0 0) [] := ⟨World.ownsRow_nil _ _ _ _, fun _ h => (List.not_mem_nil h).elim⟩
theorem OwnS.one {w : World} {base : Nat} {t : TypeId} {v : Value} {ps : List (Se × Value)} (h : OwnS w base t v ps) : ∀ u ∈ CsS ps, u.oneCell' = true := by
  intro u hu
  obtain ⟨p, hp, hu⟩ := List.mem_flatMap.1 hu
  simp only [cS, List.mem_cons, List.not_mem_nil, or_false] at hu
  obtain ⟨o, c, hpo⟩ := own_slice (h.cells p hp)
  rcases hu with rfl | rfl | rfl
  · rfl
  · rfl
  · rw [hpo]; rfl

theorem row_kept (W : World) (b : Nat) (cs : Array Value) : Kept (fun g => g = b) W (W.setRow b cs) :=
  ⟨rfl, rfl, rfl, by simp, fun k _ hs => setRow_other W b k cs hs⟩

theorem ansInfo : (Try.prog.info? 60).map (fun i => (i.zero, i.size, i.bytes)) = some (some (.agg #[.int .u64 0, .int .u64 0, .slice none 0 0]), 3, 40) := by kernel_rfl
theorem sizeAns (W : World) : (sizeOf (Try.prog.elem 53)).run Try.prog W = .ok 3 W := by kernel_rfl

/-- Cells copied over a part of a row, elements of any size. -/
theorem run_copy_rowK {P : Program} (k : Nat) (w : World) (dT sT ty elem : TypeId) (g o dLen dCap : Nat) (a : Addr) (sLen sCap : Nat) (cur : Array Value) (t : TypeId) (cs : List Value)
    (hu : P.underlying dT = some (.slice elem)) (hs : (P.info? elem).map (·.size) = some k)
    (hg : w.heap[g]? = some (.cells cur t (0, 0))) (hn : cs.length = Nat.min sLen dLen * k)
    (hsrc : ∀ j v, cs[j]? = some v → w.cell? (a.add j) = some v) (hfit : o + cs.length ≤ cur.size) (h1 : ∀ v ∈ cs, v.oneCell' = true) :
    (Builtin.copy_ #[dT, sT] ty #[.slice (some ⟨g, o, none⟩) dLen dCap, .slice (some a) sLen sCap]).run P w =
      .ok (goInt (Nat.min sLen dLen)) (w.setRow g (cur.toList.take o ++ cs ++ cur.toList.drop (o + cs.length)).toArray) := by
  have hl := run_loadCells_list (P := P) w a cs hsrc
  have hst := run_storeCells_at P g o t cs 0 cur w hg (by simpa using hfit) h1
  cases hq : P.info? elem with
  | none => simp [hq] at hs
  | some i =>
    have hi : i.size = k := by simpa [hq] using hs
    simp [Builtin.copy_, run_underlying hu, Builtin.lenOf, Builtin.firstCells, sizeOf, typeInfo, hq, hi, ← hn, hl, hst]
end Go.Proofs.Ytlfnblgpekilnaa
