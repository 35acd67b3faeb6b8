/- Words and marks in memory, what is kept, rows that grow: small facts. -/
import Derived.Test.YtpmbdncackneoaaDoorRows
import Derived.WalkKit
import Derived.WalkLawsBesides
import Derived.WalkSpells
import Derived.Outline
import Derived.Lib.Hide
import Derived.Lib.Tables
import Derived.Lib.BitFns
import Derived.StillTactics
import Derived.OwnWalk
import Derived.OneCell
import Derived.Laws.Pointers
import Derived.Deep.RegionHeld3
import Derived.Deep.RegionLaw
import Derived.Deep.AppendLies
import Derived.Deep.LoopGhost
import Derived.Deep.DeepFit
import Derived.Deep.DeepMust
import Derived.Deep.QuietTactic
import Derived.BigQuiet
import Derived.Deep.Draws
import Derived.Laws.BitsAllLaws
import Derived.Laws.BitsLemmas
import Derived.Laws.BytesArg
import Derived.Maps.AppendAt
import Derived.Lib.AppendZeros
import Derived.Lib.AppendZerosOnto
import Derived.Laws.AppendOwnNone
import Derived.StillTailTactics
namespace Go.Proofs.YtpmbdncackneoaaDoor
open Go.RowKit

/-- A word as a value; words; marks. -/
def Wv (x : Nat) : Value := .int .u64 (x : Int)
def Ws (l : List Nat) : List Value := l.map Wv
def Fs (l : List Bool) : List Value := l.map .bool

theorem Ws_length (l : List Nat) : (Ws l).length = l.length := by simp [Ws]
theorem Ws_append (l k : List Nat) : Ws (l ++ k) = Ws l ++ Ws k := by simp [Ws]
theorem Ws_one (l : List Nat) : ∀ u ∈ Ws l, u.oneCell' = true := by
  intro u hu
  obtain ⟨b, _, rfl⟩ := List.mem_map.1 hu
  rfl
theorem Fs_length (l : List Bool) : (Fs l).length = l.length := by simp [Fs]
theorem Fs_append (l k : List Bool) : Fs (l ++ k) = Fs l ++ Fs k := by simp [Fs]
theorem Fs_one (l : List Bool) : ∀ u ∈ Fs l, u.oneCell' = true := by
  intro u hu
  obtain ⟨b, _, rfl⟩ := List.mem_map.1 hu
  rfl

theorem wordInfo : (Tryd.prog.info? 31).map (fun i => (i.zero, i.size, i.bytes)) = some (some (.int .u64 0), 1, 8) := by kernel_rfl
theorem boolInfo : (Tryd.prog.info? 4).map (fun i => (i.zero, i.size, i.bytes)) = some (some (.bool false), 1, 1) := by kernel_rfl

/-- What may have been written: blocks of S, and new ones. -/
structure Kept (S : Nat → Prop) (w w' : World) : Prop where
  os : w'.os = w.os
  tape : w'.tape = w.tape
  output : w'.output = w.output
  size : w.heap.size ≤ w'.heap.size
  block : ∀ k, k < w.heap.size → ¬ S k → w'.heap[k]? = w.heap[k]?

theorem Kept.refl (S : Nat → Prop) (w : World) : Kept S w w := ⟨rfl, rfl, rfl, Nat.le_refl _, fun _ _ _ => rfl⟩
theorem Kept.trans {S : Nat → Prop} {a b c : World} (h : Kept S a b) (k : Kept S b c) : Kept S a c :=
  ⟨k.os.trans h.os, k.tape.trans h.tape, k.output.trans h.output, Nat.le_trans h.size k.size, fun i hi hs => (k.block i (Nat.lt_of_lt_of_le hi h.size) hs).trans (h.block i hi hs)⟩
theorem Kept.step {T U : Nat → Prop} {a b c : World} (h : Kept T a b) (k : Kept U b c) (hU : ∀ k, U k → T k ∨ a.heap.size ≤ k) : Kept T a c :=
  ⟨k.os.trans h.os, k.tape.trans h.tape, k.output.trans h.output, Nat.le_trans h.size k.size, fun i hi hs => (k.block i (Nat.lt_of_lt_of_le hi h.size) (fun hu => by
    rcases hU i hu with h1 | h1
    · exact hs h1
    · omega)).trans (h.block i hi hs)⟩
theorem Kept.weak {S T : Nat → Prop} {a b : World} (h : Kept S a b) (hS : ∀ k, k < a.heap.size → S k → T k) : Kept T a b :=
  ⟨h.os, h.tape, h.output, h.size, fun k hi ht => h.block k hi (fun hs => ht (hS k hi hs))⟩
theorem Kept.drew {S : Nat → Prop} {a b : World} (h : Kept S a b) : Kept S a b.drew := ⟨h.os, h.tape, h.output, h.size, h.block⟩
theorem Kept.alloc {S : Nat → Prop} {a b : World} (h : Kept S a b) (o : Obj) : Kept S a (b.alloc o) :=
  h.trans ⟨rfl, rfl, rfl, by simp, fun k hk _ => Below.heap_alloc _ _ _ hk⟩
theorem Kept.setCell {S : Nat → Prop} {a b : World} (h : Kept S a b) {p : Addr} (hp : S p.block ∨ a.heap.size ≤ p.block) (u : Value) : Kept S a (b.setCell p u) :=
  ⟨h.os, h.tape, h.output, by simpa [World.setCell] using h.size, fun k hk hs => (Below.heap_setCell _ _ _ _ (by
    rintro rfl
    rcases hp with hp | hp
    · exact hs hp
    · omega)).trans (h.block k hk hs)⟩
theorem Kept.grown {S : Nat → Prop} {a b c : World} {row : Option Nat} (h : Kept S a b) (hg : b.grownBy c row) (hr : ∀ k, row = some k → S k ∨ a.heap.size ≤ k) : Kept S a c :=
  ⟨hg.os.trans h.os, hg.tape.trans h.tape, hg.output.trans h.output, Nat.le_trans h.size hg.size, fun k hk hs => (hg.block k (Nat.lt_of_lt_of_le hk h.size) (fun e => by
    rcases hr k e.symm with hr | hr
    · exact hs hr
    · omega)).trans (h.block k hk hs)⟩
theorem Kept.below {S : Nat → Prop} {a b : World} {n : Nat} (h : Kept S a b) (hn : n ≤ a.heap.size) (hS : ∀ k, S k → n ≤ k) : Below n a b :=
  ⟨h.os, h.tape, h.output, h.size, fun k hk => h.block k (by omega) (fun hs => by have := hS k hs; omega)⟩
theorem Below.kept {S : Nat → Prop} {a b : World} {n : Nat} (h : Below n a b) (hS : ∀ k, n ≤ k → k < a.heap.size → S k) : Kept S a b :=
  ⟨h.os, h.tape, h.output, h.size, fun k hk hs => h.block k (by rcases Nat.lt_or_ge k n with h' | h'; exact h'; exact absurd (hS k h' hk) hs)⟩
theorem Kept.cell {S : Nat → Prop} {a b : World} (h : Kept S a b) {p : Addr} (hp : p.block < a.heap.size) (hs : ¬ S p.block) : b.cell? p = a.cell? p := World.cell?_of_block (h.block _ hp hs)

/-- A row is the call's own still, if its block is kept. -/
theorem own_kept {S : Nat → Prop} {w w' : World} {base : Nat} {e : TypeId} {size : Nat} {v : Value} {n : Nat} {xs : List Value} (h : w.ownsRow base e size v n xs) (hk : Kept S w w') (hv : ∀ k, v.ownBlock = some k → ¬ S k) : w'.ownsRow base e size v n xs := by
  refine ⟨h.1, ?_⟩
  rcases h.2 with hn | ⟨g, cap, cur, rfl, hb, hgg, rest⟩
  · exact .inl hn
  · refine .inr ⟨g, cap, cur, rfl, hb, ?_, rest⟩
    rw [hk.block g (Array.getElem?_eq_some_iff.1 hgg).1 (hv g rfl)]
    exact hgg
theorem own_base {w : World} {b b' : Nat} {e : TypeId} {size : Nat} {v : Value} {n : Nat} {xs : List Value} (h : w.ownsRow b e size v n xs) (hb : b' ≤ b) : w.ownsRow b' e size v n xs := by
  refine ⟨h.1, ?_⟩
  rcases h.2 with hn | ⟨g, cap, cur, rfl, hg, rest⟩
  · exact .inl hn
  · exact .inr ⟨g, cap, cur, rfl, by omega, rest⟩
theorem own_slice {w : World} {b : Nat} {e : TypeId} {size : Nat} {v : Value} {n : Nat} {xs : List Value} (h : w.ownsRow b e size v n xs) : ∃ o c, v = .slice o n c ∧ n ≤ c ∧ c ≤ maxLen := by
  rcases h.2 with ⟨rfl, rfl⟩ | ⟨g, cap, cur, rfl, _, _, hn, hm, _⟩
  · exact ⟨_, _, rfl, Nat.le_refl _, Nat.zero_le _⟩
  · exact ⟨_, _, rfl, hn, hm⟩
theorem lt_of_block {w : World} {b : Nat} {o : Obj} (h : w.heap[b]? = some o) : b < w.heap.size := (Array.getElem?_eq_some_iff.1 h).1

theorem add_none (b o j : Nat) : (⟨b, o, none⟩ : Addr).add j = ⟨b, o + j, none⟩ := by
  unfold Addr.add; split <;> simp_all

/-- A slice that reads as xs: nil, or at an address. -/
def RdV (w : World) (v : Value) (xs : List Value) : Prop :=
  (v = .slice none 0 0 ∧ xs = []) ∨
  ∃ a c, v = .slice (some a) xs.length c ∧ xs.length ≤ c ∧ c ≤ maxLen ∧ ∀ j u, xs[j]? = some u → w.cell? (a.add j) = some u
abbrev RdW (w : World) (v : Value) (l : List Nat) : Prop := RdV w v (Ws l)
abbrev OwnW (w : World) (base : Nat) (v : Value) (l : List Nat) : Prop := w.ownsRow base 31 1 v l.length (Ws l)
abbrev OwnF (w : World) (base : Nat) (v : Value) (l : List Bool) : Prop := w.ownsRow base 4 1 v l.length (Fs l)

theorem RdV.of_own {w : World} {base : Nat} {v : Value} {e : TypeId} {n : Nat} {xs : List Value} (h : w.ownsRow base e 1 v n xs) : RdV w v xs := by
  have hc := h
  have hx := h.1
  rw [Nat.mul_one] at hx
  rcases h.2 with ⟨rfl, hn⟩ | ⟨g, cap, cur, rfl, _, hg, hn, hm, _⟩
  · exact .inl ⟨rfl, List.eq_nil_of_length_eq_zero (by omega)⟩
  · exact .inr ⟨_, _, by rw [hx], by omega, hm, fun j u hu => World.ownsRow.cells hc rfl j u hu⟩
theorem RdV.same {w w' : World} {v : Value} {l : List Value} (h : RdV w v l) (hs : ∀ p : Addr, p.block < w.heap.size → w'.cell? p = w.cell? p) : RdV w' v l := by
  rcases h with h | ⟨a, c, hv, hl, hm, hc⟩
  · exact .inl h
  · exact .inr ⟨a, c, hv, hl, hm, fun j u hu => (hs _ (World.block_lt_of_cell? w _ (hc j u hu))).trans (hc j u hu)⟩
theorem RdV.below {w w' : World} {v : Value} {l : List Value} (h : RdV w v l) (hb : Below w.heap.size w w') : RdV w' v l := h.same fun _ hp => hb.cell hp

/-- An append of a row that reads as R to a row of the call's own (cells of one). -/
theorem append_one {w : World} {base : Nat} {e t ty : TypeId} {z v s : Value} {bytes n : Nat} {xs R : List Value} (hinf : (Tryd.prog.info? e).map (fun i => (i.zero, i.size, i.bytes)) = some (some z, 1, bytes)) (ht : Tryd.prog.underlying t = some (.slice e)) (hz : z.cells.size = 1)
    (hown : w.ownsRow base e 1 v n xs) (hs : RdV w s R) (hR : ∀ u ∈ R, u.oneCell' = true) (hb : (n + R.length) * bytes ≤ 140737488355328) (hm : n + R.length ≤ 140737488355328) (hbase : base ≤ w.heap.size) :
    ∃ v' w', (Builtin.append_ #[t, t] ty #[v, s]).run Tryd.prog w = .ok v' w' ∧ w'.ownsRow base e 1 v' (n + R.length) (xs ++ R) ∧ w.grownBy w' v.ownBlock ∧ (v'.ownBlock = v.ownBlock ∨ v'.ownBlock = some w.heap.size) := by
  obtain ⟨i0, hi0, hz0, hz1, hz2⟩ := info_parts hinf
  rcases hs with ⟨rfl, rfl⟩ | ⟨a, c, rfl, hn, hmc, hc⟩
  · exact ⟨v, w, run_append_owned_none (P := Tryd.prog) (w := w) base t ty e i0 1 ht hi0 _ _ _ hown, by simpa using hown, World.grownBy.refl w _, .inl rfl⟩
  · obtain ⟨v', w', hr, h2, h3, _, h5⟩ := run_append_own_at (P := Tryd.prog) w base t ty e i0 z 1 bytes ht hi0 hz0 hz1 hz2 hz (by decide) v n xs hown a R.length c R
      (by rw [Nat.mul_one]) hc hR (by unfold maxLen; omega) hb hbase
    exact ⟨v', w', hr, h2, h3, h5⟩

/-- Where there is room the row stays where it is. -/
theorem append_fits {w w' : World} {base g cap : Nat} {e t ty : TypeId} {z v' s : Value} {bytes n : Nat} {xs R : List Value} (hinf : (Tryd.prog.info? e).map (fun i => (i.zero, i.size, i.bytes)) = some (some z, 1, bytes)) (ht : Tryd.prog.underlying t = some (.slice e))
    (hown : w.ownsRow base e 1 (.slice (some ⟨g, 0, none⟩) n cap) n xs) (hs : RdV w s R) (hR : ∀ u ∈ R, u.oneCell' = true) (hroom : n + R.length ≤ cap)
    (hr : (Builtin.append_ #[t, t] ty #[.slice (some ⟨g, 0, none⟩) n cap, s]).run Tryd.prog w = .ok v' w') : v' = .slice (some ⟨g, 0, none⟩) (n + R.length) cap := by
  obtain ⟨i0, hi0, hz0, hz1, hz2⟩ := info_parts hinf
  rcases hs with ⟨rfl, rfl⟩ | ⟨a, c, rfl, hn, hmc, hc⟩
  · have h2 := run_append_owned_none (P := Tryd.prog) (w := w) base t ty e i0 1 ht hi0 _ _ _ hown
    rw [hr] at h2
    injection h2
  · obtain ⟨w2, h2, _⟩ := run_append_fits (P := Tryd.prog) w base t ty e i0 1 ht hi0 hz1 g n cap xs hown a R.length c R (by rw [Nat.mul_one]) hc hR hroom
    rw [hr] at h2
    injection h2

theorem zeroCells_one (z : Value) (n : Nat) : (Builtin.zeroCells #[z] n).toList = List.replicate n z := by
  apply List.ext_getElem?
  intro j
  by_cases hj : j < n
  · simp [Builtin.zeroCells, hj, Nat.mod_one]
  · simp [Builtin.zeroCells, hj]

/-- An append of k zero values to a row that has something. -/
theorem append_zeros {w : World} {base : Nat} {e t tn ty : TypeId} {z v : Value} {bytes n k : Nat} {xs : List Value} (hinf : (Tryd.prog.info? e).map (fun i => (i.zero, i.size, i.bytes)) = some (some z, 1, bytes)) (ht : Tryd.prog.underlying t = some (.slice e)) (htn : Tryd.prog.underlying tn = some (.int .i64)) (hz : z.cells = #[z]) (hz1 : z.oneCell' = true)
    (hown : w.ownsRow base e 1 v n xs) (h0 : 0 < n) (hb : (n + k) * bytes ≤ 140737488355328) (hm : n + k ≤ 140737488355328) (hbase : base ≤ w.heap.size) :
    ∃ v' w', (Builtin.append_ #[t, tn] ty #[v, .int .i64 (k : Int)]).run Tryd.prog w = .ok v' w' ∧ w'.ownsRow base e 1 v' (n + k) (xs ++ List.replicate k z) ∧ w.grownBy w' v.ownBlock ∧ (v'.ownBlock = v.ownBlock ∨ v'.ownBlock = some w.heap.size) := by
  obtain ⟨i, hi, hiz, his, hib⟩ := info_parts hinf
  have hown' := hown
  have hxs := hown.1
  rw [Nat.mul_one] at hxs
  have hbk : k * bytes ≤ 140737488355328 := Nat.le_trans (Nat.mul_le_mul_right _ (by omega)) hb
  rcases hown.2 with ⟨_, hn⟩ | ⟨g, cap, cur, rfl, hbg, hg, hnc, hcm, hcs, htake⟩
  · omega
  · rw [Nat.mul_one] at hcs htake
    have hw : IntKind.i64.wrap (k : Int) = k := by rw [IntKind.wrap_i64]; omega
    have hneg : ¬ ((k : Int) < 0) := by omega
    rcases Nat.eq_zero_or_pos k with rfl | hk
    · refine ⟨_, w, ?_, by simpa using hown', World.grownBy.refl w _, .inl rfl⟩
      have hw0 : IntKind.i64.wrap 0 = 0 := by decide
      simp [Builtin.append_, run_underlying ht, run_underlying htn, sizeOf, typeInfo, zeroValue, hi, hiz, hib, asInt, asIntOf, hw0, hnc, Addr.add_lit, storeCells]
    by_cases hroom : n + k ≤ cap
    · have hst := run_storeCells_at Tryd.prog g n e (List.replicate k z) 0 cur w hg (by rw [List.length_replicate]; omega) (fun v hv => by rw [List.mem_replicate] at hv; rw [hv.2]; exact hz1)
      simp only [Nat.add_zero, List.length_replicate] at hst
      have h48i : ¬ (281474976710656 < (k : Int) * (bytes : Int)) := by
        rw [← Int.natCast_mul]; omega
      have hk0 : k ≠ 0 := by omega
      refine ⟨.slice (some ⟨g, 0, none⟩) (n + k) cap, w.setRow g (cur.toList.take n ++ List.replicate k z ++ cur.toList.drop (n + k)).toArray, ?_, ?_, ?_, .inl rfl⟩
      · simp [Builtin.append_, run_underlying ht, run_underlying htn, sizeOf, typeInfo, zeroValue, hi, hiz, his, hib, asInt, asIntOf, hw, hneg, h48i, hroom, hk0, Addr.add_lit, hz, zeroCells_one, hst]
      · refine ⟨by simp [hxs], .inr ⟨g, cap, _, rfl, hbg, setRow_heap w g cur _ e _ hg, hroom, hcm, ?_, ?_⟩⟩
        · simp only [List.size_toArray, List.length_append, List.length_take, List.length_drop, Array.length_toList, List.length_replicate]
          omega
        · rw [htake, Nat.mul_one]
          exact List.take_left' (by simp [hxs])
      · exact ⟨rfl, rfl, rfl, by simp, fun k _ hk => setRow_other w g k _ (fun e => hk (by simp [Value.ownBlock, e]))⟩
    · have holds : (Builtin.firstCells i.size n (.slice (some ⟨g, 0, none⟩) n cap)).run Tryd.prog w.drew = .ok xs.toArray w.drew := by
        have hcells := hown'.cells (g := g) rfl
        exact run_firstCells_some (P := Tryd.prog) w.drew i.size n ⟨g, 0, none⟩ n cap xs (by rw [his]; exact hown'.1) hcells
      have hr := Lib.run_append_grow_zeros (P := Tryd.prog) w t tn ty e i z .i64 .i64 ht htn hi hiz (some ⟨g, 0, none⟩) n cap xs holds k (by omega) (by omega) (by omega) (by omega) (by rw [hib]; omega) (by rw [hib]; exact growslice_fits (by omega) hb)
      have hge := grownCap_ge w (n + k) cap e
      have hcm' : grownCap w (n + k) cap e ≤ maxLen := grownCap_le_maxLen w (n + k) cap e (by unfold maxLen; omega)
      refine ⟨_, _, hr, ⟨by simp [hxs], .inr ⟨w.heap.size, _, _, rfl, hbase, heap_alloc_new w.drew _, hge, hcm', ?_, ?_⟩⟩, ⟨rfl, rfl, rfl, by simp, fun k hk _ => Below.heap_alloc w.drew _ k hk⟩, .inr rfl⟩
      · simp only [Array.size_append, List.size_toArray, size_zeroCells, hz, hxs]
        simp
        omega
      · simp only [Array.toList_append, hz, zeroCells_one, Nat.mul_one]
        exact List.take_left' (by simp [hxs])

/-- An operation of appending whose run is known. -/
theorem wpList_append_known {P : Program} {w w' : World} {ops : Array Oper} {rest : List Oper} {o : Oper} {a : Act} {Q : Exit → Act → World → Prop} (hgd : o.guard = none) (s x : Operand) (t u : TypeId)
    (ho : o.op = .call { callee := .builtin .append, args := #[s, x], argTypes := #[t, u] }) (v y v' : Value) (hs : a.eval s = v) (hx : a.eval x = y)
    (hr : (Builtin.append_ #[t, u] o.type #[v, y]).run P w = .ok v' w') (h : wpList P ops Q rest (a.put o.dst v') w') : wpList P ops Q (o :: rest) a w := by
  refine wpList_plain hgd fun K hK => ?_
  unfold Oper.wp execOp
  simp only [ho, resolve, invoke, builtin, Sem.run_bind, Sem.run_pure, Result.andThen_ok, List.map_toArray, List.map_cons, List.map_nil, hs, hx, hr]
  exact hK _ _ h
end Go.Proofs.YtpmbdncackneoaaDoor
