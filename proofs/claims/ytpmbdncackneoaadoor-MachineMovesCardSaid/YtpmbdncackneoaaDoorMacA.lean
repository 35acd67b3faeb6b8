/- An execution in memory. -/
import Derived.Test.YtpmbdncackneoaaDoorMacP
import Derived.Test.YtpmbdncackneoaaDoorCodA
import Derived.Test.YtpmbdncackneoaaDoorHeaR
import Derived.Test.YtpmbdncackneoaaDoorHeaV
namespace Go.Proofs.YtpmbdncackneoaaDoor
open Go.RowKit HeaM Ma

theorem frInfo : (Tryd.prog.info? 84).map (fun i => (i.zero, i.size, i.bytes)) = some (some (.agg #[.int .i64 0, .int .u64 0, .int .i64 0, .int .i64 0]), 4, 32) := by kernel_rfl
theorem tryInfo : (Tryd.prog.info? 117).map (fun i => (i.zero, i.size, i.bytes)) = some (some (.agg #[.int .i64 0, .int .i64 0, .int .i64 0]), 3, 24) := by kernel_rfl
theorem mvInfo : (Tryd.prog.info? 26).map (fun i => (i.zero, i.size, i.bytes)) = some (some (.agg #[.bool false, .int .i64 0]), 2, 16) := by kernel_rfl

/-- Frames, tries, moves as cells. -/
def frC (f : Fr) : List Value := [.int .i64 (f.fn : Int), .int .u64 (f.self.word : Int), .int .i64 (f.base : Int), .int .i64 f.at_]
def trC (t : Tr) : List Value := [.int .i64 (t.frames : Int), .int .i64 t.at_, .int .i64 (t.depth : Int)]
def mvC (m : Bool × Int) : List Value := [.bool m.1, .int .i64 m.2]
def CsFr (l : List Fr) : List Value := l.flatMap frC
def CsTr (l : List Tr) : List Value := l.flatMap trC
def CsMv (l : List (Bool × Int)) : List Value := l.flatMap mvC
def stkW (l : List V) : List Value := Ws (l.reverse.map V.word)

theorem flat_length {α : Type} (f : α → List Value) (n : Nat) (h : ∀ x, (f x).length = n) : ∀ l : List α, (l.flatMap f).length = l.length * n
  | [] => by simp
  | x :: t => by rw [List.flatMap_cons, List.length_append, h, flat_length f n h t, List.length_cons]; rw [Nat.add_mul, Nat.one_mul, Nat.add_comm]
theorem flat_get {α : Type} (f : α → List Value) (n : Nat) (h : ∀ x, (f x).length = n) : ∀ (l : List α) (j i : Nat) (x : α), l[j]? = some x → i < n → (l.flatMap f)[j * n + i]? = (f x)[i]?
  | [], j, i, x, hx, _ => by simp at hx
  | y :: t, 0, i, x, hx, hi => by
    simp only [List.getElem?_cons_zero, Option.some.injEq] at hx
    subst hx
    rw [List.flatMap_cons, Nat.zero_mul, Nat.zero_add, List.getElem?_append_left (by rw [h]; exact hi)]
  | y :: t, j + 1, i, x, hx, hi => by
    rw [List.getElem?_cons_succ] at hx
    rw [List.flatMap_cons, List.getElem?_append_right (by rw [h, Nat.add_mul]; omega), h, show (j + 1) * n + i - n = j * n + i by rw [Nat.add_mul]; omega]
    exact flat_get f n h t j i x hx hi

/-- What an execution stands on: the machine, its heap, the functions, the globals; w0 is the world that it begins in: its own blocks are new there. -/
structure Cx where
  M : Nat
  H : Nat
  base : Nat
  c : Nat
  w0 : World
  v10 : Value
  v20 : Value
  vf : Value
  vg : Value
  m : Mc
def Cx.lo (C : Cx) : Nat := C.w0.heap.size
/-- The blocks that it may turn. -/
def Cx.Sd (C : Cx) : Nat → Prop := fun k => three C.H C.v10 C.v20 k ∨ C.lo ≤ k
def machC (C : Cx) : Obj := .cells #[.pointer (some ⟨C.H, 0, none⟩), C.vf, C.vg] 54 (0, 0)
/-- What stays. -/
structure Cx.Fit (C : Cx) : Prop where
  stat : ∀ w', Kept C.Sd C.w0 w' → Oc.RdF w' C.vf C.m.funs ∧ RdW w' C.vg (C.m.globs.map V.word) ∧ w'.heap[C.M]? = some (machC C)
  base : C.base ≤ C.lo
  q : C.m.q ≤ 1048576
  mv : C.m.moves ≤ 9223372036854775807
  fl : C.m.funs.length ≤ 1000000
  gl : C.m.globs.length ≤ 1000000

/-- A block of cells of a type. -/
def TgB (w : World) (k : Nat) (t : TypeId) : Prop := ∃ cur, w.heap[k]? = some (.cells cur t (0, 0))
theorem TgB.ne {w : World} {k : Nat} {t u : TypeId} (h : TgB w k t) (h' : TgB w k u) (hn : t ≠ u) : False := by
  obtain ⟨c, h⟩ := h
  obtain ⟨d, h'⟩ := h'
  rw [h] at h'
  injection h' with h'
  injection h' with _ h2
  exact hn h2
theorem own_tag {w : World} {base : Nat} {e : TypeId} {size : Nat} {v : Value} {n : Nat} {xs : List Value} (h : w.ownsRow base e size v n xs) (k : Nat) (hk : v.ownBlock = some k) : TgB w k e := by
  rcases h.2 with ⟨rfl, _⟩ | ⟨g, cap, cur, rfl, _, hg, _⟩
  · simp [Value.ownBlock] at hk
  · simp only [Value.ownBlock, Option.some.injEq] at hk
    subst hk
    exact ⟨cur, hg⟩
theorem TgB.kept {w w' : World} {k : Nat} {t : TypeId} {S : Nat → Prop} (h : TgB w k t) (hk : Kept S w w') (hS : ¬ S k) : TgB w' k t := by
  obtain ⟨c, h⟩ := h
  exact ⟨c, (hk.block k (lt_of_block h) hS).trans h⟩
theorem TgB.setCell {w : World} {k : Nat} {t : TypeId} (h : TgB w k t) (g i : Nat) (u : Value) : TgB (w.setCell ⟨g, i, none⟩ u) k t := by
  obtain ⟨c, h⟩ := h
  by_cases e : k = g
  · subst e
    exact ⟨_, heap_setCell_same w k i c t u h⟩
  · exact ⟨c, by rw [heap_setCell_other _ _ _ _ e]; exact h⟩

/-- All of an execution but its own block's cells. -/
structure RunG (C : Cx) (w : World) (s : Ms) (vfr vst vtr vout vdn v1 v2 : Value) : Prop where
  rtag : TgB w C.lo 66
  fr : w.ownsRow C.lo 84 4 vfr s.frs.length (CsFr s.frs.reverse)
  st : w.ownsRow C.lo 31 1 vst s.stk.length (stkW s.stk)
  tr : w.ownsRow C.lo 117 3 vtr s.trs.length (CsTr s.trs.reverse)
  out : w.ownsRow C.lo 5 1 vout s.out.length (Bs s.out)
  dn : w.ownsRow C.lo 26 2 vdn s.done.length (CsMv s.done)
  heap : HAt w C.H C.base C.m.q C.c v1 v2 s.W s.F
  new : ∀ k, three C.H v1 v2 k → C.Sd k
  ne : ∀ k, vst.ownBlock = some k → v1.ownBlock ≠ some k
  kept : Kept C.Sd C.w0 w
  len : s.F.length = s.W.length
  wl : s.W.length ≤ C.m.q
  ws : ∀ x ∈ s.W, x < 18446744073709551616
  rstk : ∀ v ∈ s.stk, Rep s.W s.F v
  rfrs : ∀ f ∈ s.frs, Rep s.W s.F f.self
  rglb : ∀ v ∈ C.m.globs, Rep s.W s.F v
  fuel : s.fuel ≤ 1000000
  room : s.room ≤ 1000000000
def runC (C : Cx) (s : Ms) (vfr vst vtr vout vdn : Value) : Array Value :=
  #[.pointer (some ⟨C.M, 0, none⟩), vfr, vst, vtr, .int .i64 (s.fuel : Int), .int .i64 (C.m.moves : Int), .int .i64 (s.room : Int), vout, vdn, .string ⟨s.raised.toArray⟩, .int .u64 (s.result : Int)]
structure RunF (C : Cx) (w : World) (s : Ms) (vfr vst vtr vout vdn v1 v2 : Value) : Prop where
  fit : C.Fit
  cell : w.heap[C.lo]? = some (.cells (runC C s vfr vst vtr vout vdn) 66 (0, 0))
  g : RunG C w s vfr vst vtr vout vdn v1 v2
/-- An execution in memory. -/
def RunE (C : Cx) (w : World) (s : Ms) : Prop := ∃ vfr vst vtr vout vdn v1 v2, RunF C w s vfr vst vtr vout vdn v1 v2

section
variable {C : Cx} {w w' : World} {s : Ms} {vfr vst vtr vout vdn v1 v2 : Value}

theorem RunF.cells (h : RunF C w s vfr vst vtr vout vdn v1 v2) :
    w.cell? ⟨C.lo, 0, none⟩ = some (.pointer (some ⟨C.M, 0, none⟩)) ∧ w.cell? ⟨C.lo, 1, none⟩ = some vfr ∧ w.cell? ⟨C.lo, 2, none⟩ = some vst ∧ w.cell? ⟨C.lo, 3, none⟩ = some vtr ∧
    w.cell? ⟨C.lo, 4, none⟩ = some (.int .i64 (s.fuel : Int)) ∧ w.cell? ⟨C.lo, 5, none⟩ = some (.int .i64 (C.m.moves : Int)) ∧ w.cell? ⟨C.lo, 6, none⟩ = some (.int .i64 (s.room : Int)) ∧
    w.cell? ⟨C.lo, 7, none⟩ = some vout ∧ w.cell? ⟨C.lo, 8, none⟩ = some vdn ∧ w.cell? ⟨C.lo, 9, none⟩ = some (.string ⟨s.raised.toArray⟩) ∧ w.cell? ⟨C.lo, 10, none⟩ = some (.int .u64 (s.result : Int)) := by
  have e := fun j => cell_of_row w C.lo j _ _ (0, 0) h.cell
  exact ⟨(e 0).trans rfl, (e 1).trans rfl, (e 2).trans rfl, (e 3).trans rfl, (e 4).trans rfl, (e 5).trans rfl, (e 6).trans rfl, (e 7).trans rfl, (e 8).trans rfl, (e 9).trans rfl, (e 10).trans rfl⟩
theorem RunF.free (h : RunF C w s vfr vst vtr vout vdn v1 v2) (j : Nat) : w.frozen? ⟨C.lo, j, none⟩ = false := frozen_of_row w C.lo j _ _ h.cell
theorem RunF.mach (h : RunF C w s vfr vst vtr vout vdn v1 v2) : w.cell? ⟨C.M, 0, none⟩ = some (.pointer (some ⟨C.H, 0, none⟩)) ∧ w.cell? ⟨C.M, 1, none⟩ = some C.vf ∧ w.cell? ⟨C.M, 2, none⟩ = some C.vg := by
  have e := fun j => cell_of_row w C.M j _ _ (0, 0) (h.fit.stat w h.g.kept).2.2
  exact ⟨(e 0).trans rfl, (e 1).trans rfl, (e 2).trans rfl⟩
theorem RunG.lt (h : RunG C w s vfr vst vtr vout vdn v1 v2) : C.lo < w.heap.size := lt_of_block h.rtag.choose_spec
theorem RunG.tH (h : RunG C w s vfr vst vtr vout vdn v1 v2) : TgB w C.H 72 := ⟨_, h.heap.cell⟩

/-- Blocks of one type alone have turned, and not the heap's words. -/
theorem RunG.others {T : Nat → Prop} (X : TypeId) (h : RunG C w s vfr vst vtr vout vdn v1 v2) (hk : Kept T w w') (hX : ∀ k, T k → TgB w k X) (h1 : ∀ k, T k → v1.ownBlock ≠ some k) (hH : X ≠ 72) (hb : X ≠ 4) (hlo : ∀ k, T k → C.lo ≤ k) :
    (X ≠ 66 → w'.heap[C.lo]? = w.heap[C.lo]?) ∧ (X ≠ 84 → w'.ownsRow C.lo 84 4 vfr s.frs.length (CsFr s.frs.reverse)) ∧ (X ≠ 31 → w'.ownsRow C.lo 31 1 vst s.stk.length (stkW s.stk)) ∧
    (X ≠ 117 → w'.ownsRow C.lo 117 3 vtr s.trs.length (CsTr s.trs.reverse)) ∧ (X ≠ 5 → w'.ownsRow C.lo 5 1 vout s.out.length (Bs s.out)) ∧
    (X ≠ 26 → w'.ownsRow C.lo 26 2 vdn s.done.length (CsMv s.done)) ∧ HAt w' C.H C.base C.m.q C.c v1 v2 s.W s.F ∧ Kept C.Sd C.w0 w' := by
  refine ⟨fun e => hk.block _ h.lt (fun hT => (hX _ hT).ne h.rtag e), fun e => own_kept h.fr hk fun k a hT => (hX k hT).ne (own_tag h.fr k a) e, fun e => own_kept h.st hk fun k a hT => (hX k hT).ne (own_tag h.st k a) e,
    fun e => own_kept h.tr hk fun k a hT => (hX k hT).ne (own_tag h.tr k a) e, fun e => own_kept h.out hk fun k a hT => (hX k hT).ne (own_tag h.out k a) e, fun e => own_kept h.dn hk fun k a hT => (hX k hT).ne (own_tag h.dn k a) e,
    h.heap.kept hk ?_, h.kept.step hk fun k hT => .inr (hlo k hT)⟩
  rintro k (rfl | a | a) hT
  · exact (hX _ hT).ne h.tH hH
  · exact h1 k hT a
  · exact (hX k hT).ne (own_tag h.heap.own2 k a) hb

/-- New blocks alone. -/
theorem RunG.below (h : RunG C w s vfr vst vtr vout vdn v1 v2) (hb : Below w.heap.size w w') : RunG C w' s vfr vst vtr vout vdn v1 v2 := by
  have hk : Kept (fun k => w.heap.size ≤ k) w w' := Below.kept hb fun _ h _ => h
  have hx : ∀ {base : Nat} {e : TypeId} {size n : Nat} {v : Value} {xs : List Value}, w.ownsRow base e size v n xs → w'.ownsRow base e size v n xs := fun o => own_kept o hk fun k a b => by have := (o.lt k a).2; omega
  exact ⟨h.rtag.kept hk (by have := h.lt; omega), hx h.fr, hx h.st, hx h.tr, hx h.out, hx h.dn, h.heap.below hb (Nat.le_refl _), h.new, h.ne, h.kept.step hk (fun k hT => .inr (by have := h.lt; unfold Cx.lo at this; omega)), h.len, h.wl, h.ws, h.rstk, h.rfrs, h.rglb, h.fuel, h.room⟩
theorem RunF.below (h : RunF C w s vfr vst vtr vout vdn v1 v2) (hb : Below w.heap.size w w') : RunF C w' s vfr vst vtr vout vdn v1 v2 :=
  ⟨h.fit, (hb.block _ h.g.lt).trans h.cell, h.g.below hb⟩
theorem RunE.below (h : RunE C w s) (hb : Below w.heap.size w w') : RunE C w' s := by
  obtain ⟨_, _, _, _, _, _, _, h⟩ := h
  exact ⟨_, _, _, _, _, _, _, h.below hb⟩
theorem RunF.drewN (h : RunF C w s vfr vst vtr vout vdn v1 v2) (n : Nat) : RunF C (w.drewN n) s vfr vst vtr vout vdn v1 v2 := h.below (below_drewN _ _ _)
theorem RunE.drewN (h : RunE C w s) (n : Nat) : RunE C (w.drewN n) s := h.below (below_drewN _ _ _)

/-- A cell of its own block. -/
theorem RunG.setR (h : RunG C w s vfr vst vtr vout vdn v1 v2) (j : Nat) (u : Value) : RunG C (w.setCell ⟨C.lo, j, none⟩ u) s vfr vst vtr vout vdn v1 v2 := by
  have hx : ∀ {base : Nat} {e : TypeId} {size n : Nat} {v : Value} {xs : List Value}, e ≠ 66 → w.ownsRow base e size v n xs → (w.setCell ⟨C.lo, j, none⟩ u).ownsRow base e size v n xs := fun e o => ownsRow_setCell_other o (fun a => (own_tag o _ a).ne h.rtag e) _
  refine ⟨h.rtag.setCell _ _ _, hx (by decide) h.fr, hx (by decide) h.st, hx (by decide) h.tr, hx (by decide) h.out, hx (by decide) h.dn, h.heap.setOther ?_, h.new, h.ne, h.kept.setCell (p := ⟨C.lo, j, none⟩) (.inr (Nat.le_refl _)) _, h.len, h.wl, h.ws, h.rstk, h.rfrs, h.rglb, h.fuel, h.room⟩
  rintro (e | e | e)
  · exact (e ▸ h.rtag : TgB w C.H _).ne h.tH (by decide)
  · exact (own_tag h.heap.own1 _ e).ne h.rtag (by decide)
  · exact (own_tag h.heap.own2 _ e).ne h.rtag (by decide)
theorem RunF.setR {j : Nat} {u : Value} (hf : C.Fit) (hc : ∃ s0 a b c d e, w.heap[C.lo]? = some (.cells (runC C s0 a b c d e) 66 (0, 0)) ∧ (runC C s0 a b c d e).setIfInBounds j u = runC C s vfr vst vtr vout vdn) (h : RunG C w s vfr vst vtr vout vdn v1 v2) : RunF C (w.setCell ⟨C.lo, j, none⟩ u) s vfr vst vtr vout vdn v1 v2 := by
  obtain ⟨s0, a, b, c, d, e, h1, h2⟩ := hc
  exact ⟨hf, by rw [heap_setCell_same w C.lo j _ _ u h1, h2], h.setR j u⟩

/-- A block of another type alone. -/
theorem RunF.foreign {r : Nat} (X : TypeId) (h : RunF C w s vfr vst vtr vout vdn v1 v2) (hr : TgB w r X) (hk : Kept (fun k => k = r) w w') (hlo : C.lo ≤ r) (hX : X ≠ 66 ∧ X ≠ 84 ∧ X ≠ 31 ∧ X ≠ 117 ∧ X ≠ 5 ∧ X ≠ 26 ∧ X ≠ 72 ∧ X ≠ 4) : RunF C w' s vfr vst vtr vout vdn v1 v2 := by
  obtain ⟨x1, x2, x3, x4, x5, x6, x7, x8⟩ := hX
  obtain ⟨o0, o1, o2, o3, o4, o5, o6, o7⟩ := h.g.others X hk (fun k e => e ▸ hr) (fun k e a => x3 ((fun (h1 : TgB w k X) => Classical.byContradiction fun hn => h1.ne (own_tag h.g.heap.own1 k a) hn) (e ▸ hr))) x7 x8 (fun k e => e ▸ hlo)
  have hlo' := (o0 x1).trans h.cell
  exact ⟨h.fit, hlo', ⟨⟨_, hlo'⟩, o1 x2, o2 x3, o3 x4, o4 x5, o5 x6, o6, h.g.new, h.g.ne, o7, h.g.len, h.g.wl, h.g.ws, h.g.rstk, h.g.rfrs, h.g.rglb, h.g.fuel, h.g.room⟩⟩

theorem own_cut {w : World} {base : Nat} {e : TypeId} {size g cap n m : Nat} {xs ys : List Value} (h : w.ownsRow base e size (.slice (some ⟨g, 0, none⟩) n cap) n xs) (hm : m ≤ n) (hy : xs.take (m * size) = ys) : w.ownsRow base e size (.slice (some ⟨g, 0, none⟩) m cap) m ys := by
  subst hy
  have hm2 : m * size ≤ n * size := Nat.mul_le_mul_right _ hm
  obtain ⟨h0, h2⟩ := h
  rcases h2 with ⟨h3, _⟩ | ⟨g', cap', cur, hv, hg, hh, hn, hcap, hsz, htake⟩
  · cases h3
  · cases hv
    refine ⟨by rw [List.length_take, h0]; omega, .inr ⟨g, cap, cur, rfl, hg, hh, by omega, hcap, hsz, ?_⟩⟩
    rw [← htake, List.take_take, Nat.min_eq_left hm2]
theorem own_some {w : World} {base : Nat} {e : TypeId} {size n : Nat} {v : Value} {xs : List Value} (h : w.ownsRow base e size v n xs) (hn : 0 < n) : ∃ g cap, v = .slice (some ⟨g, 0, none⟩) n cap ∧ n ≤ cap ∧ cap ≤ maxLen ∧ base ≤ g ∧ g < w.heap.size := by
  rcases h.2 with ⟨_, h0⟩ | ⟨g, cap, cur, rfl, hg, hh, hc, hm, _⟩
  · omega
  · exact ⟨g, cap, rfl, hc, hm, hg, lt_of_block hh⟩
theorem stkW_length (l : List V) : (stkW l).length = l.length := by simp [stkW, Ws]
theorem stkW_cons (v : V) (l : List V) : stkW (v :: l) = stkW l ++ [Wv v.word] := by simp [stkW, Ws]
theorem stkW_drop (l : List V) (k : Nat) : stkW (l.drop (l.length - k)) = (stkW l).take k := by
  unfold stkW Ws
  rw [List.map_map, List.map_map, ← List.map_take, List.take_reverse]
theorem CsFr_length (l : List Fr) : (CsFr l).length = l.length * 4 := flat_length frC 4 (fun _ => rfl) l
theorem CsTr_length (l : List Tr) : (CsTr l).length = l.length * 3 := flat_length trC 3 (fun _ => rfl) l
theorem CsMv_length (l : List (Bool × Int)) : (CsMv l).length = l.length * 2 := flat_length mvC 2 (fun _ => rfl) l
theorem flat_take {α : Type} (f : α → List Value) (n : Nat) (h : ∀ x, (f x).length = n) : ∀ (l : List α) (k : Nat), (l.take k).flatMap f = (l.flatMap f).take (k * n)
  | [], k => by simp
  | x :: t, 0 => by simp
  | x :: t, k + 1 => by
    rw [List.take_succ_cons, List.flatMap_cons, List.flatMap_cons, flat_take f n h t k, List.take_append, h, List.take_of_length_le (l := f x) (by rw [h, Nat.add_mul]; omega), show (k + 1) * n - n = k * n by rw [Nat.add_mul]; omega]

/-- The stack's row is another one. -/
theorem RunG.stack {w2 : World} {stk' : List V} {vst' : Value} (h : RunG C w s vfr vst vtr vout vdn v1 v2) (hk : Kept (fun k => vst.ownBlock = some k) w w2) (ho : w2.ownsRow C.lo 31 1 vst' stk'.length (stkW stk')) (ha : ∀ k, vst'.ownBlock = some k → vst.ownBlock = some k ∨ w.heap.size ≤ k) (hr : ∀ v ∈ stk', Rep s.W s.F v) :
    RunG C w2 { s with stk := stk' } vfr vst' vtr vout vdn v1 v2 := by
  obtain ⟨o0, o1, _, o3, o4, o5, o6, o7⟩ := h.others 31 hk (fun k a => own_tag h.st k a) (fun k a => h.ne k a) (by decide) (by decide) (fun k a => (h.st.lt k a).1)
  refine ⟨h.rtag.kept hk (fun a => (own_tag h.st _ a).ne h.rtag (by decide)), o1 (by decide), ho, o3 (by decide), o4 (by decide), o5 (by decide), o6, h.new, fun k a b => ?_, o7, h.len, h.wl, h.ws, hr, h.rfrs, h.rglb, h.fuel, h.room⟩
  rcases ha k a with a | a
  · exact h.ne k a b
  · have := (h.heap.own1.lt k b).2
    omega
/-- The frames' row is another one. -/
theorem RunG.frames {w2 : World} {frs' : List Fr} {vfr' : Value} (h : RunG C w s vfr vst vtr vout vdn v1 v2) (hk : Kept (fun k => vfr.ownBlock = some k) w w2) (ho : w2.ownsRow C.lo 84 4 vfr' frs'.length (CsFr frs'.reverse)) (hr : ∀ f ∈ frs', Rep s.W s.F f.self) :
    RunG C w2 { s with frs := frs' } vfr' vst vtr vout vdn v1 v2 := by
  obtain ⟨o0, _, o2, o3, o4, o5, o6, o7⟩ := h.others 84 hk (fun k a => own_tag h.fr k a) (fun k a b => (own_tag h.fr k a).ne (own_tag h.heap.own1 k b) (by decide)) (by decide) (by decide) (fun k a => (h.fr.lt k a).1)
  exact ⟨h.rtag.kept hk (fun a => (own_tag h.fr _ a).ne h.rtag (by decide)), ho, o2 (by decide), o3 (by decide), o4 (by decide), o5 (by decide), o6, h.new, h.ne, o7, h.len, h.wl, h.ws, h.rstk, hr, h.rglb, h.fuel, h.room⟩
/-- The tries' row is another one. -/
theorem RunG.tries {w2 : World} {trs' : List Tr} {vtr' : Value} (h : RunG C w s vfr vst vtr vout vdn v1 v2) (hk : Kept (fun k => vtr.ownBlock = some k) w w2) (ho : w2.ownsRow C.lo 117 3 vtr' trs'.length (CsTr trs'.reverse)) :
    RunG C w2 { s with trs := trs' } vfr vst vtr' vout vdn v1 v2 := by
  obtain ⟨o0, o1, o2, _, o4, o5, o6, o7⟩ := h.others 117 hk (fun k a => own_tag h.tr k a) (fun k a b => (own_tag h.tr k a).ne (own_tag h.heap.own1 k b) (by decide)) (by decide) (by decide) (fun k a => (h.tr.lt k a).1)
  exact ⟨h.rtag.kept hk (fun a => (own_tag h.tr _ a).ne h.rtag (by decide)), o1 (by decide), o2 (by decide), ho, o4 (by decide), o5 (by decide), o6, h.new, h.ne, o7, h.len, h.wl, h.ws, h.rstk, h.rfrs, h.rglb, h.fuel, h.room⟩
/-- The row of what was printed is another one. -/
theorem RunG.prints {w2 : World} {out' : List UInt8} {vout' : Value} (h : RunG C w s vfr vst vtr vout vdn v1 v2) (hk : Kept (fun k => vout.ownBlock = some k) w w2) (ho : w2.ownsRow C.lo 5 1 vout' out'.length (Bs out')) :
    RunG C w2 { s with out := out' } vfr vst vtr vout' vdn v1 v2 := by
  obtain ⟨o0, o1, o2, o3, _, o5, o6, o7⟩ := h.others 5 hk (fun k a => own_tag h.out k a) (fun k a b => (own_tag h.out k a).ne (own_tag h.heap.own1 k b) (by decide)) (by decide) (by decide) (fun k a => (h.out.lt k a).1)
  exact ⟨h.rtag.kept hk (fun a => (own_tag h.out _ a).ne h.rtag (by decide)), o1 (by decide), o2 (by decide), o3 (by decide), ho, o5 (by decide), o6, h.new, h.ne, o7, h.len, h.wl, h.ws, h.rstk, h.rfrs, h.rglb, h.fuel, h.room⟩
/-- The moves' row is another one. -/
theorem RunG.moves {w2 : World} {done' : List (Bool × Int)} {vdn' : Value} (h : RunG C w s vfr vst vtr vout vdn v1 v2) (hk : Kept (fun k => vdn.ownBlock = some k) w w2) (ho : w2.ownsRow C.lo 26 2 vdn' done'.length (CsMv done')) :
    RunG C w2 { s with done := done' } vfr vst vtr vout vdn' v1 v2 := by
  obtain ⟨o0, o1, o2, o3, o4, _, o6, o7⟩ := h.others 26 hk (fun k a => own_tag h.dn k a) (fun k a b => (own_tag h.dn k a).ne (own_tag h.heap.own1 k b) (by decide)) (by decide) (by decide) (fun k a => (h.dn.lt k a).1)
  exact ⟨h.rtag.kept hk (fun a => (own_tag h.dn _ a).ne h.rtag (by decide)), o1 (by decide), o2 (by decide), o3 (by decide), o4 (by decide), ho, o6, h.new, h.ne, o7, h.len, h.wl, h.ws, h.rstk, h.rfrs, h.rglb, h.fuel, h.room⟩
end
end Go.Proofs.YtpmbdncackneoaaDoor
