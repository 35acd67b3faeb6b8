/- What the store writes of bytes, in pieces. -/
import Derived.Test.YtonahfpnlaolpaaStoF
namespace Go.Proofs.Ytonahfpnlaolpaa
open Go.RowKit Go.Shelf OctM

attribute [local go_sem] Oper.semAt_some

/-- The way on alone. -/
def onlyN (Q : Exit → Act → World → Prop) : Exit → Act → World → Prop := fun e a w => match e with
  | .normal => Q .normal a w
  | _ => False
theorem wp_onlyN {P : Program} {c : Code} {Q : Exit → Act → World → Prop} {a : Act} {w : World} (h : c.wp P (onlyN Q) a w) : c.wp P Q a w :=
  wp_mono h (fun e _ _ hq => by cases e <;> first | exact hq | exact hq.elim)
theorem wpIn_onlyN {F : Fence} {n : Nat} {P : Program} {c : Code} {Q : Exit → Act → World → Prop} {a : Act} {w : World} (h : c.wpIn F n P (onlyN Q) a w) : c.wpIn F n P Q a w :=
  wpIn_mono h (fun e _ _ hq => by cases e <;> first | exact hq | exact hq.elim)

/-- What swrite leaves. -/
def WrP (w : World) (X : Nat → Prop) (D T : Nat) (r : Int × Dr) (e : Ending) (w' : World) : Prop :=
  e = .returned (.int .i64 r.1) ∧ Dt w' (Fr X w w') D T r.2 ∧ Kept X w w'

/-- The store's cells that are read. -/
structure StC (W : World) (St D : Nat) (sp : Int) : Prop where
  c0 : W.cell? ⟨St, 0, none⟩ = some (.pointer (some ⟨D, 0, none⟩))
  c2 : W.cell? ⟨St, 2, none⟩ = some (.int .i64 sp)
theorem StC.block {W W' : World} {St D : Nat} {sp : Int} (h : StC W St D sp) (hk : W'.heap[St]? = W.heap[St]?) : StC W' St D sp := ⟨(World.cell?_of_block hk).trans h.c0, (World.cell?_of_block hk).trans h.c2⟩
theorem StC.lt {W : World} {St D : Nat} {sp : Int} (h : StC W St D sp) : St < W.heap.size := World.block_lt_of_cell? W _ h.c0

/-- Between two rounds. w: where write began; n0: how great the heap was where the loop began; w's end and be: the boxes of t and e. Y: the drum's blocks where the loop began. -/
structure WI (w W : World) (X Y : Nat → Prop) (D T St sp n0 be g : Nat) (q : List UInt8) (r : Int × Dr) : Prop where
  dt : Dt W (fun k => Y k ∨ (n0 ≤ k ∧ k < W.heap.size)) D T r.2
  bt : W.heap[w.heap.size]? = some (.cells #[.pointer (some ⟨St, 0, none⟩)] 51 (0, 0))
  be : W.heap[be]? = some (.cells #[.int .i64 r.1] 34 (0, 0))
  st : StC W St D sp
  qs : ∀ j u, q[j]? = some u → W.cell? ⟨g, j, none⟩ = some (B u)
  kept : Kept X w W
  low : n0 ≤ W.heap.size

theorem WI.abides {w W W' : World} {X Y : Nat → Prop} {D T St sp n0 be g : Nat} {q : List UInt8} {r : Int × Dr} {row : Option Nat} (h : WI w W X Y D T St sp n0 be g q r) (hn : w.heap.size ≤ n0) (hg : W.grownBy W' row) (hr : ∀ r, row = some r → n0 ≤ r ∧ ∃ o : Obj, W.heap[r]? = some o ∧ o.isCells = false) : WI w W' X Y D T St sp n0 be g q r where
  dt := by
    obtain ⟨vn, vd, h1, h2⟩ := h.dt.abides hg (fun r e => (hr r e).2)
    exact ⟨vn, vd, h1, fun k hk => by rcases h2 k hk with h3 | h3; exact .inl h3; have := hg.size; exact .inr ⟨h3.1, by omega⟩⟩
  bt := (grownBy_keeps_cells hg (fun r e => (hr r e).2) h.bt rfl).trans h.bt
  be := (grownBy_keeps_cells hg (fun r e => (hr r e).2) h.be rfl).trans h.be
  st := ⟨cell_kept h.st.c0 hg (fun r e => (hr r e).2), cell_kept h.st.c2 hg (fun r e => (hr r e).2)⟩
  qs j u hu := cell_kept (h.qs j u hu) hg (fun r e => (hr r e).2)
  kept := h.kept.grown hg (fun r e => .inr (by have := (hr r e).1; omega))
  low := by have := h.low; have := hg.size; omega

theorem WI.drew {w W : World} {X Y : Nat → Prop} {D T St sp n0 be g : Nat} {q : List UInt8} {r : Int × Dr} (h : WI w W X Y D T St sp n0 be g q r) : WI w W.drew X Y D T St sp n0 be g q r :=
  ⟨h.dt.block (fun _ _ _ => rfl) (fun _ h => h), h.bt, h.be, h.st.block rfl, h.qs, h.kept.drew, h.low⟩

/-- The drum's blocks where the loop began: X's, or new ones; none of the boxes, nor the store's, nor the bytes'. -/
structure YOk (w : World) (X Y : Nat → Prop) (n0 be St g : Nat) : Prop where
  new : ∀ k, Y k → X k ∨ w.heap.size ≤ k
  lt : ∀ k, Y k → k < n0
  bt : ¬ Y w.heap.size
  be : ¬ Y be
  st : ¬ Y St
  g : ¬ Y g

/-- Behind a call of the drum's, and the store of its answer. -/
theorem WI.next {w W W1 : World} {X Y : Nat → Prop} {D T St sp n0 be g : Nat} {q : List UInt8} {r r' : Int × Dr} {e : Ending} (h : WI w W X Y D T St sp n0 be g q r) (hY : YOk w X Y n0 be St g) (hn : w.heap.size < n0) (hbe : w.heap.size < be) (hben : be < n0) (hgl : g < w.heap.size) (hStl : St < w.heap.size)
    (hp : DtP W (fun k => Y k ∨ (n0 ≤ k ∧ k < W.heap.size)) D T r' e W1) :
    WI w (W1.setCell ⟨be, 0, none⟩ (.int .i64 r'.1)) X Y D T St sp n0 be g q r' ∧ KeepsOthers W (W1.setCell ⟨be, 0, none⟩ (.int .i64 r'.1)) ∧
    (∀ K0 : Nat → Prop, (∀ k, K0 k → ¬ Y k ∧ k < n0 ∧ k ≠ be) → Keep K0 W (W1.setCell ⟨be, 0, none⟩ (.int .i64 r'.1))) := by
  obtain ⟨-, hd, hk, ho⟩ := hp
  have hlow := h.low
  have hs := hk.size
  have hsz : (W1.setCell ⟨be, 0, none⟩ (.int .i64 r'.1)).heap.size = W1.heap.size := by simp [World.setCell]
  have far : ∀ b, b < n0 → ¬ Y b → W1.heap[b]? = W.heap[b]? := fun b hb hx => hk.block b (by omega) (fun h => by rcases h with h | h; exact hx h; omega)
  have far2 : ∀ b, b < n0 → ¬ Y b → b ≠ be → (W1.setCell ⟨be, 0, none⟩ (.int .i64 r'.1)).heap[b]? = W.heap[b]? := fun b hb hx hne => (heap_setCell_other _ _ _ _ hne).trans (far b hb hx)
  refine ⟨⟨?_, ?_, ?_, ?_, ?_, ?_, ?_⟩, ho.trans (KeepsOthers.setCell _ _ _), fun K0 hK b hb => far2 b (hK b hb).2.1 (hK b hb).1 (hK b hb).2.2⟩
  · refine hd.block (fun b hb _ => heap_setCell_other _ _ _ _ (fun (e2 : b = be) => ?_)) (fun b hb => ?_)
    · subst e2
      rcases hb with (hb | hb) | hb
      · exact hY.be hb
      · omega
      · omega
    · rw [hsz]
      rcases hb with (hb | hb) | hb
      · exact .inl hb
      · exact .inr ⟨hb.1, by omega⟩
      · exact .inr ⟨by omega, hb.2⟩
  · exact (far2 _ hn hY.bt (by omega)).trans h.bt
  · exact setCell_one ((far _ hben hY.be).trans h.be)
  · exact h.st.block (far2 _ (by omega) hY.st (by omega))
  · exact fun j u hu => (World.cell?_of_block (far2 g (by omega) hY.g (by omega))).trans (h.qs j u hu)
  · refine (h.kept.step hk (fun b hb => ?_)).setCell (p := ⟨be, 0, none⟩) (.inr (by show w.heap.size ≤ be; omega)) _
    rcases hb with hb | hb
    · exact hY.new b hb
    · exact .inr (by omega)
  · rw [hsz]; omega

/-- At the end: the block of the rounds' deferred calls is turned once more. -/
theorem WI.fin {w W : World} {X Y : Nat → Prop} {D T St sp n0 be g Df : Nat} {q : List UInt8} {r : Int × Dr} (h : WI w W X Y D T St sp n0 be g q r) (hY : YOk w X Y n0 be St g) (hn : w.heap.size ≤ n0) (hD : n0 ≤ Df) (hK : W.heap[Df]? = some (.deferred (some []))) :
    WrP w X D T r (.returned (.int .i64 r.1)) (W.putObj Df (.deferred none)) := by
  have h1 := h.abides hn (grownBy_putObj' W Df (.deferred none)) (fun r e => by cases e; exact ⟨hD, _, hK, rfl⟩)
  have hlow := h1.low
  refine ⟨rfl, h1.dt.block (fun _ _ _ => rfl) (fun k hk => ?_), h1.kept⟩
  rcases hk with hk | hk
  · rcases hY.new k hk with h2 | h2
    · exact .inl h2
    · have := hY.lt k hk; exact .inr ⟨h2, by omega⟩
  · exact .inr ⟨by omega, hk.2⟩

/-- Behind the first write: what the loop begins with. -/
structure WB (w W : World) (X : Nat → Prop) (D T St sp be : Nat) (r : Int × Dr) : Prop where
  dt : Dt W (fun k => X k ∨ (w.heap.size < k ∧ k < W.heap.size ∧ k ≠ be)) D T r.2
  bt : W.heap[w.heap.size]? = some (.cells #[.pointer (some ⟨St, 0, none⟩)] 51 (0, 0))
  bx : W.heap[be]? = some (.cells #[.int .i64 r.1] 34 (0, 0))
  st : StC W St D sp
  kept : Kept X w W
  hbe : w.heap.size < be

theorem wb_A {w W V1 : World} {X : Nat → Prop} {D T St sp : Nat} {r : Int × Dr} (hs : W.heap.size = w.heap.size + 1) (hX : ∀ k, X k → k < w.heap.size) (hd : Dt V1 (Fr X W.drew V1) D T r.2) (hb : Kept X w W) (hk : Kept X W.drew V1)
    (h0 : V1.heap[w.heap.size]? = some (.cells #[.pointer (some ⟨St, 0, none⟩)] 51 (0, 0))) (hst : StC V1 St D sp) : WB w (V1.alloc (.cells #[.int .i64 r.1] 34)) X D T St sp V1.heap.size r := by
  have hsz : W.heap.size ≤ V1.heap.size := hk.size
  have hlt := hst.lt
  refine ⟨hd.block (fun b hb _ => Below.heap_alloc _ _ _ ?_) (fun b hb => ?_), (Below.heap_alloc _ _ _ (lt_of_block h0)).trans h0, heap_alloc_new _ _, hst.block (Below.heap_alloc _ _ _ hlt), (hb.trans (⟨hk.os, hk.tape, hk.output, hk.size, hk.block⟩ : Kept X W V1)).alloc _, by omega⟩
  · rcases hb with hb | hb
    · have := hX b hb; omega
    · exact hb.2
  · rcases hb with hb | hb
    · exact .inl hb
    · have h1 : W.heap.size ≤ b := hb.1
      have h2 := hb.2
      exact .inr ⟨by omega, by simp; omega, by omega⟩

theorem wb_B {w W V1 : World} {X : Nat → Prop} {D T St sp : Nat} {r : Int × Dr} (hs : W.heap.size = w.heap.size + 1) (hX : ∀ k, X k → k < w.heap.size) (hd : Dt V1 (Fr X (W.drew.alloc (.cells #[.int .i64 0] 34)) V1) D T r.2) (hb : Kept X w W) (hk : Kept X (W.drew.alloc (.cells #[.int .i64 0] 34)) V1)
    (h0 : V1.heap[w.heap.size]? = some (.cells #[.pointer (some ⟨St, 0, none⟩)] 51 (0, 0))) (hst : StC V1 St D sp) (hbx : V1.heap[w.heap.size + 1]? = some (.cells #[.int .i64 0] 34 (0, 0))) (hSt : St < w.heap.size) : WB w (V1.setCell ⟨w.heap.size + 1, 0, none⟩ (.int .i64 r.1)) X D T St sp (w.heap.size + 1) r := by
  have hsz : (W.drew.alloc (.cells #[.int .i64 0] 34)).heap.size = w.heap.size + 2 := by simp [hs]
  have hsz2 := hk.size
  have hsz3 : (V1.setCell ⟨w.heap.size + 1, 0, none⟩ (.int .i64 r.1)).heap.size = V1.heap.size := by simp [World.setCell]
  refine ⟨hd.block (fun b hb _ => heap_setCell_other _ _ _ _ (fun (e : b = w.heap.size + 1) => ?_)) (fun b hb => ?_), (heap_setCell_other _ _ _ _ (by simp)).trans h0, setCell_one hbx, hst.block (heap_setCell_other _ _ _ _ (fun (e : St = w.heap.size + 1) => by omega)), ?_, by omega⟩
  · rcases hb with hb | hb
    · have := hX b hb; omega
    · omega
  · rw [hsz3]
    rcases hb with hb | hb
    · exact .inl hb
    · exact .inr ⟨by omega, hb.2, by omega⟩
  · refine (hb.trans (?_ : Kept X W V1)).setCell (p := ⟨w.heap.size + 1, 0, none⟩) (.inr (by simp)) _
    have h1 : Kept X W (W.drew.alloc (.cells #[.int .i64 0] 34)) := (Kept.refl X W).drew.alloc _
    exact h1.trans hk

theorem chunk_stops (b1 b2 g len cap : Nat) (K0 : Nat → Prop) (k1 : K0 b1) (k2 : K0 b2) (hl : len ≤ 1000000000) (hc : len ≤ cap) (w0 : World) (h1 : w0.heap[b1]? = some (.cells #[.slice (some ⟨g, 0, none⟩) len cap] 22 (0, 0))) (h2 : w0.heap[b2]? = some (.cells #[.int .i64 500] 3 (0, 0))) :
    SeqStopsK Fence.wide 2 Try.prog 76 #[.pointer (some ⟨b1, 0, none⟩), .pointer (some ⟨b2, 0, none⟩)] (fun k : Nat => #[pcV g len k]) (Keep K0) (fun ys => ys = List.range (pcs len)) (fun _ => True) (pcs len) w0 := fun l J Jx W hW hJ _ hY h0 =>
  chunk1_in 2 (by omega) l b1 b2 g len cap K0 k1 k2 hl hc J Jx (fun pre W h => hJ pre W W.drew none h ⟨rfl, rfl, rfl, Nat.le_refl _, fun _ _ _ => rfl⟩ (fun _ e => by cases e)) hY W
    ((hW.block b1 (lt_of_block h1)).trans h1) ((hW.block b2 (lt_of_block h2)).trans h2) h0

set_option maxRecDepth 100000 in
set_option maxHeartbeats 8000000 in
theorem swrite_any (St D T sp g cap : Nat) (q : List UInt8) (w : World) {X : Nat → Prop} {d : Dr} (h : Dt w X D T d) (hX : ∀ k, X k → k < w.heap.size) (hst : StC w St D sp) (hSX : ¬ X St) (hq : ∀ j u, q[j]? = some u → w.cell? ⟨g, j, none⟩ = some (B u))
    (hgX : ¬ X g) (hq0 : 0 < q.length) (hql : q.length ≤ 1048576) (hcap : q.length ≤ cap) (hops : d.ops ≤ 900000) (_hspl : sp ≤ 1000) :
    Calls Try.prog 46 #[.pointer (some ⟨St, 0, none⟩), .slice (some ⟨g, 0, none⟩) q.length cap] w (WrP w X D T (wrS d sp q)) := by
  have hgl : g < w.heap.size := by
    obtain ⟨u, hu⟩ : ∃ u, q[0]? = some u := ⟨q[0], List.getElem?_eq_getElem hq0⟩
    exact World.block_lt_of_cell? w _ (hq 0 u hu)
  have hstl := hst.lt
  refine (callsIn_wide (n := 3)).1 ?_
  refine callsIn_of_wp_marks Try.func46 rfl trivial ?_ rfl
  simp only [Try.ntmps46, List.size_toArray, List.length_cons, List.length_nil, Nat.reduceAdd, Nat.reduceSub, Array.replicate_succ, Array.replicate_zero, List.push_toArray, List.append_toArray, List.nil_append, List.cons_append]
  gi_wp2
  refine wpIn_wide.2 ?_
  obtain ⟨W, hW⟩ : ∃ W, w.alloc (.cells #[.pointer (some ⟨St, 0, none⟩)] 51) = W := ⟨_, rfl⟩
  have hb : Below w.heap.size w W := by rw [← hW]; exact (Below.refl _ _).alloc (Nat.le_refl _) _
  have hs : W.heap.size = w.heap.size + 1 := by rw [← hW]; simp
  have h0 : W.heap[w.heap.size]? = some (.cells #[.pointer (some ⟨St, 0, none⟩)] 51 (0, 0)) := by rw [← hW]; exact heap_alloc_new _ _
  rw [hW]
  clear hW
  have DT := Lib.hid (h.block (X' := X) (fun b _ hb' => hb.block b hb') (fun _ h => h))
  have ST := Lib.hid (hst.block (hb.block St hstl))
  have HQ0 := Lib.hid hq
  have HQ := Lib.hid (fun j u hu => (hb.cell (p := ⟨g, j, none⟩) hgl).trans (hq j u hu))
  have HX := Lib.hid hX
  have HB := Lib.hid hb
  have H0 := Lib.hid h0
  have s0 := ST.out.c0
  have s2 := ST.out.c2
  have b0 := cell_of_one h0
  clear h hst hq hX hb h0
  refine wp_onlyN ?_
  refine wp_region_held_drew (S := fun w' => w'.cell? ⟨w.heap.size, 0, none⟩ = some (.pointer (some ⟨St, 0, none⟩)) ∧ w'.cell? ⟨St, 0, none⟩ = some (.pointer (some ⟨D, 0, none⟩)) ∧ w'.cell? ⟨St, 2, none⟩ = some (.int .i64 (sp : Int))) (by kernel_rfl) ⟨b0, s0, s2⟩ ?_
  intro hHeld
  refine wpAnyH_take (i := 0) (v := ?_) (by simp only [List.getElem?_toArray, List.getElem?_cons_zero]; rfl) (by kernel_rfl) (by kernel_rfl) (by kernel_rfl) (by intro _ _ _ h; exact h) (Or.inl ⟨by rfl, ?_⟩) (by assumption) ?_
  rotate_left
  · (intro w hSw; (try dsimp only at hSw); go_simp; try with_reducible rfl)
  try simp only [Act.put, List.setIfInBounds_toArray, List.set_cons_zero, List.set_cons_succ]
  refine wpAnyH_take (i := 1) (v := ?_) (by simp only [List.getElem?_toArray, List.getElem?_cons_succ, List.getElem?_cons_zero]; rfl) (by kernel_rfl) (by kernel_rfl) (by kernel_rfl) (by intro _ _ _ h; exact h) (Or.inl ⟨by rfl, ?_⟩) (by assumption) ?_
  rotate_left
  · (intro w hSw; (try dsimp only at hSw); go_simp; try with_reducible rfl)
  try simp only [Act.put, List.setIfInBounds_toArray, List.set_cons_zero, List.set_cons_succ]
  refine wpAnyH_take (i := 2) (v := ?_) (by simp only [List.getElem?_toArray, List.getElem?_cons_succ, List.getElem?_cons_zero]; rfl) (by kernel_rfl) (by kernel_rfl) (by kernel_rfl) (by intro _ _ _ h; exact h) (Or.inl ⟨by rfl, ?_⟩) (by assumption) ?_
  rotate_left
  · (intro w hSw; (try dsimp only at hSw); go_simp; try with_reducible rfl)
  try simp only [Act.put, List.setIfInBounds_toArray, List.set_cons_zero, List.set_cons_succ]
  refine wpAnyH_take (i := 3) (v := ?_) (by simp only [List.getElem?_toArray, List.getElem?_cons_succ, List.getElem?_cons_zero]; rfl) (by kernel_rfl) (by kernel_rfl) (by kernel_rfl) (by intro _ _ _ h; exact h) (Or.inl ⟨by rfl, ?_⟩) (by assumption) ?_
  rotate_left
  · (intro w hSw; (try dsimp only at hSw); go_simp; try with_reducible rfl)
  try simp only [Act.put, List.setIfInBounds_toArray, List.set_cons_zero, List.set_cons_succ]
  refine wpAnyH_take (i := 4) (v := ?_) (by simp only [List.getElem?_toArray, List.getElem?_cons_succ, List.getElem?_cons_zero]; rfl) (by kernel_rfl) (by kernel_rfl) (by kernel_rfl) (by intro _ _ _ h; exact h) (Or.inl ⟨by rfl, ?_⟩) (by assumption) ?_
  rotate_left
  · (intro w hSw; (try dsimp only at hSw); go_simp; try with_reducible rfl)
  try simp only [Act.put, List.setIfInBounds_toArray, List.set_cons_zero, List.set_cons_succ]
  refine wpAnyH_take (i := 5) (v := ?_) (by simp only [List.getElem?_toArray, List.getElem?_cons_succ, List.getElem?_cons_zero]; rfl) (by kernel_rfl) (by kernel_rfl) (by kernel_rfl) (by intro _ _ _ h; exact h) (Or.inl ⟨by rfl, ?_⟩) (by assumption) ?_
  rotate_left
  · (intro w hSw; (try dsimp only at hSw); go_simp; try with_reducible rfl)
  try simp only [Act.put, List.setIfInBounds_toArray, List.set_cons_zero, List.set_cons_succ]
  refine wpAnyH_take (i := 6) (v := ?_) (by simp only [List.getElem?_toArray, List.getElem?_cons_succ, List.getElem?_cons_zero]; rfl) (by kernel_rfl) (by kernel_rfl) (by kernel_rfl) (by intro _ _ _ h; exact h) (Or.inl ⟨by rfl, ?_⟩) (by assumption) ?_
  rotate_left
  · (intro w hSw; (try dsimp only at hSw); go_simp; try with_reducible rfl)
  try simp only [Act.put, List.setIfInBounds_toArray, List.set_cons_zero, List.set_cons_succ]
  refine wpAnyH_take (i := 7) (v := ?_) (by simp only [List.getElem?_toArray, List.getElem?_cons_succ, List.getElem?_cons_zero]; rfl) (by kernel_rfl) (by kernel_rfl) (by kernel_rfl) (by intro _ _ _ h; exact h) (Or.inl ⟨by rfl, ?_⟩) (by assumption) ?_
  rotate_left
  · (intro w hSw; (try dsimp only at hSw); go_simp; try with_reducible rfl)
  try simp only [Act.put, List.setIfInBounds_toArray, List.set_cons_zero, List.set_cons_succ]
  refine wpAnyH_ready (rs := [8, 9]) (by kernel_rfl) (by simp) ?_
  refine AllReadyH.cons (by simp only [List.getElem?_toArray, List.getElem?_cons_succ, List.getElem?_cons_zero]; rfl) (fun K hK => ?_) (AllReadyH.cons (by simp only [List.getElem?_toArray, List.getElem?_cons_succ, List.getElem?_cons_zero]; rfl) (fun K hK => ?_) AllReadyH.nil)
  · go_simp
    refine (dt_write sp (.slice none 0 0) [] W.drew (DT.out.block (fun _ _ _ => rfl) (fun _ h => h)) (.inl ⟨rfl, rfl⟩) (by simp) (by omega)).mono ?_
    rintro e V1 ⟨rfl, hd1, hk1, -⟩
    have g0 := (hk1.block w.heap.size (show w.heap.size < W.heap.size by omega) (fun h => by have := HX.out _ h; omega)).trans (show W.drew.heap[w.heap.size]? = _ from H0.out)
    have gs := ST.out.block (hk1.block St (show St < W.heap.size by omega) hSX)
    have u0 := cell_of_one g0
    have u1 := gs.c0
    have u2 := gs.c2
    have hV := hk1.size
    have HD1 := Lib.hid hd1
    have HK1 := Lib.hid hk1
    have HG0 := Lib.hid g0
    have HGS := Lib.hid gs
    clear hd1 hk1 g0 gs
    dsimp only
    refine hK.out _ _ ⟨u0, u1, u2⟩ (fun hHeld => ?_)
    clear hK K
    try simp only [Act.put, List.setIfInBounds_toArray, List.set_cons_zero, List.set_cons_succ]
    refine wpAnyH_ready (rs := [9]) (by kernel_rfl) (by simp) ?_
    refine AllReadyH.cons (by simp only [List.getElem?_toArray, List.getElem?_cons_succ, List.getElem?_cons_zero]; rfl) (fun K hK => ?_) AllReadyH.nil
    go_simp
    have v0 := cell_alloc u0 (.cells #[.int .i64 0] 34)
    have v1 := cell_alloc u1 (.cells #[.int .i64 0] 34)
    have v2 := cell_alloc u2 (.cells #[.int .i64 0] 34)
    refine hK.out _ _ ⟨v0, v1, v2⟩ (fun hHeld => ?_)
    clear hK K
    try simp only [Act.put, List.setIfInBounds_toArray, List.set_cons_zero, List.set_cons_succ]
    refine wpAnyH_ready (rs := [10]) (by kernel_rfl) (by simp) ?_
    refine AllReadyH.cons (by simp only [List.getElem?_toArray, List.getElem?_cons_succ, List.getElem?_cons_zero]; rfl) (fun K hK => ?_) AllReadyH.nil
    go_simp
    have y0 := cell_alloc u0 (.cells #[.int .i64 (writeS d sp []).1] 34)
    have y1 := cell_alloc u1 (.cells #[.int .i64 (writeS d sp []).1] 34)
    have y2 := cell_alloc u2 (.cells #[.int .i64 (writeS d sp []).1] 34)
    refine hK.out _ _ ⟨y0, y1, y2⟩ (fun hHeld => ?_)
    clear hK K
    try simp only [Act.put, List.setIfInBounds_toArray, List.set_cons_zero, List.set_cons_succ]
    refine wpAnyH_done (by kernel_rfl) ?_ _
    have hwb := wb_A (sp := sp) hs HX.out HD1.out (kept_of_below HB.out) HK1.out HG0.out HGS.out
    generalize V1.alloc (.cells #[.int .i64 (writeS d sp []).1] 34) = Wz at *
    generalize V1.heap.size = be at *
    clear hHeld HD1 HK1 HG0 HGS u0 u1 u2 v0 v1 v2 y0 y1 y2 hV
    have HWB := Lib.hid hwb
    clear hwb
    dsimp only [onlyN]
    have hbe := HWB.out.hbe
    have hbl := lt_of_block HWB.out.bx
    have hbtl := lt_of_block HWB.out.bt
    clear DT ST HQ HB H0 s0 s2 b0 hs
    gi_wp2
    refine ⟨trivial, (callsIn_wide.2 (chunk_any _ _ _ _)).mono ?_⟩
    rintro e w' ⟨rfl, rfl⟩
    gi_wp2
    have hBl : Below Wz.heap.size Wz ((Wz.alloc (.cells #[.slice (some ⟨g, 0, none⟩) q.length cap] 22)).alloc (.cells #[.int .i64 500] 3)) := ((Below.refl _ _).alloc (Nat.le_refl _) _).alloc (by simp) _
    have h1b : ((Wz.alloc (.cells #[.slice (some ⟨g, 0, none⟩) q.length cap] 22)).alloc (.cells #[.int .i64 500] 3)).heap[Wz.heap.size]? = some (.cells #[.slice (some ⟨g, 0, none⟩) q.length cap] 22 (0, 0)) := by
      rw [Below.heap_alloc _ _ _ (by simp)]; exact heap_alloc_new _ _
    have h2b : ((Wz.alloc (.cells #[.slice (some ⟨g, 0, none⟩) q.length cap] 22)).alloc (.cells #[.int .i64 500] 3)).heap[Wz.heap.size + 1]? = some (.cells #[.int .i64 500] 3 (0, 0)) := by
      have := heap_alloc_new (Wz.alloc (.cells #[.slice (some ⟨g, 0, none⟩) q.length cap] 22)) (.cells #[.int .i64 500] 3)
      simpa using this
    have hsl : ((Wz.alloc (.cells #[.slice (some ⟨g, 0, none⟩) q.length cap] 22)).alloc (.cells #[.int .i64 500] 3)).heap.size = Wz.heap.size + 2 := by simp
    generalize (Wz.alloc (.cells #[.slice (some ⟨g, 0, none⟩) q.length cap] 22)).alloc (.cells #[.int .i64 500] 3) = Wl at *
    have hkl : Kept X w Wl := HWB.out.kept.trans (kept_of_below hBl)
    have hY : YOk w X (fun k => X k ∨ (w.heap.size < k ∧ k < Wz.heap.size ∧ k ≠ be)) Wl.heap.size be St g := {
      new := fun k hk => by
        rcases hk with hk | hk
        · exact .inl hk
        · exact .inr (by omega)
      lt := fun k hk => by
        rcases hk with hk | hk
        · have := HX.out k hk; omega
        · omega
      bt := fun hk => by
        rcases hk with hk | hk
        · have := HX.out _ hk; omega
        · omega
      be := fun hk => by
        rcases hk with hk | hk
        · have := HX.out _ hk; omega
        · omega
      st := fun hk => by
        rcases hk with hk | hk
        · exact hSX hk
        · omega
      g := fun hk => by
        rcases hk with hk | hk
        · exact hgX hk
        · omega }
    have hWI : WI w Wl X (fun k => X k ∨ (w.heap.size < k ∧ k < Wz.heap.size ∧ k ≠ be)) D T St sp Wl.heap.size be g q (wrL d sp q []) := {
      dt := HWB.out.dt.block (fun b _ hb => hBl.block b hb) (fun k hk => .inl hk)
      bt := (hBl.block _ hbtl).trans HWB.out.bt
      be := (hBl.block _ hbl).trans HWB.out.bx
      st := HWB.out.st.block (hBl.block _ HWB.out.st.lt)
      qs := fun j u hu => (World.cell?_of_block (hkl.block g hgl hgX)).trans (HQ0.out j u hu)
      kept := hkl
      low := Nat.le_refl _ }
    have HY := Lib.hid hY
    have HWI := Lib.hid hWI
    clear hY hWI hkl hBl HWB HQ0
    refine wpIn_rangeFunc_ownF rfl (by omega) (gf := 76) (lb := #[.pointer (some ⟨Wz.heap.size, 0, none⟩), .pointer (some ⟨Wz.heap.size + 1, 0, none⟩)]) rfl trivial (enters_of Try.func76 (by kernel_rfl) rfl)
      (chunk_stops Wz.heap.size (Wz.heap.size + 1) g q.length cap (fun k => k = Wz.heap.size ∨ k = Wz.heap.size + 1) (.inl rfl) (.inr rfl) (by omega) hcap Wl h1b h2b) (fun h k => Keep.trans h k) (keep_b (fun k hk => by omega)) (Below.refl _ _) (fun _ => rfl)
      (fun pre W => WI w W X (fun k => X k ∨ (w.heap.size < k ∧ k < Wz.heap.size ∧ k ≠ be)) D T St sp Wl.heap.size be g q (wrL d sp q pre)) (fun _ _ _ => False)
      (fun s A B row hs hg hr => hs.abides (by omega) hg hr) (fun _ _ _ _ _ hs _ _ => hs) HWI.out
      (fun x => { tmps := #[.pointer (some ⟨St, 0, none⟩), .slice (some ⟨g, 0, none⟩) q.length cap, .pointer (some ⟨w.heap.size, 0, none⟩), undef, .int .i64 0, .pointer (some ⟨be, 0, none⟩), pcV g q.length x, .pointer (some ⟨St, 0, none⟩), .pointer (some ⟨St, 0, none⟩), .pointer (some ⟨St, 0, none⟩), .pointer (some ⟨D, 0, none⟩), .pointer (some ⟨St, 0, none⟩), .pointer (some ⟨St, 0, none⟩), .pointer (some ⟨St, 2, none⟩), .int .i64 (sp : Int), .int .i64 (writeS d sp []).1, .slice (some ⟨g, 0, none⟩) q.length cap, .func (.func 76) #[] #[.pointer (some ⟨Wz.heap.size, 0, none⟩), .pointer (some ⟨Wz.heap.size + 1, 0, none⟩)], pcV g q.length x, undef, undef, undef, undef, undef, undef, undef, undef, undef, undef, undef, undef, undef, undef, undef, undef, undef, undef, undef, undef, undef, undef, undef, undef], defers := [] }) ?assign ?body ?done ?stop
    case assign =>
      intro l x W K hK
      unfold pcV at *
      gi_wp2
      exact hK
    case body =>
      rintro l pre x W hI hlt
      have hop := wrL_ops d sp q pre
      have hpc : pcs q.length ≤ 2098 := by unfold pcs; omega
      have hnx : wrL d sp q (pre ++ [x]) = wrN sp q (wrL d sp q pre) x := wrL_snoc _ _ _ _ _
      generalize wrL d sp q pre = r at *
      have HNX := Lib.hid hnx
      clear hnx
      have hI' := hI.drew
      have c0 := cell_of_one hI.bt
      have c1 := cell_of_one hI.be
      have c2 := hI.st.c0
      have c3 := hI.st.c2
      have hnew := fun (r' : Int × Dr) (e : Ending) (W1 : World) => hI'.next (r' := r') (e := e) (W1 := W1) HY.out (by omega) hbe (by omega) hgl hstl
      have HNEW := Lib.hid hnew
      have HI := Lib.hid hI
      have HI' := Lib.hid hI'
      clear hnew hI hI'
      by_cases hz : r.1 = 0
      · have hz1 : (r.1 == 0) = true := by simp [hz]
        have EZ : Hid (wrN sp q r x = appS r.2 sp (pcS q x)) := if_pos hz
        gi_wp2
        refine wpIn_onlyN ?_
        refine wpIn_region_round (S := fun w' => w'.cell? ⟨w.heap.size, 0, none⟩ = some (.pointer (some ⟨St, 0, none⟩)) ∧ w'.cell? ⟨St, 0, none⟩ = some (.pointer (some ⟨D, 0, none⟩)) ∧ w'.cell? ⟨St, 2, none⟩ = some (.int .i64 (sp : Int))) (by kernel_rfl) (by kernel_rfl) (fun _ _ h => h) ⟨c0, c2, c3⟩ ?_
        intro hHeld
        refine wpAnyH_take (i := 0) (v := ?_) (by simp only [List.getElem?_toArray, List.getElem?_cons_zero]; rfl) (by kernel_rfl) (by kernel_rfl) (by kernel_rfl) (by intro _ _ _ h; exact h) (Or.inl ⟨by rfl, ?_⟩) (by assumption) ?_
        rotate_left
        · (intro w hSw; (try dsimp only at hSw); go_simp; try with_reducible rfl)
        try simp only [Act.put, List.setIfInBounds_toArray, List.set_cons_zero, List.set_cons_succ]
        refine wpAnyH_take (i := 1) (v := ?_) (by simp only [List.getElem?_toArray, List.getElem?_cons_succ, List.getElem?_cons_zero]; rfl) (by kernel_rfl) (by kernel_rfl) (by kernel_rfl) (by intro _ _ _ h; exact h) (Or.inl ⟨by rfl, ?_⟩) (by assumption) ?_
        rotate_left
        · (intro w hSw; (try dsimp only at hSw); go_simp; try with_reducible rfl)
        try simp only [Act.put, List.setIfInBounds_toArray, List.set_cons_zero, List.set_cons_succ]
        refine wpAnyH_take (i := 2) (v := ?_) (by simp only [List.getElem?_toArray, List.getElem?_cons_succ, List.getElem?_cons_zero]; rfl) (by kernel_rfl) (by kernel_rfl) (by kernel_rfl) (by intro _ _ _ h; exact h) (Or.inl ⟨by rfl, ?_⟩) (by assumption) ?_
        rotate_left
        · (intro w hSw; (try dsimp only at hSw); go_simp; try with_reducible rfl)
        try simp only [Act.put, List.setIfInBounds_toArray, List.set_cons_zero, List.set_cons_succ]
        refine wpAnyH_take (i := 3) (v := ?_) (by simp only [List.getElem?_toArray, List.getElem?_cons_succ, List.getElem?_cons_zero]; rfl) (by kernel_rfl) (by kernel_rfl) (by kernel_rfl) (by intro _ _ _ h; exact h) (Or.inl ⟨by rfl, ?_⟩) (by assumption) ?_
        rotate_left
        · (intro w hSw; (try dsimp only at hSw); go_simp; try with_reducible rfl)
        try simp only [Act.put, List.setIfInBounds_toArray, List.set_cons_zero, List.set_cons_succ]
        refine wpAnyH_take (i := 4) (v := ?_) (by simp only [List.getElem?_toArray, List.getElem?_cons_succ, List.getElem?_cons_zero]; rfl) (by kernel_rfl) (by kernel_rfl) (by kernel_rfl) (by intro _ _ _ h; exact h) (Or.inl ⟨by rfl, ?_⟩) (by assumption) ?_
        rotate_left
        · (intro w hSw; (try dsimp only at hSw); go_simp; try with_reducible rfl)
        try simp only [Act.put, List.setIfInBounds_toArray, List.set_cons_zero, List.set_cons_succ]
        refine wpAnyH_take (i := 5) (v := ?_) (by simp only [List.getElem?_toArray, List.getElem?_cons_succ, List.getElem?_cons_zero]; rfl) (by kernel_rfl) (by kernel_rfl) (by kernel_rfl) (by intro _ _ _ h; exact h) (Or.inl ⟨by rfl, ?_⟩) (by assumption) ?_
        rotate_left
        · (intro w hSw; (try dsimp only at hSw); go_simp; try with_reducible rfl)
        try simp only [Act.put, List.setIfInBounds_toArray, List.set_cons_zero, List.set_cons_succ]
        refine wpAnyH_take (i := 6) (v := ?_) (by simp only [List.getElem?_toArray, List.getElem?_cons_succ, List.getElem?_cons_zero]; rfl) (by kernel_rfl) (by kernel_rfl) (by kernel_rfl) (by intro _ _ _ h; exact h) (Or.inl ⟨by rfl, ?_⟩) (by assumption) ?_
        rotate_left
        · (intro w hSw; (try dsimp only at hSw); go_simp; try with_reducible rfl)
        try simp only [Act.put, List.setIfInBounds_toArray, List.set_cons_zero, List.set_cons_succ]
        refine wpAnyH_take (i := 7) (v := ?_) (by simp only [List.getElem?_toArray, List.getElem?_cons_succ, List.getElem?_cons_zero]; rfl) (by kernel_rfl) (by kernel_rfl) (by kernel_rfl) (by intro _ _ _ h; exact h) (Or.inl ⟨by rfl, ?_⟩) (by assumption) ?_
        rotate_left
        · (intro w hSw; (try dsimp only at hSw); go_simp; try with_reducible rfl)
        try simp only [Act.put, List.setIfInBounds_toArray, List.set_cons_zero, List.set_cons_succ]
        refine wpAnyH_take (i := 8) (v := ?_) (by simp only [List.getElem?_toArray, List.getElem?_cons_succ, List.getElem?_cons_zero]; rfl) (by kernel_rfl) (by kernel_rfl) (by kernel_rfl) (by intro _ _ _ h; exact h) (Or.inl ⟨by rfl, ?_⟩) (by assumption) ?_
        rotate_left
        · (intro w hSw; (try dsimp only at hSw); go_simp; try with_reducible rfl)
        try simp only [Act.put, List.setIfInBounds_toArray, List.set_cons_zero, List.set_cons_succ]
        refine wpAnyH_ready (rs := [9]) (by kernel_rfl) (by simp) ?_
        refine AllReadyH.cons (by simp only [List.getElem?_toArray, List.getElem?_cons_succ, List.getElem?_cons_zero]; rfl) (fun K hK => ?_) AllReadyH.nil
        go_simp
        refine (dt_append sp (pcV g q.length x) (pcS q x) W.drew HI'.out.dt (rd_piece HI'.out.qs x) (by rw [pcS_length]; unfold pl; omega) (by omega)).mono ?_
        rintro e V1 hp1
        obtain rfl := hp1.1
        have far : ∀ b, b < Wl.heap.size → ¬ (X b ∨ (w.heap.size < b ∧ b < Wz.heap.size ∧ b ≠ be)) → V1.heap[b]? = W.drew.heap[b]? := fun b hb hx => hp1.2.2.1.block b (by have h9 : Wl.heap.size ≤ W.drew.heap.size := HI'.out.low; omega) (fun h => by rcases h with h | h; exact hx h; omega)
        have g0 := (far w.heap.size (by omega) HY.out.bt).trans HI'.out.bt
        have gs := HI'.out.st.block (far St (by omega) HY.out.st)
        have gx := (far be (by omega) HY.out.be).trans HI'.out.be
        have u0 := cell_of_one g0
        have u1 := gs.c0
        have u2 := gs.c2
        have ux := cell_of_one gx
        have uf := free_of gx 0
        have ul := lt_of_block gx
        have HP1 := Lib.hid hp1
        clear hp1 g0 gs gx far
        dsimp only
        refine hK.out _ _ ⟨u0, u1, u2⟩ (fun hHeld => ?_)
        clear hK K
        try simp only [Act.put, List.setIfInBounds_toArray, List.set_cons_zero, List.set_cons_succ]
        refine wpAnyH_ready (rs := [10]) (by kernel_rfl) (by simp) ?_
        refine AllReadyH.cons (by simp only [List.getElem?_toArray, List.getElem?_cons_succ, List.getElem?_cons_zero]; rfl) (fun K hK => ?_) AllReadyH.nil
        go_simp
        have y0 : (V1.setCell ⟨be, 0, none⟩ (.int .i64 (appS r.2 sp (pcS q x)).1)).cell? ⟨w.heap.size, 0, none⟩ = _ := (World.cell?_setCell_far _ _ _ _ (by simp; omega)).trans u0
        have y1 : (V1.setCell ⟨be, 0, none⟩ (.int .i64 (appS r.2 sp (pcS q x)).1)).cell? ⟨St, 0, none⟩ = _ := (World.cell?_setCell_far _ _ _ _ (by simp; omega)).trans u1
        have y2 : (V1.setCell ⟨be, 0, none⟩ (.int .i64 (appS r.2 sp (pcS q x)).1)).cell? ⟨St, 2, none⟩ = _ := (World.cell?_setCell_far _ _ _ _ (by simp; omega)).trans u2
        refine hK.out _ _ ⟨y0, y1, y2⟩ (fun hHeld => ?_)
        clear hK K
        try simp only [Act.put, List.setIfInBounds_toArray, List.set_cons_zero, List.set_cons_succ]
        refine wpAnyH_done (by kernel_rfl) ?_ _
        dsimp only [onlyN]
        obtain ⟨n1, n2, n3⟩ := HNEW.out _ _ _ HP1.out
        have hk2 := n3 (fun k => k = Wz.heap.size ∨ k = Wz.heap.size + 1) (fun k hk => ⟨fun h => by
          rcases h with h | h
          · have := HX.out k h; omega
          · omega, by omega, by omega⟩)
        clear HNEW HP1 HI HI' hHeld
        gi_wp2
        exact ⟨(⟨Nat.le_refl _, fun _ _ h _ => h⟩ : KeepsOthers W W.drew).trans n2, hk2, by dsimp only; rw [HNX.out, EZ.out]; exact n1⟩
      · have hz1 : (r.1 == 0) = false := by simp [hz]
        have EZ : Hid (wrN sp q r x = r) := if_neg hz
        gi_wp2
        exact ⟨KeepsOthers.refl _, Keep.refl _ _, by dsimp only; rw [HNX.out, EZ.out]; exact HI.out⟩
    case done =>
      rintro Df ys W hDf rfl hI hK
      have hop := wrL_ops d sp q (List.range (pcs q.length))
      have hpc : pcs q.length ≤ 2098 := by unfold pcs; omega
      rw [List.length_range] at hop
      have hS : wrS d sp q = wrZ sp (wrL d sp q (List.range (pcs q.length))) := rfl
      generalize wrL d sp q (List.range (pcs q.length)) = r at *
      have HS := Lib.hid hS
      have hI' := hI.drew
      have c0 := cell_of_one hI.bt
      have c1 := cell_of_one hI.be
      have c2 := hI.st.c0
      have c3 := hI.st.c2
      have hnew := fun (r' : Int × Dr) (e : Ending) (W1 : World) => hI'.next (r' := r') (e := e) (W1 := W1) HY.out (by omega) hbe (by omega) hgl hstl
      have HNEW := Lib.hid hnew
      have HI := Lib.hid hI
      have HI' := Lib.hid hI'
      have HK := Lib.hid hK
      clear hnew hI hI' hS hK
      by_cases hz : r.1 = 0
      · have hz1 : (r.1 == 0) = true := by simp [hz]
        have EZ : Hid (wrZ sp r = syncS r.2 sp) := if_pos hz
        gi_wp2
        refine wpIn_wide.2 (wp_onlyN ?_)
        refine wp_region_held_drew (S := fun w' => w'.cell? ⟨w.heap.size, 0, none⟩ = some (.pointer (some ⟨St, 0, none⟩)) ∧ w'.cell? ⟨St, 0, none⟩ = some (.pointer (some ⟨D, 0, none⟩)) ∧ w'.cell? ⟨St, 2, none⟩ = some (.int .i64 (sp : Int))) (by kernel_rfl) ⟨c0, c2, c3⟩ ?_
        intro hHeld
        refine wpAnyH_take (i := 0) (v := ?_) (by simp only [List.getElem?_toArray, List.getElem?_cons_zero]; rfl) (by kernel_rfl) (by kernel_rfl) (by kernel_rfl) (by intro _ _ _ h; exact h) (Or.inl ⟨by rfl, ?_⟩) (by assumption) ?_
        rotate_left
        · (intro w hSw; (try dsimp only at hSw); go_simp; try with_reducible rfl)
        try simp only [Act.put, List.setIfInBounds_toArray, List.set_cons_zero, List.set_cons_succ]
        refine wpAnyH_take (i := 1) (v := ?_) (by simp only [List.getElem?_toArray, List.getElem?_cons_succ, List.getElem?_cons_zero]; rfl) (by kernel_rfl) (by kernel_rfl) (by kernel_rfl) (by intro _ _ _ h; exact h) (Or.inl ⟨by rfl, ?_⟩) (by assumption) ?_
        rotate_left
        · (intro w hSw; (try dsimp only at hSw); go_simp; try with_reducible rfl)
        try simp only [Act.put, List.setIfInBounds_toArray, List.set_cons_zero, List.set_cons_succ]
        refine wpAnyH_take (i := 2) (v := ?_) (by simp only [List.getElem?_toArray, List.getElem?_cons_succ, List.getElem?_cons_zero]; rfl) (by kernel_rfl) (by kernel_rfl) (by kernel_rfl) (by intro _ _ _ h; exact h) (Or.inl ⟨by rfl, ?_⟩) (by assumption) ?_
        rotate_left
        · (intro w hSw; (try dsimp only at hSw); go_simp; try with_reducible rfl)
        try simp only [Act.put, List.setIfInBounds_toArray, List.set_cons_zero, List.set_cons_succ]
        refine wpAnyH_take (i := 3) (v := ?_) (by simp only [List.getElem?_toArray, List.getElem?_cons_succ, List.getElem?_cons_zero]; rfl) (by kernel_rfl) (by kernel_rfl) (by kernel_rfl) (by intro _ _ _ h; exact h) (Or.inl ⟨by rfl, ?_⟩) (by assumption) ?_
        rotate_left
        · (intro w hSw; (try dsimp only at hSw); go_simp; try with_reducible rfl)
        try simp only [Act.put, List.setIfInBounds_toArray, List.set_cons_zero, List.set_cons_succ]
        refine wpAnyH_take (i := 4) (v := ?_) (by simp only [List.getElem?_toArray, List.getElem?_cons_succ, List.getElem?_cons_zero]; rfl) (by kernel_rfl) (by kernel_rfl) (by kernel_rfl) (by intro _ _ _ h; exact h) (Or.inl ⟨by rfl, ?_⟩) (by assumption) ?_
        rotate_left
        · (intro w hSw; (try dsimp only at hSw); go_simp; try with_reducible rfl)
        try simp only [Act.put, List.setIfInBounds_toArray, List.set_cons_zero, List.set_cons_succ]
        refine wpAnyH_take (i := 5) (v := ?_) (by simp only [List.getElem?_toArray, List.getElem?_cons_succ, List.getElem?_cons_zero]; rfl) (by kernel_rfl) (by kernel_rfl) (by kernel_rfl) (by intro _ _ _ h; exact h) (Or.inl ⟨by rfl, ?_⟩) (by assumption) ?_
        rotate_left
        · (intro w hSw; (try dsimp only at hSw); go_simp; try with_reducible rfl)
        try simp only [Act.put, List.setIfInBounds_toArray, List.set_cons_zero, List.set_cons_succ]
        refine wpAnyH_take (i := 6) (v := ?_) (by simp only [List.getElem?_toArray, List.getElem?_cons_succ, List.getElem?_cons_zero]; rfl) (by kernel_rfl) (by kernel_rfl) (by kernel_rfl) (by intro _ _ _ h; exact h) (Or.inl ⟨by rfl, ?_⟩) (by assumption) ?_
        rotate_left
        · (intro w hSw; (try dsimp only at hSw); go_simp; try with_reducible rfl)
        try simp only [Act.put, List.setIfInBounds_toArray, List.set_cons_zero, List.set_cons_succ]
        refine wpAnyH_take (i := 7) (v := ?_) (by simp only [List.getElem?_toArray, List.getElem?_cons_succ, List.getElem?_cons_zero]; rfl) (by kernel_rfl) (by kernel_rfl) (by kernel_rfl) (by intro _ _ _ h; exact h) (Or.inl ⟨by rfl, ?_⟩) (by assumption) ?_
        rotate_left
        · (intro w hSw; (try dsimp only at hSw); go_simp; try with_reducible rfl)
        try simp only [Act.put, List.setIfInBounds_toArray, List.set_cons_zero, List.set_cons_succ]
        refine wpAnyH_ready (rs := [8]) (by kernel_rfl) (by simp) ?_
        refine AllReadyH.cons (by simp only [List.getElem?_toArray, List.getElem?_cons_succ, List.getElem?_cons_zero]; rfl) (fun K hK => ?_) AllReadyH.nil
        go_simp
        refine (dt_sync sp W.drew HI'.out.dt (by omega)).mono ?_
        rintro e V1 hp1
        obtain rfl := hp1.1
        have far : ∀ b, b < Wl.heap.size → ¬ (X b ∨ (w.heap.size < b ∧ b < Wz.heap.size ∧ b ≠ be)) → V1.heap[b]? = W.drew.heap[b]? := fun b hb hx => hp1.2.2.1.block b (by have h9 : Wl.heap.size ≤ W.drew.heap.size := HI'.out.low; omega) (fun h => by rcases h with h | h; exact hx h; omega)
        have g0 := (far w.heap.size (by omega) HY.out.bt).trans HI'.out.bt
        have gs := HI'.out.st.block (far St (by omega) HY.out.st)
        have gx := (far be (by omega) HY.out.be).trans HI'.out.be
        have u0 := cell_of_one g0
        have u1 := gs.c0
        have u2 := gs.c2
        have ux := cell_of_one gx
        have uf := free_of gx 0
        have ul := lt_of_block gx
        have HP1 := Lib.hid hp1
        clear hp1 g0 gs gx far
        dsimp only
        refine hK.out _ _ ⟨u0, u1, u2⟩ (fun hHeld => ?_)
        clear hK K
        try simp only [Act.put, List.setIfInBounds_toArray, List.set_cons_zero, List.set_cons_succ]
        refine wpAnyH_ready (rs := [9]) (by kernel_rfl) (by simp) ?_
        refine AllReadyH.cons (by simp only [List.getElem?_toArray, List.getElem?_cons_succ, List.getElem?_cons_zero]; rfl) (fun K hK => ?_) AllReadyH.nil
        go_simp
        have y0 : (V1.setCell ⟨be, 0, none⟩ (.int .i64 (syncS r.2 sp).1)).cell? ⟨w.heap.size, 0, none⟩ = _ := (World.cell?_setCell_far _ _ _ _ (by simp; omega)).trans u0
        have y1 : (V1.setCell ⟨be, 0, none⟩ (.int .i64 (syncS r.2 sp).1)).cell? ⟨St, 0, none⟩ = _ := (World.cell?_setCell_far _ _ _ _ (by simp; omega)).trans u1
        have y2 : (V1.setCell ⟨be, 0, none⟩ (.int .i64 (syncS r.2 sp).1)).cell? ⟨St, 2, none⟩ = _ := (World.cell?_setCell_far _ _ _ _ (by simp; omega)).trans u2
        refine hK.out _ _ ⟨y0, y1, y2⟩ (fun hHeld => ?_)
        clear hK K
        try simp only [Act.put, List.setIfInBounds_toArray, List.set_cons_zero, List.set_cons_succ]
        refine wpAnyH_done (by kernel_rfl) ?_ _
        dsimp only [onlyN]
        obtain ⟨n1, n2, n3⟩ := HNEW.out _ _ _ HP1.out
        have hK := n2.same Df _ (show W.drew.heap[Df]? = _ from HK.out) rfl
        have hc := cell_of_one n1.be
        have FIN := Lib.hid (n1.fin HY.out (by omega) hDf hK)
        generalize V1.setCell ⟨be, 0, none⟩ (.int .i64 (syncS r.2 sp).1) = W3 at *
        clear HNEW HP1 HI HI' hHeld n1 n2 n3 HK
        gi_wp2
        refine ⟨by simp, .inl ⟨_, _, rfl, run_takeDeferred hK, ?_⟩⟩
        exact ⟨_, results_tmp rfl _ _ _, by rw [HS.out, EZ.out]; exact FIN.out⟩
      · have hz1 : (r.1 == 0) = false := by simp [hz]
        have EZ : Hid (wrZ sp r = r) := if_neg hz
        have FIN := Lib.hid (HI.out.fin HY.out (by omega) hDf HK.out)
        have hK := HK.out
        clear HNEW HI HI' HK
        gi_wp2
        refine ⟨by simp, .inl ⟨_, _, rfl, run_takeDeferred hK, ?_⟩⟩
        exact ⟨_, results_tmp rfl _ _ _, by rw [HS.out, EZ.out]; exact FIN.out⟩
    case stop =>
      rintro Df c pre W _ _ h _
      exact h.elim
  · go_simp
    have q0 := cell_alloc (show W.drew.cell? ⟨w.heap.size, 0, none⟩ = _ from b0) (.cells #[.int .i64 0] 34)
    have q1 := cell_alloc (show W.drew.cell? ⟨St, 0, none⟩ = _ from s0) (.cells #[.int .i64 0] 34)
    have q2 := cell_alloc (show W.drew.cell? ⟨St, 2, none⟩ = _ from s2) (.cells #[.int .i64 0] 34)
    refine hK.out _ _ ⟨q0, q1, q2⟩ (fun hHeld => ?_)
    clear hK K
    try simp only [Act.put, List.setIfInBounds_toArray, List.set_cons_zero, List.set_cons_succ]
    refine wpAnyH_ready (rs := [8]) (by kernel_rfl) (by simp) ?_
    refine AllReadyH.cons (by simp only [List.getElem?_toArray, List.getElem?_cons_succ, List.getElem?_cons_zero]; rfl) (fun K hK => ?_) AllReadyH.nil
    go_simp
    have hA : ∀ b, b < W.heap.size → (W.drew.alloc (.cells #[.int .i64 0] 34)).heap[b]? = W.heap[b]? := fun b hb => Below.heap_alloc W.drew _ b hb
    refine (dt_write sp (.slice none 0 0) [] _ (DT.out.block (w' := W.drew.alloc (.cells #[.int .i64 0] 34)) (fun b hb _ => hA b (by have := HX.out b hb; omega)) (fun _ h => h)) (.inl ⟨rfl, rfl⟩) (by simp) (by omega)).mono ?_
    rintro e V1 ⟨rfl, hd1, hk1, -⟩
    have hz1 : (W.drew.alloc (.cells #[.int .i64 0] 34)).heap.size = w.heap.size + 2 := by simp [hs]
    have g0 := (hk1.block w.heap.size (by omega) (fun h => by have := HX.out _ h; omega)).trans ((hA _ (by omega)).trans H0.out)
    have gs := ST.out.block ((hk1.block St (by omega) hSX).trans (hA _ (by omega)))
    have gx : V1.heap[w.heap.size + 1]? = some (.cells #[.int .i64 0] 34 (0, 0)) := (hk1.block _ (by omega) (fun h => by have := HX.out _ h; omega)).trans (by rw [← hs]; exact heap_alloc_new W.drew _)
    have u0 := cell_of_one g0
    have u1 := gs.c0
    have u2 := gs.c2
    have ux := cell_of_one gx
    have uf := free_of gx 0
    have ul := lt_of_block gx
    have hV := hk1.size
    have HD1 := Lib.hid hd1
    have HK1 := Lib.hid hk1
    have HG0 := Lib.hid g0
    have HGS := Lib.hid gs
    have HGX := Lib.hid gx
    clear hd1 hk1 g0 gs gx hA
    dsimp only
    refine hK.out _ _ ⟨u0, u1, u2⟩ (fun hHeld => ?_)
    clear hK K
    try simp only [Act.put, List.setIfInBounds_toArray, List.set_cons_zero, List.set_cons_succ]
    refine wpAnyH_ready (rs := [10]) (by kernel_rfl) (by simp) ?_
    refine AllReadyH.cons (by simp only [List.getElem?_toArray, List.getElem?_cons_succ, List.getElem?_cons_zero]; rfl) (fun K hK => ?_) AllReadyH.nil
    go_simp
    have y0 : (V1.setCell ⟨w.heap.size + 1, 0, none⟩ (.int .i64 (writeS d sp []).1)).cell? ⟨w.heap.size, 0, none⟩ = _ := (World.cell?_setCell_far _ _ _ _ (by simp)).trans u0
    have y1 : (V1.setCell ⟨w.heap.size + 1, 0, none⟩ (.int .i64 (writeS d sp []).1)).cell? ⟨St, 0, none⟩ = _ := (World.cell?_setCell_far _ _ _ _ (by simp; omega)).trans u1
    have y2 : (V1.setCell ⟨w.heap.size + 1, 0, none⟩ (.int .i64 (writeS d sp []).1)).cell? ⟨St, 2, none⟩ = _ := (World.cell?_setCell_far _ _ _ _ (by simp; omega)).trans u2
    refine hK.out _ _ ⟨y0, y1, y2⟩ (fun hHeld => ?_)
    clear hK K
    try simp only [Act.put, List.setIfInBounds_toArray, List.set_cons_zero, List.set_cons_succ]
    refine wpAnyH_done (by kernel_rfl) ?_ _
    have hwb := wb_B (sp := sp) hs HX.out HD1.out (kept_of_below HB.out) HK1.out HG0.out HGS.out HGX.out hstl
    generalize V1.setCell ⟨w.heap.size + 1, 0, none⟩ (.int .i64 (writeS d sp []).1) = Wz at *
    clear hHeld HD1 HK1 HG0 HGS HGX u0 u1 u2 ux uf ul y0 y1 y2 hV q0 q1 q2 hz1
    have HWB := Lib.hid hwb
    clear hwb
    generalize hbe0 : w.heap.size + 1 = be at *
    dsimp only [onlyN]
    have hbe := HWB.out.hbe
    have hbl := lt_of_block HWB.out.bx
    have hbtl := lt_of_block HWB.out.bt
    clear DT ST HQ HB H0 s0 s2 b0 hs
    gi_wp2
    refine ⟨trivial, (callsIn_wide.2 (chunk_any _ _ _ _)).mono ?_⟩
    rintro e w' ⟨rfl, rfl⟩
    gi_wp2
    have hBl : Below Wz.heap.size Wz ((Wz.alloc (.cells #[.slice (some ⟨g, 0, none⟩) q.length cap] 22)).alloc (.cells #[.int .i64 500] 3)) := ((Below.refl _ _).alloc (Nat.le_refl _) _).alloc (by simp) _
    have h1b : ((Wz.alloc (.cells #[.slice (some ⟨g, 0, none⟩) q.length cap] 22)).alloc (.cells #[.int .i64 500] 3)).heap[Wz.heap.size]? = some (.cells #[.slice (some ⟨g, 0, none⟩) q.length cap] 22 (0, 0)) := by
      rw [Below.heap_alloc _ _ _ (by simp)]; exact heap_alloc_new _ _
    have h2b : ((Wz.alloc (.cells #[.slice (some ⟨g, 0, none⟩) q.length cap] 22)).alloc (.cells #[.int .i64 500] 3)).heap[Wz.heap.size + 1]? = some (.cells #[.int .i64 500] 3 (0, 0)) := by
      have := heap_alloc_new (Wz.alloc (.cells #[.slice (some ⟨g, 0, none⟩) q.length cap] 22)) (.cells #[.int .i64 500] 3)
      simpa using this
    have hsl : ((Wz.alloc (.cells #[.slice (some ⟨g, 0, none⟩) q.length cap] 22)).alloc (.cells #[.int .i64 500] 3)).heap.size = Wz.heap.size + 2 := by simp
    generalize (Wz.alloc (.cells #[.slice (some ⟨g, 0, none⟩) q.length cap] 22)).alloc (.cells #[.int .i64 500] 3) = Wl at *
    have hkl : Kept X w Wl := HWB.out.kept.trans (kept_of_below hBl)
    have hY : YOk w X (fun k => X k ∨ (w.heap.size < k ∧ k < Wz.heap.size ∧ k ≠ be)) Wl.heap.size be St g := {
      new := fun k hk => by
        rcases hk with hk | hk
        · exact .inl hk
        · exact .inr (by omega)
      lt := fun k hk => by
        rcases hk with hk | hk
        · have := HX.out k hk; omega
        · omega
      bt := fun hk => by
        rcases hk with hk | hk
        · have := HX.out _ hk; omega
        · omega
      be := fun hk => by
        rcases hk with hk | hk
        · have := HX.out _ hk; omega
        · omega
      st := fun hk => by
        rcases hk with hk | hk
        · exact hSX hk
        · omega
      g := fun hk => by
        rcases hk with hk | hk
        · exact hgX hk
        · omega }
    have hWI : WI w Wl X (fun k => X k ∨ (w.heap.size < k ∧ k < Wz.heap.size ∧ k ≠ be)) D T St sp Wl.heap.size be g q (wrL d sp q []) := {
      dt := HWB.out.dt.block (fun b _ hb => hBl.block b hb) (fun k hk => .inl hk)
      bt := (hBl.block _ hbtl).trans HWB.out.bt
      be := (hBl.block _ hbl).trans HWB.out.bx
      st := HWB.out.st.block (hBl.block _ HWB.out.st.lt)
      qs := fun j u hu => (World.cell?_of_block (hkl.block g hgl hgX)).trans (HQ0.out j u hu)
      kept := hkl
      low := Nat.le_refl _ }
    have HY := Lib.hid hY
    have HWI := Lib.hid hWI
    clear hY hWI hkl hBl HWB HQ0
    refine wpIn_rangeFunc_ownF rfl (by omega) (gf := 76) (lb := #[.pointer (some ⟨Wz.heap.size, 0, none⟩), .pointer (some ⟨Wz.heap.size + 1, 0, none⟩)]) rfl trivial (enters_of Try.func76 (by kernel_rfl) rfl)
      (chunk_stops Wz.heap.size (Wz.heap.size + 1) g q.length cap (fun k => k = Wz.heap.size ∨ k = Wz.heap.size + 1) (.inl rfl) (.inr rfl) (by omega) hcap Wl h1b h2b) (fun h k => Keep.trans h k) (keep_b (fun k hk => by omega)) (Below.refl _ _) (fun _ => rfl)
      (fun pre W => WI w W X (fun k => X k ∨ (w.heap.size < k ∧ k < Wz.heap.size ∧ k ≠ be)) D T St sp Wl.heap.size be g q (wrL d sp q pre)) (fun _ _ _ => False)
      (fun s A B row hs hg hr => hs.abides (by omega) hg hr) (fun _ _ _ _ _ hs _ _ => hs) HWI.out
      (fun x => { tmps := #[.pointer (some ⟨St, 0, none⟩), .slice (some ⟨g, 0, none⟩) q.length cap, .pointer (some ⟨w.heap.size, 0, none⟩), undef, .int .i64 0, .pointer (some ⟨be, 0, none⟩), pcV g q.length x, .pointer (some ⟨St, 0, none⟩), .pointer (some ⟨St, 0, none⟩), .pointer (some ⟨St, 0, none⟩), .pointer (some ⟨D, 0, none⟩), .pointer (some ⟨St, 0, none⟩), .pointer (some ⟨St, 0, none⟩), .pointer (some ⟨St, 2, none⟩), .int .i64 (sp : Int), .int .i64 (writeS d sp []).1, .slice (some ⟨g, 0, none⟩) q.length cap, .func (.func 76) #[] #[.pointer (some ⟨Wz.heap.size, 0, none⟩), .pointer (some ⟨Wz.heap.size + 1, 0, none⟩)], pcV g q.length x, undef, undef, undef, undef, undef, undef, undef, undef, undef, undef, undef, undef, undef, undef, undef, undef, undef, undef, undef, undef, undef, undef, undef, undef], defers := [] }) ?assign ?body ?done ?stop
    case assign =>
      intro l x W K hK
      unfold pcV at *
      gi_wp2
      exact hK
    case body =>
      rintro l pre x W hI hlt
      have hop := wrL_ops d sp q pre
      have hpc : pcs q.length ≤ 2098 := by unfold pcs; omega
      have hnx : wrL d sp q (pre ++ [x]) = wrN sp q (wrL d sp q pre) x := wrL_snoc _ _ _ _ _
      generalize wrL d sp q pre = r at *
      have HNX := Lib.hid hnx
      clear hnx
      have hI' := hI.drew
      have c0 := cell_of_one hI.bt
      have c1 := cell_of_one hI.be
      have c2 := hI.st.c0
      have c3 := hI.st.c2
      have hnew := fun (r' : Int × Dr) (e : Ending) (W1 : World) => hI'.next (r' := r') (e := e) (W1 := W1) HY.out (by omega) hbe (by omega) hgl hstl
      have HNEW := Lib.hid hnew
      have HI := Lib.hid hI
      have HI' := Lib.hid hI'
      clear hnew hI hI'
      by_cases hz : r.1 = 0
      · have hz1 : (r.1 == 0) = true := by simp [hz]
        have EZ : Hid (wrN sp q r x = appS r.2 sp (pcS q x)) := if_pos hz
        gi_wp2
        refine wpIn_onlyN ?_
        refine wpIn_region_round (S := fun w' => w'.cell? ⟨w.heap.size, 0, none⟩ = some (.pointer (some ⟨St, 0, none⟩)) ∧ w'.cell? ⟨St, 0, none⟩ = some (.pointer (some ⟨D, 0, none⟩)) ∧ w'.cell? ⟨St, 2, none⟩ = some (.int .i64 (sp : Int))) (by kernel_rfl) (by kernel_rfl) (fun _ _ h => h) ⟨c0, c2, c3⟩ ?_
        intro hHeld
        refine wpAnyH_take (i := 0) (v := ?_) (by simp only [List.getElem?_toArray, List.getElem?_cons_zero]; rfl) (by kernel_rfl) (by kernel_rfl) (by kernel_rfl) (by intro _ _ _ h; exact h) (Or.inl ⟨by rfl, ?_⟩) (by assumption) ?_
        rotate_left
        · (intro w hSw; (try dsimp only at hSw); go_simp; try with_reducible rfl)
        try simp only [Act.put, List.setIfInBounds_toArray, List.set_cons_zero, List.set_cons_succ]
        refine wpAnyH_take (i := 1) (v := ?_) (by simp only [List.getElem?_toArray, List.getElem?_cons_succ, List.getElem?_cons_zero]; rfl) (by kernel_rfl) (by kernel_rfl) (by kernel_rfl) (by intro _ _ _ h; exact h) (Or.inl ⟨by rfl, ?_⟩) (by assumption) ?_
        rotate_left
        · (intro w hSw; (try dsimp only at hSw); go_simp; try with_reducible rfl)
        try simp only [Act.put, List.setIfInBounds_toArray, List.set_cons_zero, List.set_cons_succ]
        refine wpAnyH_take (i := 2) (v := ?_) (by simp only [List.getElem?_toArray, List.getElem?_cons_succ, List.getElem?_cons_zero]; rfl) (by kernel_rfl) (by kernel_rfl) (by kernel_rfl) (by intro _ _ _ h; exact h) (Or.inl ⟨by rfl, ?_⟩) (by assumption) ?_
        rotate_left
        · (intro w hSw; (try dsimp only at hSw); go_simp; try with_reducible rfl)
        try simp only [Act.put, List.setIfInBounds_toArray, List.set_cons_zero, List.set_cons_succ]
        refine wpAnyH_take (i := 3) (v := ?_) (by simp only [List.getElem?_toArray, List.getElem?_cons_succ, List.getElem?_cons_zero]; rfl) (by kernel_rfl) (by kernel_rfl) (by kernel_rfl) (by intro _ _ _ h; exact h) (Or.inl ⟨by rfl, ?_⟩) (by assumption) ?_
        rotate_left
        · (intro w hSw; (try dsimp only at hSw); go_simp; try with_reducible rfl)
        try simp only [Act.put, List.setIfInBounds_toArray, List.set_cons_zero, List.set_cons_succ]
        refine wpAnyH_take (i := 4) (v := ?_) (by simp only [List.getElem?_toArray, List.getElem?_cons_succ, List.getElem?_cons_zero]; rfl) (by kernel_rfl) (by kernel_rfl) (by kernel_rfl) (by intro _ _ _ h; exact h) (Or.inl ⟨by rfl, ?_⟩) (by assumption) ?_
        rotate_left
        · (intro w hSw; (try dsimp only at hSw); go_simp; try with_reducible rfl)
        try simp only [Act.put, List.setIfInBounds_toArray, List.set_cons_zero, List.set_cons_succ]
        refine wpAnyH_take (i := 5) (v := ?_) (by simp only [List.getElem?_toArray, List.getElem?_cons_succ, List.getElem?_cons_zero]; rfl) (by kernel_rfl) (by kernel_rfl) (by kernel_rfl) (by intro _ _ _ h; exact h) (Or.inl ⟨by rfl, ?_⟩) (by assumption) ?_
        rotate_left
        · (intro w hSw; (try dsimp only at hSw); go_simp; try with_reducible rfl)
        try simp only [Act.put, List.setIfInBounds_toArray, List.set_cons_zero, List.set_cons_succ]
        refine wpAnyH_take (i := 6) (v := ?_) (by simp only [List.getElem?_toArray, List.getElem?_cons_succ, List.getElem?_cons_zero]; rfl) (by kernel_rfl) (by kernel_rfl) (by kernel_rfl) (by intro _ _ _ h; exact h) (Or.inl ⟨by rfl, ?_⟩) (by assumption) ?_
        rotate_left
        · (intro w hSw; (try dsimp only at hSw); go_simp; try with_reducible rfl)
        try simp only [Act.put, List.setIfInBounds_toArray, List.set_cons_zero, List.set_cons_succ]
        refine wpAnyH_take (i := 7) (v := ?_) (by simp only [List.getElem?_toArray, List.getElem?_cons_succ, List.getElem?_cons_zero]; rfl) (by kernel_rfl) (by kernel_rfl) (by kernel_rfl) (by intro _ _ _ h; exact h) (Or.inl ⟨by rfl, ?_⟩) (by assumption) ?_
        rotate_left
        · (intro w hSw; (try dsimp only at hSw); go_simp; try with_reducible rfl)
        try simp only [Act.put, List.setIfInBounds_toArray, List.set_cons_zero, List.set_cons_succ]
        refine wpAnyH_take (i := 8) (v := ?_) (by simp only [List.getElem?_toArray, List.getElem?_cons_succ, List.getElem?_cons_zero]; rfl) (by kernel_rfl) (by kernel_rfl) (by kernel_rfl) (by intro _ _ _ h; exact h) (Or.inl ⟨by rfl, ?_⟩) (by assumption) ?_
        rotate_left
        · (intro w hSw; (try dsimp only at hSw); go_simp; try with_reducible rfl)
        try simp only [Act.put, List.setIfInBounds_toArray, List.set_cons_zero, List.set_cons_succ]
        refine wpAnyH_ready (rs := [9]) (by kernel_rfl) (by simp) ?_
        refine AllReadyH.cons (by simp only [List.getElem?_toArray, List.getElem?_cons_succ, List.getElem?_cons_zero]; rfl) (fun K hK => ?_) AllReadyH.nil
        go_simp
        refine (dt_append sp (pcV g q.length x) (pcS q x) W.drew HI'.out.dt (rd_piece HI'.out.qs x) (by rw [pcS_length]; unfold pl; omega) (by omega)).mono ?_
        rintro e V1 hp1
        obtain rfl := hp1.1
        have far : ∀ b, b < Wl.heap.size → ¬ (X b ∨ (w.heap.size < b ∧ b < Wz.heap.size ∧ b ≠ be)) → V1.heap[b]? = W.drew.heap[b]? := fun b hb hx => hp1.2.2.1.block b (by have h9 : Wl.heap.size ≤ W.drew.heap.size := HI'.out.low; omega) (fun h => by rcases h with h | h; exact hx h; omega)
        have g0 := (far w.heap.size (by omega) HY.out.bt).trans HI'.out.bt
        have gs := HI'.out.st.block (far St (by omega) HY.out.st)
        have gx := (far be (by omega) HY.out.be).trans HI'.out.be
        have u0 := cell_of_one g0
        have u1 := gs.c0
        have u2 := gs.c2
        have ux := cell_of_one gx
        have uf := free_of gx 0
        have ul := lt_of_block gx
        have HP1 := Lib.hid hp1
        clear hp1 g0 gs gx far
        dsimp only
        refine hK.out _ _ ⟨u0, u1, u2⟩ (fun hHeld => ?_)
        clear hK K
        try simp only [Act.put, List.setIfInBounds_toArray, List.set_cons_zero, List.set_cons_succ]
        refine wpAnyH_ready (rs := [10]) (by kernel_rfl) (by simp) ?_
        refine AllReadyH.cons (by simp only [List.getElem?_toArray, List.getElem?_cons_succ, List.getElem?_cons_zero]; rfl) (fun K hK => ?_) AllReadyH.nil
        go_simp
        have y0 : (V1.setCell ⟨be, 0, none⟩ (.int .i64 (appS r.2 sp (pcS q x)).1)).cell? ⟨w.heap.size, 0, none⟩ = _ := (World.cell?_setCell_far _ _ _ _ (by simp; omega)).trans u0
        have y1 : (V1.setCell ⟨be, 0, none⟩ (.int .i64 (appS r.2 sp (pcS q x)).1)).cell? ⟨St, 0, none⟩ = _ := (World.cell?_setCell_far _ _ _ _ (by simp; omega)).trans u1
        have y2 : (V1.setCell ⟨be, 0, none⟩ (.int .i64 (appS r.2 sp (pcS q x)).1)).cell? ⟨St, 2, none⟩ = _ := (World.cell?_setCell_far _ _ _ _ (by simp; omega)).trans u2
        refine hK.out _ _ ⟨y0, y1, y2⟩ (fun hHeld => ?_)
        clear hK K
        try simp only [Act.put, List.setIfInBounds_toArray, List.set_cons_zero, List.set_cons_succ]
        refine wpAnyH_done (by kernel_rfl) ?_ _
        dsimp only [onlyN]
        obtain ⟨n1, n2, n3⟩ := HNEW.out _ _ _ HP1.out
        have hk2 := n3 (fun k => k = Wz.heap.size ∨ k = Wz.heap.size + 1) (fun k hk => ⟨fun h => by
          rcases h with h | h
          · have := HX.out k h; omega
          · omega, by omega, by omega⟩)
        clear HNEW HP1 HI HI' hHeld
        gi_wp2
        exact ⟨(⟨Nat.le_refl _, fun _ _ h _ => h⟩ : KeepsOthers W W.drew).trans n2, hk2, by dsimp only; rw [HNX.out, EZ.out]; exact n1⟩
      · have hz1 : (r.1 == 0) = false := by simp [hz]
        have EZ : Hid (wrN sp q r x = r) := if_neg hz
        gi_wp2
        exact ⟨KeepsOthers.refl _, Keep.refl _ _, by dsimp only; rw [HNX.out, EZ.out]; exact HI.out⟩
    case done =>
      rintro Df ys W hDf rfl hI hK
      have hop := wrL_ops d sp q (List.range (pcs q.length))
      have hpc : pcs q.length ≤ 2098 := by unfold pcs; omega
      rw [List.length_range] at hop
      have hS : wrS d sp q = wrZ sp (wrL d sp q (List.range (pcs q.length))) := rfl
      generalize wrL d sp q (List.range (pcs q.length)) = r at *
      have HS := Lib.hid hS
      have hI' := hI.drew
      have c0 := cell_of_one hI.bt
      have c1 := cell_of_one hI.be
      have c2 := hI.st.c0
      have c3 := hI.st.c2
      have hnew := fun (r' : Int × Dr) (e : Ending) (W1 : World) => hI'.next (r' := r') (e := e) (W1 := W1) HY.out (by omega) hbe (by omega) hgl hstl
      have HNEW := Lib.hid hnew
      have HI := Lib.hid hI
      have HI' := Lib.hid hI'
      have HK := Lib.hid hK
      clear hnew hI hI' hS hK
      by_cases hz : r.1 = 0
      · have hz1 : (r.1 == 0) = true := by simp [hz]
        have EZ : Hid (wrZ sp r = syncS r.2 sp) := if_pos hz
        gi_wp2
        refine wpIn_wide.2 (wp_onlyN ?_)
        refine wp_region_held_drew (S := fun w' => w'.cell? ⟨w.heap.size, 0, none⟩ = some (.pointer (some ⟨St, 0, none⟩)) ∧ w'.cell? ⟨St, 0, none⟩ = some (.pointer (some ⟨D, 0, none⟩)) ∧ w'.cell? ⟨St, 2, none⟩ = some (.int .i64 (sp : Int))) (by kernel_rfl) ⟨c0, c2, c3⟩ ?_
        intro hHeld
        refine wpAnyH_take (i := 0) (v := ?_) (by simp only [List.getElem?_toArray, List.getElem?_cons_zero]; rfl) (by kernel_rfl) (by kernel_rfl) (by kernel_rfl) (by intro _ _ _ h; exact h) (Or.inl ⟨by rfl, ?_⟩) (by assumption) ?_
        rotate_left
        · (intro w hSw; (try dsimp only at hSw); go_simp; try with_reducible rfl)
        try simp only [Act.put, List.setIfInBounds_toArray, List.set_cons_zero, List.set_cons_succ]
        refine wpAnyH_take (i := 1) (v := ?_) (by simp only [List.getElem?_toArray, List.getElem?_cons_succ, List.getElem?_cons_zero]; rfl) (by kernel_rfl) (by kernel_rfl) (by kernel_rfl) (by intro _ _ _ h; exact h) (Or.inl ⟨by rfl, ?_⟩) (by assumption) ?_
        rotate_left
        · (intro w hSw; (try dsimp only at hSw); go_simp; try with_reducible rfl)
        try simp only [Act.put, List.setIfInBounds_toArray, List.set_cons_zero, List.set_cons_succ]
        refine wpAnyH_take (i := 2) (v := ?_) (by simp only [List.getElem?_toArray, List.getElem?_cons_succ, List.getElem?_cons_zero]; rfl) (by kernel_rfl) (by kernel_rfl) (by kernel_rfl) (by intro _ _ _ h; exact h) (Or.inl ⟨by rfl, ?_⟩) (by assumption) ?_
        rotate_left
        · (intro w hSw; (try dsimp only at hSw); go_simp; try with_reducible rfl)
        try simp only [Act.put, List.setIfInBounds_toArray, List.set_cons_zero, List.set_cons_succ]
        refine wpAnyH_take (i := 3) (v := ?_) (by simp only [List.getElem?_toArray, List.getElem?_cons_succ, List.getElem?_cons_zero]; rfl) (by kernel_rfl) (by kernel_rfl) (by kernel_rfl) (by intro _ _ _ h; exact h) (Or.inl ⟨by rfl, ?_⟩) (by assumption) ?_
        rotate_left
        · (intro w hSw; (try dsimp only at hSw); go_simp; try with_reducible rfl)
        try simp only [Act.put, List.setIfInBounds_toArray, List.set_cons_zero, List.set_cons_succ]
        refine wpAnyH_take (i := 4) (v := ?_) (by simp only [List.getElem?_toArray, List.getElem?_cons_succ, List.getElem?_cons_zero]; rfl) (by kernel_rfl) (by kernel_rfl) (by kernel_rfl) (by intro _ _ _ h; exact h) (Or.inl ⟨by rfl, ?_⟩) (by assumption) ?_
        rotate_left
        · (intro w hSw; (try dsimp only at hSw); go_simp; try with_reducible rfl)
        try simp only [Act.put, List.setIfInBounds_toArray, List.set_cons_zero, List.set_cons_succ]
        refine wpAnyH_take (i := 5) (v := ?_) (by simp only [List.getElem?_toArray, List.getElem?_cons_succ, List.getElem?_cons_zero]; rfl) (by kernel_rfl) (by kernel_rfl) (by kernel_rfl) (by intro _ _ _ h; exact h) (Or.inl ⟨by rfl, ?_⟩) (by assumption) ?_
        rotate_left
        · (intro w hSw; (try dsimp only at hSw); go_simp; try with_reducible rfl)
        try simp only [Act.put, List.setIfInBounds_toArray, List.set_cons_zero, List.set_cons_succ]
        refine wpAnyH_take (i := 6) (v := ?_) (by simp only [List.getElem?_toArray, List.getElem?_cons_succ, List.getElem?_cons_zero]; rfl) (by kernel_rfl) (by kernel_rfl) (by kernel_rfl) (by intro _ _ _ h; exact h) (Or.inl ⟨by rfl, ?_⟩) (by assumption) ?_
        rotate_left
        · (intro w hSw; (try dsimp only at hSw); go_simp; try with_reducible rfl)
        try simp only [Act.put, List.setIfInBounds_toArray, List.set_cons_zero, List.set_cons_succ]
        refine wpAnyH_take (i := 7) (v := ?_) (by simp only [List.getElem?_toArray, List.getElem?_cons_succ, List.getElem?_cons_zero]; rfl) (by kernel_rfl) (by kernel_rfl) (by kernel_rfl) (by intro _ _ _ h; exact h) (Or.inl ⟨by rfl, ?_⟩) (by assumption) ?_
        rotate_left
        · (intro w hSw; (try dsimp only at hSw); go_simp; try with_reducible rfl)
        try simp only [Act.put, List.setIfInBounds_toArray, List.set_cons_zero, List.set_cons_succ]
        refine wpAnyH_ready (rs := [8]) (by kernel_rfl) (by simp) ?_
        refine AllReadyH.cons (by simp only [List.getElem?_toArray, List.getElem?_cons_succ, List.getElem?_cons_zero]; rfl) (fun K hK => ?_) AllReadyH.nil
        go_simp
        refine (dt_sync sp W.drew HI'.out.dt (by omega)).mono ?_
        rintro e V1 hp1
        obtain rfl := hp1.1
        have far : ∀ b, b < Wl.heap.size → ¬ (X b ∨ (w.heap.size < b ∧ b < Wz.heap.size ∧ b ≠ be)) → V1.heap[b]? = W.drew.heap[b]? := fun b hb hx => hp1.2.2.1.block b (by have h9 : Wl.heap.size ≤ W.drew.heap.size := HI'.out.low; omega) (fun h => by rcases h with h | h; exact hx h; omega)
        have g0 := (far w.heap.size (by omega) HY.out.bt).trans HI'.out.bt
        have gs := HI'.out.st.block (far St (by omega) HY.out.st)
        have gx := (far be (by omega) HY.out.be).trans HI'.out.be
        have u0 := cell_of_one g0
        have u1 := gs.c0
        have u2 := gs.c2
        have ux := cell_of_one gx
        have uf := free_of gx 0
        have ul := lt_of_block gx
        have HP1 := Lib.hid hp1
        clear hp1 g0 gs gx far
        dsimp only
        refine hK.out _ _ ⟨u0, u1, u2⟩ (fun hHeld => ?_)
        clear hK K
        try simp only [Act.put, List.setIfInBounds_toArray, List.set_cons_zero, List.set_cons_succ]
        refine wpAnyH_ready (rs := [9]) (by kernel_rfl) (by simp) ?_
        refine AllReadyH.cons (by simp only [List.getElem?_toArray, List.getElem?_cons_succ, List.getElem?_cons_zero]; rfl) (fun K hK => ?_) AllReadyH.nil
        go_simp
        have y0 : (V1.setCell ⟨be, 0, none⟩ (.int .i64 (syncS r.2 sp).1)).cell? ⟨w.heap.size, 0, none⟩ = _ := (World.cell?_setCell_far _ _ _ _ (by simp; omega)).trans u0
        have y1 : (V1.setCell ⟨be, 0, none⟩ (.int .i64 (syncS r.2 sp).1)).cell? ⟨St, 0, none⟩ = _ := (World.cell?_setCell_far _ _ _ _ (by simp; omega)).trans u1
        have y2 : (V1.setCell ⟨be, 0, none⟩ (.int .i64 (syncS r.2 sp).1)).cell? ⟨St, 2, none⟩ = _ := (World.cell?_setCell_far _ _ _ _ (by simp; omega)).trans u2
        refine hK.out _ _ ⟨y0, y1, y2⟩ (fun hHeld => ?_)
        clear hK K
        try simp only [Act.put, List.setIfInBounds_toArray, List.set_cons_zero, List.set_cons_succ]
        refine wpAnyH_done (by kernel_rfl) ?_ _
        dsimp only [onlyN]
        obtain ⟨n1, n2, n3⟩ := HNEW.out _ _ _ HP1.out
        have hK := n2.same Df _ (show W.drew.heap[Df]? = _ from HK.out) rfl
        have hc := cell_of_one n1.be
        have FIN := Lib.hid (n1.fin HY.out (by omega) hDf hK)
        generalize V1.setCell ⟨be, 0, none⟩ (.int .i64 (syncS r.2 sp).1) = W3 at *
        clear HNEW HP1 HI HI' hHeld n1 n2 n3 HK
        gi_wp2
        refine ⟨by simp, .inl ⟨_, _, rfl, run_takeDeferred hK, ?_⟩⟩
        exact ⟨_, results_tmp rfl _ _ _, by rw [HS.out, EZ.out]; exact FIN.out⟩
      · have hz1 : (r.1 == 0) = false := by simp [hz]
        have EZ : Hid (wrZ sp r = r) := if_neg hz
        have FIN := Lib.hid (HI.out.fin HY.out (by omega) hDf HK.out)
        have hK := HK.out
        clear HNEW HI HI' HK
        gi_wp2
        refine ⟨by simp, .inl ⟨_, _, rfl, run_takeDeferred hK, ?_⟩⟩
        exact ⟨_, results_tmp rfl _ _ _, by rw [HS.out, EZ.out]; exact FIN.out⟩
    case stop =>
      rintro Df c pre W _ _ h _
      exact h.elim
end Go.Proofs.Ytonahfpnlaolpaa
