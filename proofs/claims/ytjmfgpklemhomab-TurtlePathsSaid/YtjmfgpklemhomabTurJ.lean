/- The turtle: Box. -/
import Derived.Test.YtjmfgpklemhomabTurE
import Derived.Test.YtjmfgpklemhomabTurI
import Derived.RegionTactic
import Derived.BigRegion
namespace Go.Proofs.Ytjmfgpklemhomab
open Go.RowKit TurF TurP

def lowF (a p : Pt) : Pt := (if p.1 < a.1 then p.1 else a.1, if p.2 < a.2 then p.2 else a.2)
def highF (a p : Pt) : Pt := (if a.1 < p.1 then p.1 else a.1, if a.2 < p.2 then p.2 else a.2)
def low (P : List Pt) : Pt := P.foldl lowF (0, 0)
def high (P : List Pt) : Pt := P.foldl highF (0, 0)
theorem low_take (P : List Pt) (k : Nat) (h : k < P.length) : low (P.take (k + 1)) = lowF (low (P.take k)) P[k] := by
  unfold low; rw [List.take_succ_eq_append_getElem h, List.foldl_append]; rfl
theorem high_take (P : List Pt) (k : Nat) (h : k < P.length) : high (P.take (k + 1)) = highF (high (P.take k)) P[k] := by
  unfold high; rw [List.take_succ_eq_append_getElem h, List.foldl_append]; rfl

/-- What Box leaves. -/
def BGood (l : List Mv) (e : Ending) : Prop := e = .returned (.tuple #[.agg #[.int .i64 (low (run l).path).1, .int .i64 (low (run l).path).2], .agg #[.int .i64 (high (run l).path).1, .int .i64 (high (run l).path).2], .int .i64 0])
def BBad (l : List Mv) (e : Ending) : Prop := e = .returned (.tuple #[.agg #[.int .i64 0, .int .i64 0], .agg #[.int .i64 0, .int .i64 0], .int .i64 (err l)])
theorem bbad_of {l : List Mv} {n : Int} (h : err l = n) : BBad l (.returned (.tuple #[.agg #[.int .i64 0, .int .i64 0], .agg #[.int .i64 0, .int .i64 0], .int .i64 n])) := by unfold BBad; rw [h]

/-- Two places of the call's own in two blocks, one behind the other. -/
structure Box2 (w1 wr : World) (lo hi : Pt) : Prop where
  lo : wr.heap[w1.heap.size]? = some (.cells #[.int .i64 lo.1, .int .i64 lo.2] 29 (0, 0))
  hi : wr.heap[w1.heap.size + 1]? = some (.cells #[.int .i64 hi.1, .int .i64 hi.2] 29 (0, 0))
  below : Below w1.heap.size w1 wr

theorem at_setCell {w : World} {b i : Nat} {cs : Array Value} {u : Value} {t : TypeId} {fr : Nat × Nat} (h : w.heap[b]? = some (.cells cs t fr)) : (w.setCell ⟨b, i, none⟩ u).heap[b]? = some (.cells (cs.setIfInBounds i u) t fr) := by
  have hlt := lt_of_block h
  have h' : w.heap[b] = .cells cs t fr := by simpa [Array.getElem?_eq_getElem hlt] using h
  show (w.heap.modify b _)[b]? = _
  rw [Array.getElem?_eq_getElem (by simpa using hlt), Array.getElem_modify_self, h']
  rfl
theorem two_setCell {w : World} {b : Nat} {x y u v : Value} {t : TypeId} (h : w.heap[b]? = some (.cells #[x, y] t (0, 0))) : ((w.setCell ⟨b, 0, none⟩ u).setCell ⟨b, 1, none⟩ v).heap[b]? = some (.cells #[u, v] t (0, 0)) :=
  at_setCell (at_setCell h)

theorem Box2.alloc {w1 wr : World} {lo hi : Pt} (h : Box2 w1 wr lo hi) (o : Obj) : Box2 w1 (wr.alloc o) lo hi :=
  ⟨(Below.heap_alloc _ _ _ (lt_of_block h.lo)).trans h.lo, (Below.heap_alloc _ _ _ (lt_of_block h.hi)).trans h.hi, h.below.alloc h.below.size _⟩
theorem Box2.setLo {w1 wr : World} {lo hi : Pt} (h : Box2 w1 wr lo hi) (p : Pt) : Box2 w1 ((wr.setCell ⟨w1.heap.size, 0, none⟩ (.int .i64 p.1)).setCell ⟨w1.heap.size, 1, none⟩ (.int .i64 p.2)) p hi :=
  ⟨two_setCell h.lo, (Below.heap_setCell _ _ _ _ (by simp)).trans ((Below.heap_setCell _ _ _ _ (by simp)).trans h.hi), (h.below.setCell (by simp) _).setCell (by simp) _⟩
theorem Box2.setHi {w1 wr : World} {lo hi : Pt} (h : Box2 w1 wr lo hi) (p : Pt) : Box2 w1 ((wr.setCell ⟨w1.heap.size + 1, 0, none⟩ (.int .i64 p.1)).setCell ⟨w1.heap.size + 1, 1, none⟩ (.int .i64 p.2)) lo p :=
  ⟨(Below.heap_setCell _ _ _ _ (by simp)).trans ((Below.heap_setCell _ _ _ _ (by simp)).trans h.lo), two_setCell h.hi, (h.below.setCell (by simp) _).setCell (by simp) _⟩

set_option maxHeartbeats 2000000 in
set_option maxRecDepth 100000 in
theorem box_good (v : Value) (l : List Mv) (w : World) (h : RdM w v l) (hlong : ¬ 1000 < l.length) (hfar : l.any far = false) :
    Calls Try.prog 12 #[v] w fun e w' => BGood l e ∧ Below w.heap.size w w' := by
  have hb0 : Below w.heap.size w ((w.alloc (.cells #[.int .i64 0, .int .i64 0] 29)).alloc (.cells #[.int .i64 0, .int .i64 0] 29)) := ((Below.refl _ w).alloc (Nat.le_refl _) _).alloc (by simp) _
  have H := Lib.hid (walk_good v l _ (h.below hb0 (Nat.le_refl _)) hlong hfar)
  have ok := ok_run (B := 1000000) (by omega) l (within_of_err hfar)
  have hpl := path_len l s0
  have hpl' : (run l).path.length ≤ 1 + l.length := hpl
  have HG := Lib.hid (show BGood l (.returned (.tuple #[.agg #[.int .i64 (low (run l).path).1, .int .i64 (low (run l).path).2], .agg #[.int .i64 (high (run l).path).1, .int .i64 (high (run l).path).2], .int .i64 0])) from rfl)
  have hn : 0 < (run l).path.length := by obtain ⟨post, hp⟩ := ok.first; rw [hp]; simp
  have k0 : ((w.alloc (.cells #[.int .i64 0, .int .i64 0] 29)).alloc (.cells #[.int .i64 0, .int .i64 0] 29)).heap[w.heap.size]? = some (.cells #[.int .i64 0, .int .i64 0] 29 (0, 0)) := (Below.heap_alloc _ _ _ (by simp)).trans (heap_alloc_new w _)
  have k1 : ((w.alloc (.cells #[.int .i64 0, .int .i64 0] 29)).alloc (.cells #[.int .i64 0, .int .i64 0] 29)).heap[w.heap.size + 1]? = some (.cells #[.int .i64 0, .int .i64 0] 29 (0, 0)) := by
    have := heap_alloc_new (w.alloc (.cells #[.int .i64 0, .int .i64 0] 29)) (.cells #[.int .i64 0, .int .i64 0] 29)
    simpa using this
  have K0 := Lib.hid k0
  have K1 := Lib.hid k1
  have HB0 := Lib.hid hb0
  clear h hfar hpl ok k0 k1 hb0
  go_enter Try.func12, Try.ntmps12
  go_wp2_with fail
  refine H.out.mono ?_
  rintro e w1 ⟨v', lk, rfl, hl, ho, hb⟩
  generalize (run l).path = P at *
  obtain ⟨g, cap, rfl, hg0, hg1, hcap, hm, hc⟩ := ho.cells hn
  have R0 := Lib.hid ((hb.block _ (by simp; omega)).trans K0.out)
  have R1 := Lib.hid ((hb.block _ (by simp)).trans K1.out)
  have HC := Lib.hid hc
  have HB := Lib.hid (HB0.out.trans (hb.mono HB0.out.size))
  have hsz := hb.size
  simp at hsz
  clear hc ho hb hl K0 K1 HB0
  unfold maxLen at hm
  go_wp2_with fail
  have R1' : ((w1.alloc (.cells #[.int .i64 0, .int .i64 0] 29)).alloc (.cells #[.int .i64 0, .int .i64 0] 29)).heap[w1.heap.size + 1]? = some (.cells #[.int .i64 0, .int .i64 0] 29 (0, 0)) := by
    have := heap_alloc_new (w1.alloc (.cells #[.int .i64 0, .int .i64 0] 29)) (.cells #[.int .i64 0, .int .i64 0] 29)
    simpa using this
  have ST : Hid (Box2 w1 ((w1.alloc (.cells #[.int .i64 0, .int .i64 0] 29)).alloc (.cells #[.int .i64 0, .int .i64 0] 29)) (low (P.take 0)) (high (P.take 0))) :=
    ⟨(Below.heap_alloc _ _ _ (by simp)).trans (heap_alloc_new w1 _), R1', ((Below.refl _ w1).alloc (Nat.le_refl _) _).alloc (by simp) _⟩
  clear R1'
  go_loopw [22] (fun i wr => ∃ j : Nat, j ≤ P.length ∧ i = .int .i64 j ∧ Box2 w1 wr (low (P.take j)) (high (P.take j))) (fun i _ => P.length - (intOf i).toNat)
  case atStart => exact ⟨0, by omega, rfl, ST.out⟩
  case round =>
    clear ST
    obtain ⟨j, hj, rfl, hbox⟩ := hrel
    have hsz := hbox.below.size
    have hl1 := lt_of_block hbox.hi
    by_cases hlt : j < P.length
    · obtain ⟨c1, c2⟩ := HC.out j P[j] (by simp [hlt])
      have l1 := World.block_lt_of_cell? _ _ c1
      simp only at l1
      have c1' := (hbox.below.cell (p := ⟨g, j * 2, none⟩) l1).trans c1
      have c2' := (hbox.below.cell (p := ⟨g, j * 2 + 1, none⟩) l1).trans c2
      have hboxa := hbox.alloc (.cells #[.int .i64 P[j].1, .int .i64 P[j].2] 29)
      obtain ⟨d1, d2, d3, d4⟩ := cells_two hboxa.lo
      obtain ⟨e1, e2, e3, e4⟩ := cells_two hboxa.hi
      have HL := Lib.hid (low_take P j hlt)
      have HH := Lib.hid (high_take P j hlt)
      clear c1 c2
      generalize P[j] = p at *
      generalize low (P.take j) = lo at *
      generalize high (P.take j) = hi at *
      have fin := (hboxa.setLo (lowF lo p)).setHi (highF hi p)
      rw [← HL.out, ← HH.out] at fin
      have BX := Lib.hid fin
      clear fin
      clear hbox hboxa
      go_wp2
      have bx := BX.out
      rw [HL.out, HH.out] at bx
      refine ⟨⟨j + 1, by omega, by go_num, ?_⟩, by simp [intOf]; omega⟩
      rw [HL.out, HH.out]
      exact bx
    · have e : P.take j = P := List.take_of_length_le (by omega)
      rw [e] at hbox
      obtain ⟨d1, d2, d3, d4⟩ := cells_two hbox.lo
      obtain ⟨e1, e2, e3, e4⟩ := cells_two hbox.hi
      obtain ⟨a1, a2, a3, a4⟩ := cells_two ((hbox.below.block _ (by omega)).trans R0.out)
      obtain ⟨b1, b2, b3, b4⟩ := cells_two ((hbox.below.block _ (by omega)).trans R1.out)
      have hbw := HB.out.trans (hbox.below.mono HB.out.size)
      have hb4 : Below w.heap.size w ((((wr.setCell ⟨w.heap.size, 0, none⟩ (.int .i64 (low P).1)).setCell ⟨w.heap.size, 1, none⟩ (.int .i64 (low P).2)).setCell ⟨w.heap.size + 1, 0, none⟩ (.int .i64 (high P).1)).setCell ⟨w.heap.size + 1, 1, none⟩ (.int .i64 (high P).2)) :=
        (((hbw.setCell (by simp) _).setCell (by simp) _).setCell (by simp) _).setCell (by simp) _
      have HB4 := Lib.hid hb4
      generalize low P = lo at *
      generalize high P = hi at *
      clear hbox e hbw hb4
      go_wp2
      go_region
      go_wp2
      exact bodyPost_ret (v := .tuple #[.agg #[.int .i64 lo.1, .int .i64 lo.2], .agg #[.int .i64 hi.1, .int .i64 hi.2], .int .i64 0]) (by simp [results, Try.results12, go_sem, a1, a2, b1, b2]) rfl ⟨HG.out, HB4.out.drew⟩

set_option maxHeartbeats 2000000 in
set_option maxRecDepth 100000 in
theorem box_bad (v : Value) (l : List Mv) (w : World) (h : RdM w v l) (he : err l = 1 ∨ err l = 2) :
    Calls Try.prog 12 #[v] w fun e w' => BBad l e ∧ Below w.heap.size w w' := by
  have hb0 : Below w.heap.size w ((w.alloc (.cells #[.int .i64 0, .int .i64 0] 29)).alloc (.cells #[.int .i64 0, .int .i64 0] 29)) := ((Below.refl _ w).alloc (Nat.le_refl _) _).alloc (by simp) _
  have H := Lib.hid (walk_bad v l _ (h.below hb0 (Nat.le_refl _)) he)
  have k0 : ((w.alloc (.cells #[.int .i64 0, .int .i64 0] 29)).alloc (.cells #[.int .i64 0, .int .i64 0] 29)).heap[w.heap.size]? = some (.cells #[.int .i64 0, .int .i64 0] 29 (0, 0)) := (Below.heap_alloc _ _ _ (by simp)).trans (heap_alloc_new w _)
  have k1 : ((w.alloc (.cells #[.int .i64 0, .int .i64 0] 29)).alloc (.cells #[.int .i64 0, .int .i64 0] 29)).heap[w.heap.size + 1]? = some (.cells #[.int .i64 0, .int .i64 0] 29 (0, 0)) := by
    have := heap_alloc_new (w.alloc (.cells #[.int .i64 0, .int .i64 0] 29)) (.cells #[.int .i64 0, .int .i64 0] 29)
    simpa using this
  have K0 := Lib.hid k0
  have K1 := Lib.hid k1
  have HB0 := Lib.hid hb0
  clear h k0 k1 hb0
  generalize hE : err l = E at *
  have HE := Lib.hid hE
  clear hE he
  go_enter Try.func12, Try.ntmps12
  go_wp2_with fail
  refine H.out.mono ?_
  rintro e w1 ⟨h1, hb⟩
  unfold WBad at h1
  rw [HE.out] at h1
  subst h1
  have R0 := Lib.hid ((hb.block _ (by simp; omega)).trans K0.out)
  have R1 := Lib.hid ((hb.block _ (by simp)).trans K1.out)
  have HB := Lib.hid (HB0.out.trans (hb.mono HB0.out.size))
  have hsz := hb.size
  simp at hsz
  clear hb K0 K1 HB0
  have r1 : ((w1.alloc (.cells #[.int .i64 0, .int .i64 0] 29)).alloc (.cells #[.int .i64 0, .int .i64 0] 29)).heap[w1.heap.size + 1]? = some (.cells #[.int .i64 0, .int .i64 0] 29 (0, 0)) := by
    have := heap_alloc_new (w1.alloc (.cells #[.int .i64 0, .int .i64 0] 29)) (.cells #[.int .i64 0, .int .i64 0] 29)
    simpa using this
  have hbox : Box2 w1 ((w1.alloc (.cells #[.int .i64 0, .int .i64 0] 29)).alloc (.cells #[.int .i64 0, .int .i64 0] 29)) (0, 0) (0, 0) :=
    ⟨(Below.heap_alloc _ _ _ (by simp)).trans (heap_alloc_new w1 _), r1, ((Below.refl _ w1).alloc (Nat.le_refl _) _).alloc (by simp) _⟩
  obtain ⟨d1, d2, d3, d4⟩ := cells_two hbox.lo
  obtain ⟨e1, e2, e3, e4⟩ := cells_two hbox.hi
  obtain ⟨a1, a2, a3, a4⟩ := cells_two ((hbox.below.block _ (by omega)).trans R0.out)
  obtain ⟨b1, b2, b3, b4⟩ := cells_two ((hbox.below.block _ (by omega)).trans R1.out)
  have hbw := HB.out.trans (hbox.below.mono HB.out.size)
  have hb4 : Below w.heap.size w (((((((w1.alloc (.cells #[.int .i64 0, .int .i64 0] 29)).alloc (.cells #[.int .i64 0, .int .i64 0] 29)).setCell ⟨w.heap.size, 0, none⟩ (.int .i64 0)).setCell ⟨w.heap.size, 1, none⟩ (.int .i64 0)).setCell ⟨w.heap.size + 1, 0, none⟩ (.int .i64 0)).setCell ⟨w.heap.size + 1, 1, none⟩ (.int .i64 0))) :=
    (((hbw.setCell (by simp) _).setCell (by simp) _).setCell (by simp) _).setCell (by simp) _
  have HB4 := Lib.hid hb4
  clear hbox hbw hb4 r1
  dsimp only at d1 d2 e1 e2
  go_wp2_with fail
  go_loop [22] (fun i => i = .int .i64 0) (fun _ => 0)
  case atStart => rfl
  case round =>
    obtain rfl := hrel
    go_wp2
    go_region
    go_wp2
    exact bodyPost_ret (v := .tuple #[.agg #[.int .i64 0, .int .i64 0], .agg #[.int .i64 0, .int .i64 0], .int .i64 E]) (by simp [results, Try.results12, go_sem, a1, a2, b1, b2]) rfl ⟨bbad_of HE.out, HB4.out.drew⟩

/-- What Area and Closed leave at a fault. -/
def ABad (l : List Mv) (e : Ending) : Prop := e = .returned (.tuple #[.int .i64 0, .int .i64 (err l)])
theorem abad_of {l : List Mv} {n : Int} (h : err l = n) : ABad l (.returned (.tuple #[.int .i64 0, .int .i64 n])) := by unfold ABad; rw [h]

set_option maxHeartbeats 2000000 in
set_option maxRecDepth 100000 in
theorem area_bad (v : Value) (l : List Mv) (w : World) (h : RdM w v l) (he : err l = 1 ∨ err l = 2) :
    Calls Try.prog 13 #[v] w fun e w' => ABad l e ∧ Below w.heap.size w w' := by
  have H := Lib.hid (walk_bad v l _ h he)
  clear h
  generalize hE : err l = E at *
  have HE := Lib.hid hE
  clear hE he
  go_enter Try.func13, Try.ntmps13
  go_wp2_with fail
  refine H.out.mono ?_
  rintro e w1 ⟨h1, hb⟩
  unfold WBad at h1
  rw [HE.out] at h1
  subst h1
  have HB := Lib.hid hb
  clear hb
  go_wp2_with fail
  go_loop [7, 19] (fun a i => i = .int .i64 0 ∧ a = .int .i64 0) (fun _ _ => 0)
  case atStart => exact ⟨rfl, rfl⟩
  case round =>
    obtain ⟨rfl, rfl⟩ := hrel
    go_wp2
    go_ret2
    exact ⟨abad_of HE.out, HB.out⟩

set_option maxHeartbeats 2000000 in
set_option maxRecDepth 100000 in
theorem closed_bad (v : Value) (l : List Mv) (w : World) (h : RdM w v l) (he : err l = 1 ∨ err l = 2) :
    Calls Try.prog 15 #[v] w fun e w' => e = .returned (.bool false) ∧ Below w.heap.size w w' := by
  have H := Lib.hid (walk_bad v l _ h he)
  clear h
  have hne : ((err l : Int) == 0) = false := by rcases he with he | he <;> rw [he] <;> rfl
  generalize hE : err l = E at *
  have HE := Lib.hid hE
  clear hE he
  go_enter Try.func15, Try.ntmps15
  go_wp2_with fail
  refine H.out.mono ?_
  rintro e w1 ⟨h1, hb⟩
  unfold WBad at h1
  rw [HE.out] at h1
  subst h1
  have HB := Lib.hid hb
  clear hb
  go_wp2_with fail
  go_quiet (fail)
  go_wp2
  go_ret
  exact ⟨rfl, below_drewN HB.out _⟩
end Go.Proofs.Ytjmfgpklemhomab
