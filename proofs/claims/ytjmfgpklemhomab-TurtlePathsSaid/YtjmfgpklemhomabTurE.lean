/- The turtle: Path, Look, Closed. -/
import Derived.Test.YtjmfgpklemhomabTurD
import Derived.BigQuiet
import Derived.Laws.StructEq
namespace Go.Proofs.Ytjmfgpklemhomab
open Go.RowKit TurF TurP

theorem walk_none (o : Option Addr) (c : Nat) (w : World) :
    Calls Try.prog 17 #[.slice o 0 c] w (WGood w []) := by
  have H := Lib.hid (check_none o c w)
  have HE := Lib.hid (err_ok (l := []) (by simp) rfl)
  go_enter Try.func17, Try.ntmps17
  go_wp2_with fail
  refine H.out.mono ?_
  rintro e w1 ⟨h1, hb1⟩
  unfold Checked at h1
  rw [HE.out] at h1
  subst h1
  have hs1 := hb1.size
  go_wp2_with fail
  refine (place _ (0, 0) w1 ⟨0, 0, rfl, is_zero, is_zero⟩ (sm_of (by simp) (by simp)) (sm_of (by simp) (by simp))).mono ?_
  rintro e w2 ⟨he, hb2⟩
  unfold Pl at he
  subst he
  have hb : Below w.heap.size w w2 := hb1.trans (hb2.mono hs1)
  have hs2 : w.heap.size ≤ w2.heap.size := hb.size
  have start : WK w (w2.alloc (.cells #[.int .i64 0, .int .i64 0] 29)) s0 (.complex .f64 0 0) (.complex .f64 0 4607182418800017408) (.slice (some ⟨w2.heap.size, 0, none⟩) 1 1) :=
    ⟨⟨0, 0, rfl, is_zero, is_zero⟩, ⟨0, _, rfl, is_zero, is_one⟩, OwnP.one w2 (0, 0) _ hs2, hb.alloc hs2 _⟩
  have ST := Lib.hid (WK.good (l := []) start)
  clear start hb1 hb2 hb
  go_wp2_with fail
  go_loop [6, 7, 8, 21] (fun p lk v i => i = .int .i64 0 ∧ p = .complex .f64 0 0 ∧ lk = .complex .f64 0 4607182418800017408 ∧ v = .slice (some ⟨w2.heap.size, 0, none⟩) 1 1) (fun _ _ _ _ => 0)
  case atStart => exact ⟨rfl, rfl, rfl, rfl⟩
  case round =>
    obtain ⟨rfl, rfl, rfl, rfl⟩ := hrel
    go_wp2_with fail
    go_ret3
    exact ST.out

theorem walk_good (v : Value) (l : List Mv) (w : World) (h : RdM w v l) (hlong : ¬ 1000 < l.length) (hfar : l.any far = false) :
    Calls Try.prog 17 #[v] w (WGood w l) := by
  rcases h with ⟨o, c, -, rfl, rfl⟩ | ⟨b, off, c, rfl, h2, h3, h4, h5⟩
  · exact walk_none o c w
  · exact walk_row b off c l w h2 h3 h4 h5 hlong hfar

theorem err_cases (l : List Mv) : (err l = 1 ∨ err l = 2) ∨ (err l = 0 ∧ ¬ 1000 < l.length ∧ l.any far = false) := by
  by_cases h : 1000 < l.length
  · exact .inl (.inr (err_long h))
  · by_cases h2 : l.any far = true
    · exact .inl (.inl (err_far h h2))
    · have h3 : l.any far = false := by simpa using h2
      exact .inr ⟨err_ok h h3, h, h3⟩

/-- What Path leaves at a fault, and without. -/
def PBad (l : List Mv) (e : Ending) : Prop := e = .returned (.tuple #[.slice none 0 0, .int .i64 (err l)])
theorem pbad_of {l : List Mv} {n : Int} (h : err l = n) : PBad l (.returned (.tuple #[.slice none 0 0, .int .i64 n])) := by unfold PBad; rw [h]
def PGood (w : World) (l : List Mv) (e : Ending) (w' : World) : Prop := ∃ v, e = .returned (.tuple #[v, .int .i64 0]) ∧ OwnP w' w.heap.size v (run l).path ∧ Below w.heap.size w w'

theorem path_bad (v : Value) (l : List Mv) (w : World) (h : RdM w v l) (he : err l = 1 ∨ err l = 2) :
    Calls Try.prog 10 #[v] w fun e w' => PBad l e ∧ Below w.heap.size w w' := by
  have H := Lib.hid (walk_bad v l w h he)
  clear h
  generalize hE : err l = E at *
  have HE := Lib.hid hE
  clear hE he
  go_enter Try.func10, Try.ntmps10
  go_wp2_with fail
  refine H.out.mono ?_
  rintro e w1 ⟨h1, hb⟩
  unfold WBad at h1
  rw [HE.out] at h1
  subst h1
  go_wp2_with fail
  go_ret2
  exact ⟨pbad_of HE.out, hb⟩

theorem path_good (v : Value) (l : List Mv) (w : World) (h : RdM w v l) (hlong : ¬ 1000 < l.length) (hfar : l.any far = false) :
    Calls Try.prog 10 #[v] w (PGood w l) := by
  have H := Lib.hid (walk_good v l w h hlong hfar)
  clear h hlong hfar
  go_enter Try.func10, Try.ntmps10
  go_wp2_with fail
  refine H.out.mono ?_
  rintro e w1 ⟨v', lk, rfl, hl, ho, hb⟩
  have HG := Lib.hid (show PGood w l (.returned (.tuple #[v', .int .i64 0])) w1 from ⟨v', rfl, ho, hb⟩)
  clear hl ho hb
  go_wp2_with fail
  go_ret2
  exact HG.out

/-- A block of two cells. -/
theorem cells_two {w : World} {b : Nat} {x y : Value} {t : TypeId} (h : w.heap[b]? = some (.cells #[x, y] t (0, 0))) : w.cell? ⟨b, 0, none⟩ = some x ∧ w.cell? ⟨b, 1, none⟩ = some y ∧ w.frozen? ⟨b, 0, none⟩ = false ∧ w.frozen? ⟨b, 1, none⟩ = false := by
  refine ⟨?_, ?_, ?_, ?_⟩ <;> simp [World.cell?, World.frozen?, h]

/-- What Look leaves. -/
def LBad (l : List Mv) (e : Ending) : Prop := e = .returned (.tuple #[.agg #[.int .i64 0, .int .i64 0], .int .i64 (err l)])
theorem lbad_of {l : List Mv} {n : Int} (h : err l = n) : LBad l (.returned (.tuple #[.agg #[.int .i64 0, .int .i64 0], .int .i64 n])) := by unfold LBad; rw [h]
def LGood (l : List Mv) (e : Ending) : Prop := e = .returned (.tuple #[.agg #[.int .i64 (run l).look.1, .int .i64 (run l).look.2], .int .i64 0])

theorem below_two {w w1 w2 : World} {o : Obj} {x y : Value} (h : Below (w.alloc o).heap.size (w.alloc o) w1) (k : Below w1.heap.size w1 w2) : Below w.heap.size w ((w2.setCell ⟨w.heap.size, 0, none⟩ x).setCell ⟨w.heap.size, 1, none⟩ y) := by
  have h1 : Below w.heap.size w w2 := (((Below.refl _ w).alloc (Nat.le_refl _) o).trans (h.mono (by simp))).trans (k.mono (by have := h.size; simp at this; omega))
  exact (h1.setCell (by simp) _).setCell (by simp) _

set_option maxRecDepth 100000 in
theorem look_bad (v : Value) (l : List Mv) (w : World) (h : RdM w v l) (he : err l = 1 ∨ err l = 2) :
    Calls Try.prog 11 #[v] w fun e w' => LBad l e ∧ Below w.heap.size w w' := by
  have hb0 : Below w.heap.size w (w.alloc (.cells #[.int .i64 0, .int .i64 0] 29)) := (Below.refl _ w).alloc (Nat.le_refl _) _
  have H := Lib.hid (walk_bad v l _ (h.below hb0 (Nat.le_refl _)) he)
  clear h hb0
  generalize hE : err l = E at *
  have HE := Lib.hid hE
  clear hE he
  go_enter Try.func11, Try.ntmps11
  go_wp2_with fail
  refine H.out.mono ?_
  rintro e w1 ⟨h1, hb⟩
  unfold WBad at h1
  rw [HE.out] at h1
  subst h1
  go_wp2_with fail
  refine (place _ (0, 0) w1 ⟨0, 0, rfl, is_zero, is_zero⟩ (sm_of (by simp) (by simp)) (sm_of (by simp) (by simp))).mono ?_
  rintro e w2 ⟨he, hb2⟩
  unfold Pl at he
  subst he
  obtain ⟨c1, c2, f1, f2⟩ := cells_two ((hb2.block _ (by have := hb.size; simp at this; omega)).trans ((hb.block w.heap.size (by simp)).trans (heap_alloc_new w _)))
  have HB := Lib.hid (below_two (x := .int .i64 0) (y := .int .i64 0) hb hb2)
  clear hb hb2
  go_wp2_with fail
  exact bodyPost_ret (v := .tuple #[.agg #[.int .i64 0, .int .i64 0], .int .i64 E]) (by simp [results, Try.results11, go_sem, c1, c2]) rfl ⟨lbad_of HE.out, HB.out⟩

set_option maxRecDepth 100000 in
theorem look_good (v : Value) (l : List Mv) (w : World) (h : RdM w v l) (hlong : ¬ 1000 < l.length) (hfar : l.any far = false) :
    Calls Try.prog 11 #[v] w fun e w' => LGood l e ∧ Below w.heap.size w w' := by
  have hb0 : Below w.heap.size w (w.alloc (.cells #[.int .i64 0, .int .i64 0] 29)) := (Below.refl _ w).alloc (Nat.le_refl _) _
  have H := Lib.hid (walk_good v l _ (h.below hb0 (Nat.le_refl _)) hlong hfar)
  have hu := unit_sm (ok_run (B := 1000000) (by omega) l (within_of_err hfar)).unit
  have HG := Lib.hid (show LGood l (.returned (.tuple #[.agg #[.int .i64 (run l).look.1, .int .i64 (run l).look.2], .int .i64 0])) from rfl)
  clear h hb0 hlong hfar
  go_enter Try.func11, Try.ntmps11
  go_wp2_with fail
  refine H.out.mono ?_
  rintro e w1 ⟨v', lk, rfl, hl, -, hb⟩
  generalize (run l).look = d at *
  go_wp2_with fail
  refine (place _ d w1 hl (sm_of (by omega) (by omega)) (sm_of (by omega) (by omega))).mono ?_
  rintro e w2 ⟨he, hb2⟩
  unfold Pl at he
  subst he
  obtain ⟨c1, c2, f1, f2⟩ := cells_two ((hb2.block _ (by have := hb.size; simp at this; omega)).trans ((hb.block w.heap.size (by simp)).trans (heap_alloc_new w _)))
  have HB := Lib.hid (below_two (x := .int .i64 d.1) (y := .int .i64 d.2) hb hb2)
  clear hb hb2 hl
  go_wp2_with fail
  exact bodyPost_ret (v := .tuple #[.agg #[.int .i64 d.1, .int .i64 d.2], .int .i64 0]) (by simp [results, Try.results11, go_sem, c1, c2]) rfl ⟨HG.out, HB.out⟩

/-- Two places compared. -/
theorem eqPlace (w : World) (a b c d : Int) : (binOp .eql 29 (.agg #[.int .i64 a, .int .i64 b]) (.agg #[.int .i64 c, .int .i64 d])).run Try.prog w = .ok (.bool (a == c && b == d)) w := by
  have h1 := run_equalIn_agg (P := Try.prog) w 9999 29 #[.int .i64 a, .int .i64 b] #[.int .i64 c, .int .i64 d] (by kernel_rfl) (by kernel_rfl)
  rw [run_eql_struct, h1]
  by_cases ha : a = c <;> by_cases hb : b = d <;> simp [go_sem, ha, hb]

theorem below_drewN {n : Nat} {w w1 : World} (h : Below n w w1) (k : Nat) : Below n w (w1.drewN k) := ⟨h.os, h.tape, h.output, h.size, h.block⟩

/-- What Closed leaves. -/
def CGood (l : List Mv) (e : Ending) : Prop := e = .returned (.bool ((0 == (run l).pos.1) && (0 == (run l).pos.2)))

theorem OwnP.cells {w : World} {base : Nat} {v : Value} {ps : List Pt} (h : OwnP w base v ps) (h0 : 0 < ps.length) :
    ∃ g cap, v = .slice (some ⟨g, 0, none⟩) ps.length cap ∧ base ≤ g ∧ g < w.heap.size ∧ ps.length ≤ cap ∧ cap ≤ maxLen ∧ ∀ j p, ps[j]? = some p → w.cell? ⟨g, j * 2, none⟩ = some (.int .i64 p.1) ∧ w.cell? ⟨g, j * 2 + 1, none⟩ = some (.int .i64 p.2) := by
  have hc := h
  have hlt := h.lt
  rcases h.2 with ⟨_, hn⟩ | ⟨g, cap, cur, rfl, hb, hg, hn, hm, _⟩
  · omega
  · refine ⟨g, cap, rfl, hb, (hlt g rfl).2, hn, hm, fun j p hp => ?_⟩
    obtain ⟨h1, h2⟩ := Cs_get ps j p hp
    have c1 := World.ownsRow.cells hc (g := g) rfl _ _ h1
    have c2 := World.ownsRow.cells hc (g := g) rfl _ _ h2
    have e : ∀ i, (⟨g, 0, none⟩ : Addr).add i = ⟨g, i, none⟩ := by intro i; unfold Addr.add; split <;> simp_all
    rw [e] at c1 c2
    exact ⟨c1, c2⟩

set_option maxRecDepth 100000 in
theorem closed_good (v : Value) (l : List Mv) (w : World) (h : RdM w v l) (hlong : ¬ 1000 < l.length) (hfar : l.any far = false) :
    Calls Try.prog 15 #[v] w fun e w' => CGood l e ∧ Below w.heap.size w w' := by
  have H := Lib.hid (walk_good v l _ h hlong hfar)
  have ok := ok_run (B := 1000000) (by omega) l (within_of_err hfar)
  have hpl := path_len l s0
  have hpl' : (run l).path.length ≤ 1 + l.length := hpl
  clear h hfar hpl
  have HG := Lib.hid (show CGood l (.returned (.bool ((0 == (run l).pos.1) && (0 == (run l).pos.2)))) from rfl)
  have eq := eqPlace
  obtain ⟨pre, hpre⟩ := ok.last
  obtain ⟨post, hpost⟩ := ok.first
  have hn : 0 < (run l).path.length := by rw [hpost]; simp
  have e0 : (run l).path[0]? = some (0, 0) := by rw [hpost]; rfl
  have e1 : (run l).path[(run l).path.length - 1]? = some (run l).pos := by rw [hpre]; simp
  have E0 := Lib.hid e0
  have E1 := Lib.hid e1
  clear e0 e1 hpre hpost ok
  go_enter Try.func15, Try.ntmps15
  go_wp2_with fail
  refine H.out.mono ?_
  rintro e w1 ⟨v', lk, rfl, hl, ho, hb⟩
  obtain ⟨g, cap, rfl, -, -, hcap, hm, hc⟩ := ho.cells hn
  obtain ⟨c1, c2⟩ := hc _ _ E0.out
  obtain ⟨c3, c4⟩ := hc _ _ E1.out
  have HB := Lib.hid hb
  clear hc ho hl hb
  unfold maxLen at hm
  generalize hN : (run l).path.length = n at *
  generalize hP : (run l).pos = p at *
  have HP := Lib.hid hP
  clear hP
  obtain ⟨m, rfl⟩ : ∃ m, n = m + 1 := ⟨n - 1, by omega⟩
  have HN := Lib.hid hN
  clear hN
  simp only [Nat.add_sub_cancel, Nat.zero_mul, Nat.zero_add] at c1 c2 c3 c4
  go_wp2_with fail
  go_quiet (fail)
  go_wp2
  go_ret
  exact ⟨HG.out, below_drewN HB.out _⟩
end Go.Proofs.Ytjmfgpklemhomab
