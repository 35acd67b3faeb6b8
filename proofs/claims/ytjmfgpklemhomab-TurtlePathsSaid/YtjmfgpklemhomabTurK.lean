/- The document's own path (the reference). -/
import Derived.Test.YtjmfgpklemhomabTurG
import Derived.Test.YtjmfgpklemhomabTurQ
import Derived.RegionTactic
import Derived.BigRegion
namespace Go.Proofs.Ytjmfgpklemhomab
open Go.RowKit TurF TurP

theorem pairInfo : (Try.prog.info? 37).map (fun i => (i.zero, i.size, i.bytes)) = some (some (.agg #[.int .i64 0, .int .i64 0]), 2, 16) := by kernel_rfl

/-- A slice of pairs of the call's own. -/
def OwnA (w : World) (base : Nat) (v : Value) (ps : List Pt) : Prop := w.ownsRow base 37 2 v ps.length (Cs ps)

theorem OwnA.one (w : World) (p : Pt) (base : Nat) (hb : base ≤ w.heap.size) : OwnA (w.alloc (.cells #[.int .i64 p.1, .int .i64 p.2] 37)) base (.slice (some ⟨w.heap.size, 0, none⟩) 1 1) [p] := by
  refine ⟨by simp [Cs], .inr ⟨w.heap.size, 1, #[.int .i64 p.1, .int .i64 p.2], rfl, hb, ?_, by simp, by unfold maxLen; omega, ?_⟩⟩
  · exact heap_alloc_new w _
  · simp [Cs]

theorem OwnA.cells {w : World} {base : Nat} {v : Value} {ps : List Pt} (h : OwnA w base v ps) (h0 : 0 < ps.length) :
    ∃ g cap, v = .slice (some ⟨g, 0, none⟩) ps.length cap ∧ base ≤ g ∧ g < w.heap.size ∧ ps.length ≤ cap ∧ cap ≤ maxLen ∧ ∀ j p, ps[j]? = some p → w.cell? ⟨g, j * 2, none⟩ = some (.int .i64 p.1) ∧ w.cell? ⟨g, j * 2 + 1, none⟩ = some (.int .i64 p.2) := by
  have hc := h
  have hlt := h.lt
  rcases h.2 with ⟨_, hn⟩ | ⟨g, cap, cur, rfl, hb, hg, hn, hm, _⟩
  · omega
  · refine ⟨g, cap, rfl, hb, (hlt g rfl).2, hn, hm, fun j p hp => ?_⟩
    obtain ⟨h1, h2⟩ := Cs_get ps j p hp
    have c1 := World.ownsRow.cells hc (g := g) rfl _ _ h1
    have c2 := World.ownsRow.cells hc (g := g) rfl _ _ h2
    rw [add_none, Nat.zero_add] at c1 c2
    exact ⟨c1, c2⟩

/-- A direction's number. -/
theorem dir_turn (D : Nat) (n : Int) (hD : D < 4) : ∃ E : Nat, E < 4 ∧ ((D : Int) + n.tmod 4 + 4) % 4 = (E : Int) ∧ rot n (rotN D (0, 1)) = rotN E (0, 1) := by
  obtain ⟨t0, t1, t2, t3⟩ := tmod4 n
  refine ⟨((n % 4).toNat + D) % 4, Nat.mod_lt _ (by omega), by omega, ?_⟩
  unfold rot
  rw [rotN_add, rotN_mod]

/-- The reference's answer at a fault, and without. -/
def RBad (l : List Mv) (e : Ending) : Prop := e = .returned (.tuple #[.slice none 0 0, .agg #[.int .i64 0, .int .i64 0], .int .i64 (err l)])
theorem rbad_of {l : List Mv} {n : Int} (h : err l = n) : RBad l (.returned (.tuple #[.slice none 0 0, .agg #[.int .i64 0, .int .i64 0], .int .i64 n])) := by unfold RBad; rw [h]
def RGood (w : World) (l : List Mv) (e : Ending) (w' : World) : Prop := ∃ v, e = .returned (.tuple #[v, .agg #[.int .i64 (run l).look.1, .int .i64 (run l).look.2], .int .i64 0]) ∧ OwnA w' (w.heap.size + 1) v (run l).path ∧ Below w.heap.size w w'

/-- What it leaves. -/
def RPost (w : World) (l : List Mv) (e : Ending) (w' : World) : Prop :=
  (err l ≠ 0 ∧ RBad l e ∧ Below w.heap.size w w') ∨ (err l = 0 ∧ RGood w l e w')

/-- Behind some moves. -/
structure RK (w wr : World) (s : St) (D : Nat) (v : Value) : Prop where
  look : s.look = rotN D (0, 1)
  dir : D < 4
  own : OwnA wr (w.heap.size + 1) v s.path
  below : Below (w.heap.size + 1) (w.alloc (.cells #[.int .i64 0, .int .i64 0] 37)) wr

theorem RK.all {w wr : World} {s : St} {D : Nat} {v : Value} (h : RK w wr s D v) : Below w.heap.size w wr ∧ wr.heap[w.heap.size]? = some (.cells #[.int .i64 0, .int .i64 0] 37 (0, 0)) :=
  ⟨((Below.refl _ w).alloc (Nat.le_refl _) _).trans (h.below.mono (by omega)), (h.below.block _ (by omega)).trans (heap_alloc_new w _)⟩

theorem rk_step {w wr w5 : World} {s : St} {D : Nat} {v v' : Value} {n x y : Int} (h : RK w wr s D v) (hx : x = (go1 s.pos s.look n).1) (hy : y = (go1 s.pos s.look n).2)
    (hown : w5.ownsRow (w.heap.size + 1) 37 2 v' (s.path.length + 1) (Cs s.path ++ [.int .i64 x, .int .i64 y]))
    (hg : (wr.alloc (.cells #[.int .i64 x, .int .i64 y] 37)).grownBy w5 v.ownBlock) : RK w w5 (stp s (false, n)) D v' := by
  have hsz := h.below.size
  simp at hsz
  refine ⟨h.look, h.dir, ?_, (h.below.alloc (by omega) _).grown hg (by simp; omega) (fun k hk => (h.own.lt k hk).1)⟩
  have e : (stp s (false, n)).path = s.path ++ [go1 s.pos s.look n] := rfl
  unfold OwnA
  rw [e, List.length_append, Cs_append]
  subst hx hy
  exact hown

set_option maxHeartbeats 2000000 in
set_option maxRecDepth 100000 in
theorem ref_long (v : Value) (l : List Mv) (w : World) (h : RdM w v l) (hlong : 1000 < l.length) :
    Calls Try.prog 14 #[v] w fun e w' => RBad l e ∧ Below w.heap.size w w' := by
  have HE := Lib.hid (err_long hlong)
  rcases h with ⟨o, c, _, rfl, rfl⟩ | ⟨b, off, c, rfl, h0, h1, h2, h3⟩
  · simp at hlong
  · have hb : Below w.heap.size w (((w.alloc (.cells #[.int .i64 0, .int .i64 0] 37)).setCell ⟨w.heap.size, 0, none⟩ (.int .i64 0)).setCell ⟨w.heap.size, 1, none⟩ (.int .i64 0)) := (((Below.refl _ w).alloc (Nat.le_refl _) _).setCell (by simp) _).setCell (by simp) _
    have HB := Lib.hid ((Below.refl _ w).alloc (Nat.le_refl _) (.cells #[.int .i64 0, .int .i64 0] 37))
    unfold maxLen at h2
    clear hb h3
    go_enter Try.func14, Try.ntmps14
    go_wp2
    exact bodyPost_ret (v := .tuple #[.slice none 0 0, .agg #[.int .i64 0, .int .i64 0], .int .i64 2]) (by simp [results, Try.results14, go_sem]) rfl ⟨rbad_of HE.out, HB.out⟩

set_option maxHeartbeats 4000000 in
set_option maxRecDepth 100000 in
theorem ref_row (b off c : Nat) (l : List Mv) (w : World) (h0 : 0 < l.length) (hl : l.length ≤ c) (hm : c ≤ maxLen) (hc : CellsM w b off l) (hlong : ¬ 1000 < l.length) :
    Calls Try.prog 14 #[.slice (some ⟨b, off, none⟩) l.length c] w (RPost w l) := by
  obtain ⟨i0, hi0, hz0, hz1, hz2⟩ := info_parts pairInfo
  unfold maxLen at hm
  have Hc := Lib.hid hc
  clear hc
  have start : RK w ((w.alloc (.cells #[.int .i64 0, .int .i64 0] 37)).alloc (.cells #[.int .i64 0, .int .i64 0] 37)) s0 0 (.slice (some ⟨w.heap.size + 1, 0, none⟩) 1 1) := by
    refine ⟨rfl, by omega, ?_, (Below.refl _ _).alloc (by simp) _⟩
    have := OwnA.one (w.alloc (.cells #[.int .i64 0, .int .i64 0] 37)) (0, 0) (w.heap.size + 1) (by simp)
    have e : (w.alloc (.cells #[.int .i64 0, .int .i64 0] 37)).heap.size = w.heap.size + 1 := by simp
    rw [e] at this
    exact this
  have ST := Lib.hid start
  clear start
  go_enter Try.func14, Try.ntmps14
  go_wp2
  go_loopw [5, 6, 7, 8, 9] (fun x y d v i wr => ∃ (k D : Nat) (V : Value), k ≤ l.length ∧ i = .int .i64 k ∧ Hid ((l.take k).any far = false) ∧ x = .int .i64 (run (l.take k)).pos.1 ∧ y = .int .i64 (run (l.take k)).pos.2 ∧ d = .int .i64 D ∧ V = v ∧ RK w wr (run (l.take k)) D V) (fun _ _ _ _ i _ => l.length - (intOf i).toNat)
  case atStart => exact ⟨0, 0, _, by omega, rfl, by simp [Hid], rfl, rfl, rfl, rfl, ST.out⟩
  case round =>
    clear ST
    obtain ⟨k, D, v, hk, rfl, hf, rfl, rfl, rfl, rfl, hr⟩ := hrel
    obtain ⟨hbw, hres⟩ := hr.all
    obtain ⟨r1, r2, r3, r4⟩ := cells_two hres
    have hsz := hr.below.size
    simp at hsz
    by_cases hlt : k < l.length
    · obtain ⟨c1, c2⟩ := (CellsM.below Hc.out hbw (Nat.le_refl _)) k l[k] (by simp [hlt])
      have hwk := within_of_err hf.out
      have ok := ok_run (B := 1000000) (by omega) (l.take k) hwk
      have hpl := path_len (l.take k) s0
      rw [show (l.take k).length = k by simp; omega] at ok hpl
      have hpl' : (run (l.take k)).path.length ≤ 1 + k := hpl
      have hx0 := ok.x0
      have hx1 := ok.x1
      have hy0 := ok.y0
      have hy1 := ok.y1
      have HS := Lib.hid (run_take l k hlt)
      have HFS := Lib.hid (far_snoc l k hlt hf.out)
      have HFH := Lib.hid (far_here l k hlt)
      have HRes := Lib.hid hres
      have HBW := Lib.hid hbw
      clear hpl ok hwk hres hbw hf
      generalize run (l.take k) = s at *
      generalize l[k] = m at *
      obtain ⟨t, n⟩ := m
      dsimp only at c1 c2
      rcases t with _ | _
      · have F : far (false, n) = (decide (n < -1000000) || decide (1000000 < n)) := rfl
        have hs3 : Below w.heap.size w ((wr.setCell ⟨w.heap.size, 0, none⟩ (.int .i64 0)).setCell ⟨w.heap.size, 1, none⟩ (.int .i64 0)) := (HBW.out.setCell (by simp) _).setCell (by simp) _
        have HS3 := Lib.hid hs3
        clear hs3
        by_cases h1 : n < -1000000
        · have H1 := HFH.out (by rw [F]; simp [h1])
          have HE := Lib.hid (err_far hlong H1)
          have fin : RPost w l (.returned (.tuple #[.slice none 0 0, .agg #[.int .i64 0, .int .i64 0], .int .i64 1])) ((wr.setCell ⟨w.heap.size, 0, none⟩ (.int .i64 0)).setCell ⟨w.heap.size, 1, none⟩ (.int .i64 0)) := .inl ⟨by rw [HE.out]; omega, rbad_of HE.out, HS3.out⟩
          have FIN := Lib.hid fin
          clear F H1 hr fin
          go_wp2
          exact bodyPost_ret (v := .tuple #[.slice none 0 0, .agg #[.int .i64 0, .int .i64 0], .int .i64 1]) (by simp [results, Try.results14, go_sem, r1, r2]) rfl FIN.out
        · by_cases h2 : 1000000 < n
          · have H1 := HFH.out (by rw [F]; simp [h2])
            have HE := Lib.hid (err_far hlong H1)
            have fin : RPost w l (.returned (.tuple #[.slice none 0 0, .agg #[.int .i64 0, .int .i64 0], .int .i64 1])) ((wr.setCell ⟨w.heap.size, 0, none⟩ (.int .i64 0)).setCell ⟨w.heap.size, 1, none⟩ (.int .i64 0)) := .inl ⟨by rw [HE.out]; omega, rbad_of HE.out, HS3.out⟩
            have FIN := Lib.hid fin
            clear F H1 hr fin
            go_wp2
            exact bodyPost_ret (v := .tuple #[.slice none 0 0, .agg #[.int .i64 0, .int .i64 0], .int .i64 1]) (by simp [results, Try.results14, go_sem, r1, r2]) rfl FIN.out
          · have F2 := Lib.hid (HFS.out (by rw [F]; simp [h1, h2]))
            clear F HFS HFH
            have hD := hr.dir
            obtain rfl | rfl | rfl | rfl : D = 0 ∨ D = 1 ∨ D = 2 ∨ D = 3 := by omega
            · have lk : s.look = rotN 0 (0, 1) := hr.look
              have gx : (s.pos.1 : Int) = (go1 s.pos s.look n).1 := by rw [lk]; simp [go1, rotN, rot1]
              have gy : (s.pos.2 + n : Int) = (go1 s.pos s.look n).2 := by rw [lk]; simp [go1, rotN, rot1]
              have HX := Lib.hid gx
              have HY := Lib.hid gy
              have HRK := Lib.hid hr
              have hown := World.ownsRow.alloc hr.own (.cells #[.int .i64 (s.pos.1), .int .i64 (s.pos.2 + n)] 37)
              clear gx gy hr lk
              go_wp2_with (
                at_builtin
                refine wpList_append_own _ rfl (.tmp 66) (.tmp 70) 36 (by rfl) (w.heap.size + 1) 37 i0 _ 2 16 Try.underlying36 hi0 hz0 hz1 hz2 rfl (by omega) v s.path.length (Cs s.path) (by rfl) hown ⟨wr.heap.size, 0, none⟩ 1 1 [.int .i64 (s.pos.1), .int .i64 (s.pos.2 + n)] (by rfl) (by rfl) (two_cells _ _ _ _) (by simp [Value.oneCell']) (by unfold maxLen; omega) (by omega) (by simp; omega) ?_
                intro v' w5 hown5 hgrow5 _)
              have fin := rk_step HRK.out HX.out HY.out hown5 hgrow5
              rw [← HS.out] at fin
              have FIN := Lib.hid fin
              have QX := Lib.hid (show (s.pos.1 : Int) = (run (l.take (k + 1))).pos.1 by rw [HS.out]; exact HX.out)
              have QY := Lib.hid (show (s.pos.2 + n : Int) = (run (l.take (k + 1))).pos.2 by rw [HS.out]; exact HY.out)
              clear fin hown5 hgrow5 hown
              go_wp2_with fail
              go_roundw
              case rel => exact ⟨k + 1, 0, _, by omega, by go_num, F2, congrArg _ QX.out, congrArg _ QY.out, rfl, rfl, FIN.out⟩
              case measure => simp [intOf]; omega
            · have lk : s.look = rotN 1 (0, 1) := hr.look
              have gx : (s.pos.1 - n : Int) = (go1 s.pos s.look n).1 := by rw [lk]; simp [go1, rotN, rot1]; omega
              have gy : (s.pos.2 : Int) = (go1 s.pos s.look n).2 := by rw [lk]; simp [go1, rotN, rot1]
              have HX := Lib.hid gx
              have HY := Lib.hid gy
              have HRK := Lib.hid hr
              have hown := World.ownsRow.alloc hr.own (.cells #[.int .i64 (s.pos.1 - n), .int .i64 (s.pos.2)] 37)
              clear gx gy hr lk
              go_wp2_with (
                at_builtin
                refine wpList_append_own _ rfl (.tmp 66) (.tmp 70) 36 (by rfl) (w.heap.size + 1) 37 i0 _ 2 16 Try.underlying36 hi0 hz0 hz1 hz2 rfl (by omega) v s.path.length (Cs s.path) (by rfl) hown ⟨wr.heap.size, 0, none⟩ 1 1 [.int .i64 (s.pos.1 - n), .int .i64 (s.pos.2)] (by rfl) (by rfl) (two_cells _ _ _ _) (by simp [Value.oneCell']) (by unfold maxLen; omega) (by omega) (by simp; omega) ?_
                intro v' w5 hown5 hgrow5 _)
              have fin := rk_step HRK.out HX.out HY.out hown5 hgrow5
              rw [← HS.out] at fin
              have FIN := Lib.hid fin
              have QX := Lib.hid (show (s.pos.1 - n : Int) = (run (l.take (k + 1))).pos.1 by rw [HS.out]; exact HX.out)
              have QY := Lib.hid (show (s.pos.2 : Int) = (run (l.take (k + 1))).pos.2 by rw [HS.out]; exact HY.out)
              clear fin hown5 hgrow5 hown
              go_wp2_with fail
              go_roundw
              case rel => exact ⟨k + 1, 1, _, by omega, by go_num, F2, congrArg _ QX.out, congrArg _ QY.out, rfl, rfl, FIN.out⟩
              case measure => simp [intOf]; omega
            · have lk : s.look = rotN 2 (0, 1) := hr.look
              have gx : (s.pos.1 : Int) = (go1 s.pos s.look n).1 := by rw [lk]; simp [go1, rotN, rot1]
              have gy : (s.pos.2 - n : Int) = (go1 s.pos s.look n).2 := by rw [lk]; simp [go1, rotN, rot1]; omega
              have HX := Lib.hid gx
              have HY := Lib.hid gy
              have HRK := Lib.hid hr
              have hown := World.ownsRow.alloc hr.own (.cells #[.int .i64 (s.pos.1), .int .i64 (s.pos.2 - n)] 37)
              clear gx gy hr lk
              go_wp2_with (
                at_builtin
                refine wpList_append_own _ rfl (.tmp 66) (.tmp 70) 36 (by rfl) (w.heap.size + 1) 37 i0 _ 2 16 Try.underlying36 hi0 hz0 hz1 hz2 rfl (by omega) v s.path.length (Cs s.path) (by rfl) hown ⟨wr.heap.size, 0, none⟩ 1 1 [.int .i64 (s.pos.1), .int .i64 (s.pos.2 - n)] (by rfl) (by rfl) (two_cells _ _ _ _) (by simp [Value.oneCell']) (by unfold maxLen; omega) (by omega) (by simp; omega) ?_
                intro v' w5 hown5 hgrow5 _)
              have fin := rk_step HRK.out HX.out HY.out hown5 hgrow5
              rw [← HS.out] at fin
              have FIN := Lib.hid fin
              have QX := Lib.hid (show (s.pos.1 : Int) = (run (l.take (k + 1))).pos.1 by rw [HS.out]; exact HX.out)
              have QY := Lib.hid (show (s.pos.2 - n : Int) = (run (l.take (k + 1))).pos.2 by rw [HS.out]; exact HY.out)
              clear fin hown5 hgrow5 hown
              go_wp2_with fail
              go_roundw
              case rel => exact ⟨k + 1, 2, _, by omega, by go_num, F2, congrArg _ QX.out, congrArg _ QY.out, rfl, rfl, FIN.out⟩
              case measure => simp [intOf]; omega
            · have lk : s.look = rotN 3 (0, 1) := hr.look
              have gx : (s.pos.1 + n : Int) = (go1 s.pos s.look n).1 := by rw [lk]; simp [go1, rotN, rot1]
              have gy : (s.pos.2 : Int) = (go1 s.pos s.look n).2 := by rw [lk]; simp [go1, rotN, rot1]
              have HX := Lib.hid gx
              have HY := Lib.hid gy
              have HRK := Lib.hid hr
              have hown := World.ownsRow.alloc hr.own (.cells #[.int .i64 (s.pos.1 + n), .int .i64 (s.pos.2)] 37)
              clear gx gy hr lk
              go_wp2_with (
                at_builtin
                refine wpList_append_own _ rfl (.tmp 66) (.tmp 70) 36 (by rfl) (w.heap.size + 1) 37 i0 _ 2 16 Try.underlying36 hi0 hz0 hz1 hz2 rfl (by omega) v s.path.length (Cs s.path) (by rfl) hown ⟨wr.heap.size, 0, none⟩ 1 1 [.int .i64 (s.pos.1 + n), .int .i64 (s.pos.2)] (by rfl) (by rfl) (two_cells _ _ _ _) (by simp [Value.oneCell']) (by unfold maxLen; omega) (by omega) (by simp; omega) ?_
                intro v' w5 hown5 hgrow5 _)
              have fin := rk_step HRK.out HX.out HY.out hown5 hgrow5
              rw [← HS.out] at fin
              have FIN := Lib.hid fin
              have QX := Lib.hid (show (s.pos.1 + n : Int) = (run (l.take (k + 1))).pos.1 by rw [HS.out]; exact HX.out)
              have QY := Lib.hid (show (s.pos.2 : Int) = (run (l.take (k + 1))).pos.2 by rw [HS.out]; exact HY.out)
              clear fin hown5 hgrow5 hown
              go_wp2_with fail
              go_roundw
              case rel => exact ⟨k + 1, 3, _, by omega, by go_num, F2, congrArg _ QX.out, congrArg _ QY.out, rfl, rfl, FIN.out⟩
              case measure => simp [intOf]; omega
      · obtain ⟨E, hE, e1, e2⟩ := dir_turn D n hr.dir
        obtain ⟨t0, t1, _, _⟩ := tmod4 n
        have hDl := hr.dir
        have fin : RK w wr (stp s (true, n)) E v := ⟨by show rot n s.look = _; rw [hr.look, e2], hE, hr.own, hr.below⟩
        rw [← HS.out] at fin
        have FIN := Lib.hid fin
        have F2 := Lib.hid (HFS.out rfl)
        have hp : (run (l.take (k + 1))).pos = s.pos := by rw [HS.out]; rfl
        have HP := Lib.hid hp
        clear fin e2 hr HFS HFH hp
        go_wp2
        exact ⟨⟨k + 1, E, _, by omega, by go_num, F2, by rw [HP.out], by rw [HP.out], congrArg _ e1, rfl, FIN.out⟩, by simp [intOf]; omega⟩
    · have e : l.take k = l := List.take_of_length_le (by omega)
      rw [e] at hr hf
      rw [e]
      have HE := Lib.hid (err_ok hlong hf.out)
      have hD := hr.dir
      clear e hf
      have hcell : ∀ o : Nat, o < 2 → (wr.alloc (.cells #[.int .i64 0, .int .i64 1, .int .i64 (-1), .int .i64 0, .int .i64 0, .int .i64 (-1), .int .i64 1, .int .i64 0] 37)).heap[w.heap.size]? = some (.cells #[.int .i64 0, .int .i64 0] 37 (0, 0)) := fun _ _ => (Below.heap_alloc _ _ _ (lt_of_block hres)).trans hres
      obtain ⟨q1, q2, q3, q4⟩ := cells_two (hcell 0 (by omega))
      clear hcell
      have hbe : ∀ x y : Int, Below w.heap.size w (((wr.alloc (.cells #[.int .i64 0, .int .i64 1, .int .i64 (-1), .int .i64 0, .int .i64 0, .int .i64 (-1), .int .i64 1, .int .i64 0] 37)).setCell ⟨w.heap.size, 0, none⟩ (.int .i64 x)).setCell ⟨w.heap.size, 1, none⟩ (.int .i64 y)) :=
        fun x y => ((hbw.alloc (by have := hbw.size; omega) _).setCell (by simp) _).setCell (by simp) _
      have hownE : ∀ x y : Int, OwnA (((wr.alloc (.cells #[.int .i64 0, .int .i64 1, .int .i64 (-1), .int .i64 0, .int .i64 0, .int .i64 (-1), .int .i64 1, .int .i64 0] 37)).setCell ⟨w.heap.size, 0, none⟩ (.int .i64 x)).setCell ⟨w.heap.size, 1, none⟩ (.int .i64 y)) (w.heap.size + 1) v (run l).path := by
        intro x y
        have h1 : OwnA (wr.alloc (.cells #[.int .i64 0, .int .i64 1, .int .i64 (-1), .int .i64 0, .int .i64 0, .int .i64 (-1), .int .i64 1, .int .i64 0] 37)) (w.heap.size + 1) v (run l).path := World.ownsRow.alloc hr.own _
        have hne : ∀ g, v.ownBlock = some g → g ≠ w.heap.size := fun g hg => by have := (hr.own.lt g hg).1; omega
        exact ownsRow_setCell_other (ownsRow_setCell_other h1 (fun hg => hne _ hg rfl) _) (fun hg => hne _ hg rfl) _
      have HBE := Lib.hid hbe
      have HOE := Lib.hid hownE
      clear hbe hownE hbw
      obtain rfl | rfl | rfl | rfl : D = 0 ∨ D = 1 ∨ D = 2 ∨ D = 3 := by omega
      · have fin : RPost w l (.returned (.tuple #[v, .agg #[.int .i64 (0), .int .i64 (1)], .int .i64 0])) (((wr.alloc (.cells #[.int .i64 0, .int .i64 1, .int .i64 (-1), .int .i64 0, .int .i64 0, .int .i64 (-1), .int .i64 1, .int .i64 0] 37)).setCell ⟨w.heap.size, 0, none⟩ (.int .i64 (0))).setCell ⟨w.heap.size, 1, none⟩ (.int .i64 (1))).drew := by
          refine .inr ⟨HE.out, v, ?_, HOE.out _ _, (HBE.out _ _).drew⟩
          rw [hr.look]
          rfl
        have FIN := Lib.hid fin
        clear fin hr
        go_wp2
        go_region
        go_wp2
        exact bodyPost_ret (v := .tuple #[v, .agg #[.int .i64 (0), .int .i64 (1)], .int .i64 0]) (by simp [results, Try.results14, go_sem, q1, q2]) rfl FIN.out
      · have fin : RPost w l (.returned (.tuple #[v, .agg #[.int .i64 (-1), .int .i64 (0)], .int .i64 0])) (((wr.alloc (.cells #[.int .i64 0, .int .i64 1, .int .i64 (-1), .int .i64 0, .int .i64 0, .int .i64 (-1), .int .i64 1, .int .i64 0] 37)).setCell ⟨w.heap.size, 0, none⟩ (.int .i64 (-1))).setCell ⟨w.heap.size, 1, none⟩ (.int .i64 (0))).drew := by
          refine .inr ⟨HE.out, v, ?_, HOE.out _ _, (HBE.out _ _).drew⟩
          rw [hr.look]
          rfl
        have FIN := Lib.hid fin
        clear fin hr
        go_wp2
        go_region
        go_wp2
        exact bodyPost_ret (v := .tuple #[v, .agg #[.int .i64 (-1), .int .i64 (0)], .int .i64 0]) (by simp [results, Try.results14, go_sem, q1, q2]) rfl FIN.out
      · have fin : RPost w l (.returned (.tuple #[v, .agg #[.int .i64 (0), .int .i64 (-1)], .int .i64 0])) (((wr.alloc (.cells #[.int .i64 0, .int .i64 1, .int .i64 (-1), .int .i64 0, .int .i64 0, .int .i64 (-1), .int .i64 1, .int .i64 0] 37)).setCell ⟨w.heap.size, 0, none⟩ (.int .i64 (0))).setCell ⟨w.heap.size, 1, none⟩ (.int .i64 (-1))).drew := by
          refine .inr ⟨HE.out, v, ?_, HOE.out _ _, (HBE.out _ _).drew⟩
          rw [hr.look]
          rfl
        have FIN := Lib.hid fin
        clear fin hr
        go_wp2
        go_region
        go_wp2
        exact bodyPost_ret (v := .tuple #[v, .agg #[.int .i64 (0), .int .i64 (-1)], .int .i64 0]) (by simp [results, Try.results14, go_sem, q1, q2]) rfl FIN.out
      · have fin : RPost w l (.returned (.tuple #[v, .agg #[.int .i64 (1), .int .i64 (0)], .int .i64 0])) (((wr.alloc (.cells #[.int .i64 0, .int .i64 1, .int .i64 (-1), .int .i64 0, .int .i64 0, .int .i64 (-1), .int .i64 1, .int .i64 0] 37)).setCell ⟨w.heap.size, 0, none⟩ (.int .i64 (1))).setCell ⟨w.heap.size, 1, none⟩ (.int .i64 (0))).drew := by
          refine .inr ⟨HE.out, v, ?_, HOE.out _ _, (HBE.out _ _).drew⟩
          rw [hr.look]
          rfl
        have FIN := Lib.hid fin
        clear fin hr
        go_wp2
        go_region
        go_wp2
        exact bodyPost_ret (v := .tuple #[v, .agg #[.int .i64 (1), .int .i64 (0)], .int .i64 0]) (by simp [results, Try.results14, go_sem, q1, q2]) rfl FIN.out
end Go.Proofs.Ytjmfgpklemhomab
