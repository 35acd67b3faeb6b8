/- The turtle's walk: walk. -/
import Derived.Test.YtjmfgpklemhomabTurC
namespace Go.Proofs.Ytjmfgpklemhomab
open Go.RowKit TurF TurP

/-- Places as values. -/
def Cs : List Pt → List Value
  | [] => []
  | p :: ps => .int .i64 p.1 :: .int .i64 p.2 :: Cs ps
theorem Cs_length (ps : List Pt) : (Cs ps).length = ps.length * 2 := by
  induction ps with
  | nil => rfl
  | cons p ps ih => simp only [Cs, List.length_cons, ih]; omega
theorem Cs_append (a b : List Pt) : Cs (a ++ b) = Cs a ++ Cs b := by
  induction a with
  | nil => rfl
  | cons p ps ih => simp only [List.cons_append, Cs, ih]
theorem Cs_get (ps : List Pt) : ∀ j p, ps[j]? = some p → (Cs ps)[j * 2]? = some (.int .i64 p.1) ∧ (Cs ps)[j * 2 + 1]? = some (.int .i64 p.2) := by
  induction ps with
  | nil => intro j p h; simp at h
  | cons q ps ih =>
    intro j p h
    cases j with
    | zero => simp at h; subst h; exact ⟨rfl, rfl⟩
    | succ j =>
      have := ih j p (by simpa using h)
      rw [show (j + 1) * 2 = j * 2 + 1 + 1 by omega]
      simp only [Cs, List.getElem?_cons_succ]
      exact this

theorem placeInfo : (Try.prog.info? 29).map (fun i => (i.zero, i.size, i.bytes)) = some (some (.agg #[.int .i64 0, .int .i64 0]), 2, 16) := by kernel_rfl

/-- A slice of places of the call's own. -/
def OwnP (w : World) (base : Nat) (v : Value) (ps : List Pt) : Prop := w.ownsRow base 29 2 v ps.length (Cs ps)

theorem OwnP.one (w : World) (p : Pt) (base : Nat) (hb : base ≤ w.heap.size) : OwnP (w.alloc (.cells #[.int .i64 p.1, .int .i64 p.2] 29)) base (.slice (some ⟨w.heap.size, 0, none⟩) 1 1) [p] := by
  refine ⟨by simp [Cs], .inr ⟨w.heap.size, 1, #[.int .i64 p.1, .int .i64 p.2], rfl, hb, ?_, by simp, by unfold maxLen; omega, ?_⟩⟩
  · exact heap_alloc_new w _
  · simp [Cs]

theorem own_below {w w' : World} {base n k : Nat} {e : TypeId} {size : Nat} {v : Value} {xs : List Value} (h : w.ownsRow base e size v n xs) (hb : Below k w w') (hk : w.heap.size ≤ k) : w'.ownsRow base e size v n xs := by
  refine ⟨h.1, ?_⟩
  rcases h.2 with hn | ⟨g, cap, cur, rfl, hbb, hg, rest⟩
  · exact .inl hn
  · exact .inr ⟨g, cap, cur, rfl, hbb, (hb.block g (by have := (Array.getElem?_eq_some_iff.1 hg).1; omega)).trans hg, rest⟩

/-- A new block of two cells. -/
theorem two_cells (w : World) (x y : Value) (t : TypeId) : ∀ j u, [x, y][j]? = some u → (w.alloc (.cells #[x, y] t)).cell? ((⟨w.heap.size, 0, none⟩ : Addr).add j) = some u := by
  intro j u hj
  exact World.news_of_block (heap_alloc_new w _) j u (by simpa using hj)

/-- What the walk has behind some moves. -/
structure WK (w wr : World) (s : St) (pos lk v : Value) : Prop where
  pos : Cx pos s.pos
  look : Cx lk s.look
  own : OwnP wr w.heap.size v s.path
  below : Below w.heap.size w wr

/-- The fault's three results. -/
def WBad (l : List Mv) (e : Ending) : Prop := e = .returned (.tuple #[.slice none 0 0, .complex .f64 0 0, .int .i64 (err l)])
theorem wbad_of {l : List Mv} {n : Int} (h : err l = n) : WBad l (.returned (.tuple #[.slice none 0 0, .complex .f64 0 0, .int .i64 n])) := by unfold WBad; rw [h]

set_option maxHeartbeats 2000000 in
set_option maxRecDepth 100000 in
theorem walk_bad (v : Value) (l : List Mv) (w : World) (h : RdM w v l) (he : err l = 1 ∨ err l = 2) :
    Calls Try.prog 17 #[v] w fun e w' => WBad l e ∧ Below w.heap.size w w' := by
  have H := Lib.hid (check v l w h)
  clear h
  rcases he with he | he
  all_goals
    have HE := Lib.hid he
    clear he
    go_enter Try.func17, Try.ntmps17
    go_wp2_with fail
    refine H.out.mono ?_
    rintro e w1 ⟨h1, hb⟩
    unfold Checked at h1
    rw [HE.out] at h1
    subst h1
    go_wp2_with fail
    go_ret3
    exact ⟨wbad_of HE.out, hb⟩

/-- The new position. -/
theorem go1_num {re im a b : Nat} {p d : Pt} {n : Int} (hp : IsC re im p.1 p.2) (hd : IsC a b d.1 d.2) (hu : Unit4 d) (hn : -1000000 ≤ n ∧ n ≤ 1000000)
    (hx : -1000000000 ≤ p.1 ∧ p.1 ≤ 1000000000) (hy : -1000000000 ≤ p.2 ∧ p.2 ≤ 1000000000) :
    ∃ r i r' i', cMulBits a b (floatOfInt .f64 n) 0 = some (r, i) ∧ cSumBits .add .f64 re im r i = some (r', i') ∧ IsC r' i' (go1 p d n).1 (go1 p d n).2 := by
  have hdn : (-1000000 ≤ d.1 * n ∧ d.1 * n ≤ 1000000) ∧ (-1000000 ≤ d.2 * n ∧ d.2 * n ≤ 1000000) := by
    rcases hu with hu | hu | hu | hu <;> rw [hu] <;> dsimp only <;> omega
  obtain ⟨r, i, hm, hi⟩ := isC_mul hd (⟨is_int n (sm_of (by omega) (by omega)), is_zero⟩ : IsC (floatOfInt .f64 n) 0 n 0) (sm_of (by omega) (by omega)) (sm_of (by omega) (by omega)) (sm_of (by omega) (by omega)) (sm_of (by omega) (by omega)) (sm_of (by omega) (by omega)) (sm_of (by omega) (by omega))
  have e1 : d.1 * n - d.2 * 0 = d.1 * n := by omega
  have e2 : d.1 * 0 + d.2 * n = d.2 * n := by omega
  rw [e1, e2] at hi
  obtain ⟨r', i', hs, hi'⟩ := isC_add hp hi (sm_of (by omega) (by omega)) (sm_of (by omega) (by omega))
  exact ⟨r, i, r', i', hm, hs, hi'⟩

/-- What a walk without fault leaves. -/
def WGood (w : World) (l : List Mv) (e : Ending) (w' : World) : Prop := ∃ v lk, e = .returned (.tuple #[v, lk, .int .i64 0]) ∧ Cx lk (run l).look ∧ OwnP w' w.heap.size v (run l).path ∧ Below w.heap.size w w'

theorem WK.good {w wr : World} {l : List Mv} {p lk v : Value} (h : WK w wr (run l) p lk v) : WGood w l (.returned (.tuple #[v, lk, .int .i64 0])) wr := ⟨_, _, rfl, h.look, h.own, h.below⟩

theorem path_len (l : List Mv) : ∀ s : St, (runs s l).path.length ≤ s.path.length + l.length := by
  induction l with
  | nil => intro s; simp [runs]
  | cons a l ih =>
    intro s
    have := ih (stp s a)
    rw [runs_cons, List.length_cons]
    have e : (stp s a).path.length ≤ s.path.length + 1 := by
      unfold stp
      split
      · simp
      · simp
    omega

set_option maxHeartbeats 400000 in
set_option maxRecDepth 100000 in
theorem walk_row (b off c : Nat) (l : List Mv) (w : World) (h0 : 0 < l.length) (hl : l.length ≤ c) (hm : c ≤ maxLen) (hc : CellsM w b off l) (hlong : ¬ 1000 < l.length) (hfar : l.any far = false) :
    Calls Try.prog 17 #[.slice (some ⟨b, off, none⟩) l.length c] w (WGood w l) := by
  obtain ⟨i0, hi0, hz0, hz1, hz2⟩ := info_parts placeInfo
  have H := Lib.hid (check (.slice (some ⟨b, off, none⟩) l.length c) l w (.inr ⟨b, off, c, rfl, h0, hl, hm, hc⟩))
  have HE := Lib.hid (err_ok hlong hfar)
  unfold maxLen at hm
  have Hc := Lib.hid hc
  have HW := Lib.hid (within_of_err hfar)
  clear hc
  go_enter Try.func17, Try.ntmps17
  go_wp2_with fail
  refine H.out.mono ?_
  rintro e w1 ⟨h1, hb1⟩
  unfold Checked at h1
  rw [HE.out] at h1
  subst h1
  have hs1 := hb1.size
  go_wp2_with fail
  refine (place _ (0, 0) w1 ⟨0, 0, rfl, is_zero, is_zero⟩ (sm_of (by simp) (by simp)) (sm_of (by simp) (by simp))).mono ?_
  rintro e w2 ⟨he, hb2⟩
  unfold Pl at he
  subst he
  have hb : Below w.heap.size w w2 := hb1.trans (hb2.mono hs1)
  have hs2 : w.heap.size ≤ w2.heap.size := hb.size
  have start : WK w (w2.alloc (.cells #[.int .i64 0, .int .i64 0] 29)) s0 (.complex .f64 0 0) (.complex .f64 0 4607182418800017408) (.slice (some ⟨w2.heap.size, 0, none⟩) 1 1) :=
    ⟨⟨0, 0, rfl, is_zero, is_zero⟩, ⟨0, _, rfl, is_zero, is_one⟩, OwnP.one w2 (0, 0) _ hs2, hb.alloc hs2 _⟩
  have ST := Lib.hid start
  clear start hb1 hb2 hb
  go_wp2_with fail
  go_loopw [6, 7, 8, 21] (fun pos lk v i wr => ∃ (k : Nat) (P L V : Value), k ≤ l.length ∧ i = .int .i64 k ∧ P = pos ∧ L = lk ∧ V = v ∧ WK w wr (run (l.take k)) P L V) (fun _ _ _ i _ => l.length - (intOf i).toNat)
  case atStart => exact ⟨0, _, _, _, by omega, rfl, rfl, rfl, rfl, ST.out⟩
  case round =>
    clear ST
    obtain ⟨k, pos, lk, v, hk, rfl, rfl, rfl, rfl, hr⟩ := hrel
    by_cases hlt : k < l.length
    · obtain ⟨c1, c2⟩ := (CellsM.below Hc.out hr.below (Nat.le_refl _)) k l[k] (by simp [hlt])
      have hsz := hr.below.size
      have HS := Lib.hid (run_take l k hlt)
      have hw := HW.out l[k] (List.getElem_mem _)
      have ok := ok_run (B := 1000000) (by omega) (l.take k) (within_take HW.out k)
      have hpl := path_len (l.take k) s0
      rw [show (l.take k).length = k by simp; omega] at ok hpl
      have hpl' : (run (l.take k)).path.length ≤ 1 + k := hpl
      generalize run (l.take k) = s at *
      generalize l[k] = m at *
      obtain ⟨t, n⟩ := m
      dsimp only at c1 c2 hw
      obtain ⟨hpos, hlook, hown, hbel⟩ := hr
      rcases t with _ | _
      · obtain ⟨n0, n1⟩ := hw rfl
        obtain ⟨re, im, rfl, hp⟩ := hpos
        obtain ⟨la, lb, rfl, hd⟩ := hlook
        have hx0 := ok.x0
        have hx1 := ok.x1
        have hy0 := ok.y0
        have hy1 := ok.y1
        obtain ⟨r, i, r', i', hm, hs, hi'⟩ := go1_num hp hd ok.unit ⟨n0, n1⟩ ⟨by omega, by omega⟩ ⟨by omega, by omega⟩
        have ok' := ok_stp (m := (false, n)) ok (by omega) (fun _ => ⟨n0, n1⟩)
        have hg0 := ok'.x0
        have hg1 := ok'.x1
        have hg2 := ok'.y0
        have hg3 := ok'.y1
        have e1 : (stp s (false, n)).pos = go1 s.pos s.look n := rfl
        rw [e1] at hg0 hg1 hg2 hg3
        have cv : ∀ w : World, (convert 2 53 (.int .i64 n)).run Try.prog w = .ok (.float .f64 (floatOfInt .f64 n)) w := fun w => run_convert_int_float w _ _ _ _ _ (by kernel_rfl) (by kernel_rfl)
        have cm := fun w : World => run_complex_mul (P := Try.prog) w 47 _ _ _ _ _ _ hm
        have ca := fun w : World => run_complex_sum (P := Try.prog) w .add (.inl rfl) 47 .f64 _ _ _ _ _ _ hs
        have cp := fun w : World => place (.complex .f64 r' i') (go1 s.pos s.look n) w ⟨_, _, rfl, hi'⟩ (sm_of (by omega) (by omega)) (sm_of (by omega) (by omega))
        have CP := Lib.hid cp
        have HO := Lib.hid hown
        have HB := Lib.hid hbel
        clear hm hs hp cp hown hbel e1
        go_wp2_with fail
        refine (CP.out _).mono ?_
        rintro e w3 ⟨he, hb3⟩
        unfold Pl at he
        subst he
        have ho3 : w3.ownsRow w.heap.size 29 2 v s.path.length (Cs s.path) := own_below (World.ownsRow.alloc HO.out _) hb3 (Nat.le_refl _)
        have hb4 : Below w.heap.size w w3 := ((HB.out.alloc hsz _)).trans (hb3.mono (by simp; omega))
        have hsz3 := hb4.size
        have HB4 := Lib.hid hb4
        clear hb3 hb4
        go_wp2_with (
          at_builtin
          refine wpList_append_own _ rfl (.tmp 39) (.tmp 42) 24 (by rfl) w.heap.size 29 i0 _ 2 16 Try.underlying24 hi0 hz0 hz1 hz2 rfl (by omega) v s.path.length (Cs s.path) (by rfl) (ho3.alloc _) ⟨w3.heap.size, 0, none⟩ 1 1 [.int .i64 (go1 s.pos s.look n).1, .int .i64 (go1 s.pos s.look n).2] (by rfl) (by rfl) (two_cells _ _ _ _) (by simp [Value.oneCell']) (by unfold maxLen; omega) (by omega) (by simp; omega) ?_
          intro v' w5 hown5 hgrow5 _)
        have fin : WK w w5 (stp s (false, n)) (.complex .f64 r' i') (.complex .f64 la lb) v' := by
          refine ⟨⟨_, _, rfl, hi'⟩, ⟨_, _, rfl, hd⟩, ?_, ?_⟩
          · have e : (stp s (false, n)).path = s.path ++ [go1 s.pos s.look n] := rfl
            unfold OwnP
            rw [e, List.length_append, Cs_append]
            exact hown5
          · exact (HB4.out.alloc hsz3 _).grown hgrow5 (by simp; omega) (fun k hk => (ho3.lt k hk).1)
        rw [← HS.out] at fin
        have FIN := Lib.hid fin
        clear fin hown5 hgrow5 ho3 ok ok'
        go_wp2_with fail
        go_roundw
        case rel => exact ⟨k + 1, _, _, _, by omega, by go_num, rfl, rfl, rfl, FIN.out⟩
        case measure => simp [intOf]; omega
      · have HT := Lib.hid (turned lk s.look n (wr.alloc (.cells #[.bool true, .int .i64 n] 43)) hlook ok.unit)
        have HO := Lib.hid hown
        have HB := Lib.hid hbel
        have HP := Lib.hid hpos
        clear hown hbel hpos hlook ok
        go_wp2_with fail
        refine HT.out.mono ?_
        rintro e w3 ⟨⟨lk', rfl, hl'⟩, rfl⟩
        have fin : WK w (wr.alloc (.cells #[.bool true, .int .i64 n] 43)) (stp s (true, n)) pos lk' v :=
          ⟨HP.out, hl', World.ownsRow.alloc HO.out _, HB.out.alloc hsz _⟩
        rw [← HS.out] at fin
        have FIN := Lib.hid fin
        clear fin hl'
        go_wp2_with fail
        go_roundw
        case rel => exact ⟨k + 1, _, _, _, by omega, by go_num, rfl, rfl, rfl, FIN.out⟩
        case measure => simp [intOf]; omega
    · have e : l.take k = l := List.take_of_length_le (by omega)
      rw [e] at hr
      have hg := hr.good
      have HG := Lib.hid hg
      clear e hr hg
      go_wp2_with fail
      go_ret3
      exact HG.out
end Go.Proofs.Ytjmfgpklemhomab
