/- The turtle's laws, in plain words. -/
import Derived.Test.YtjmfgpklemhomabTurP
namespace TurP

theorem turns_path (m : List Mv) (n k a : Int) (h : a % 4 = (n + k) % 4) : (run (m ++ [(true, n), (true, k), (false, 5)])).path = (run (m ++ [(true, a), (false, 5)])).path := by
  unfold run
  rw [runs_append, runs_append]
  generalize runs s0 m = s
  have e : rot k (rot n s.look) = rot a s.look := by rw [rot_add]; exact rot_of _ _ _ (by omega)
  simp [runs, stp, e]

/-- Turned so that (0, 1) is d, and moved by z. -/
def T (z d q : Pt) : Pt := (z.1 + q.1 * d.2 + q.2 * d.1, z.2 - q.1 * d.1 + q.2 * d.2)

theorem T_go1 (z d p u : Pt) (n : Int) : T z d (go1 p u n) = go1 (T z d p) (T (0, 0) d u) n := by
  unfold T go1
  simp only [Prod.mk.injEq]
  constructor <;> grind
theorem T_rot1 (d u : Pt) : T (0, 0) d (rot1 u) = rot1 (T (0, 0) d u) := by
  unfold T rot1
  simp only [Prod.mk.injEq]
  constructor <;> grind
theorem T_rotN (d u : Pt) (k : Nat) : T (0, 0) d (rotN k u) = rotN k (T (0, 0) d u) := by
  induction k with
  | zero => rfl
  | succ k ih => simp only [rotN, T_rot1, ih]
theorem T_rot (d u : Pt) (n : Int) : T (0, 0) d (rot n u) = rot n (T (0, 0) d u) := T_rotN d u _

/-- One walk is another one, moved and turned. -/
structure Like (pre : List Pt) (z d : Pt) (s t : St) : Prop where
  path : s.path = pre ++ t.path.map (T z d)
  pos : s.pos = T z d t.pos
  look : s.look = T (0, 0) d t.look

theorem like_stp {pre : List Pt} {z d : Pt} {s t : St} (h : Like pre z d s t) (m : Mv) : Like pre z d (stp s m) (stp t m) := by
  unfold stp
  split
  · exact ⟨h.path, h.pos, by rw [T_rot, h.look]⟩
  · refine ⟨?_, ?_, h.look⟩
    · show s.path ++ _ = pre ++ (t.path ++ _).map _
      rw [List.map_append, ← List.append_assoc, ← h.path, List.map_singleton, T_go1, ← h.pos, ← h.look]
    · show go1 _ _ _ = T z d (go1 _ _ _)
      rw [T_go1, ← h.pos, ← h.look]
theorem like_runs {pre : List Pt} {z d : Pt} (l : List Mv) : ∀ {s t : St}, Like pre z d s t → Like pre z d (runs s l) (runs t l) := by
  induction l with
  | nil => intro s t h; exact h
  | cons a l ih => intro s t h; exact ih (like_stp h a)

theorem joins (x y : List Mv) : ∃ pre, (run x).path = pre ++ [(run x).pos] ∧ Like pre (run x).pos (run x).look (run (x ++ y)) (run y) := by
  have hl : ∀ (l : List Mv) (s : St), (∃ pre, s.path = pre ++ [s.pos]) → ∃ pre, (runs s l).path = pre ++ [(runs s l).pos] := by
    intro l
    induction l with
    | nil => intro s h; exact h
    | cons a l ih =>
      intro s h
      refine ih (stp s a) ?_
      unfold stp
      split
      · exact h
      · exact ⟨s.path, rfl⟩
  obtain ⟨pre, hpre⟩ := hl x s0 ⟨[], rfl⟩
  refine ⟨pre, hpre, ?_⟩
  have e : run (x ++ y) = runs (run x) y := runs_append s0 x y
  rw [e]
  refine like_runs y ⟨?_, ?_, ?_⟩
  · show (runs s0 x).path = pre ++ [T (run x).pos (run x).look (0, 0)]
    rw [hpre]
    simp [T, run]
  · simp [T, s0]
  · simp [T, s0]

/-- The sum of the turns. -/
def turnsOf : List Mv → Int
  | [] => 0
  | m :: l => (if m.1 then m.2 else 0) + turnsOf l
theorem turnsOf_append (a b : List Mv) : turnsOf (a ++ b) = turnsOf a + turnsOf b := by
  induction a with
  | nil => simp [turnsOf]
  | cons x a ih => simp only [List.cons_append, turnsOf, ih]; omega
theorem look_runs (l : List Mv) : ∀ s : St, (runs s l).look = rot (turnsOf l) s.look := by
  induction l with
  | nil => intro s; rfl
  | cons a l ih =>
    intro s
    rw [runs_cons, ih]
    obtain ⟨t, n⟩ := a
    cases t
    · show rot (turnsOf l) s.look = rot (0 + turnsOf l) s.look
      rw [Int.zero_add]
    · show rot (turnsOf l) (rot n s.look) = rot (n + turnsOf l) s.look
      rw [rot_add, Int.add_comm]

theorem rot_one (d : Pt) : rot 1 d = rot1 d := rfl

/-- Moves, and a quarter to the left behind them. -/
def quarter (m : List Mv) : List Mv := m ++ [(true, 1 - turnsOf m)]
theorem quarter_run {pre : List Pt} {z d : Pt} (m : List Mv) (s : St) (h : Like pre z d s s0) :
    (runs s (quarter m)).pos = T z d (run m).pos ∧ (runs s (quarter m)).look = rot1 s.look := by
  have h1 := like_runs (quarter m) h
  have h2 : (runs s0 (quarter m)).pos = (run m).pos := by unfold quarter run; rw [runs_append]; rfl
  refine ⟨?_, ?_⟩
  · rw [h1.pos, h2]
  · have ht : turnsOf (quarter m) = 1 := by
      unfold quarter
      rw [turnsOf_append]
      simp only [turnsOf, if_true]
      omega
    rw [look_runs, ht]
    rfl

theorem like_at (s : St) (h : ∃ pre, s.path = pre ++ [s.pos]) : ∃ pre, Like pre s.pos s.look s s0 := by
  obtain ⟨pre, hp⟩ := h
  refine ⟨pre, ?_, ?_, ?_⟩
  · rw [hp]; simp [T, s0]
  · simp [T, s0]
  · simp [T, s0]

theorem last_runs (l : List Mv) : ∀ s : St, (∃ pre, s.path = pre ++ [s.pos]) → ∃ pre, (runs s l).path = pre ++ [(runs s l).pos] := by
  induction l with
  | nil => intro s h; exact h
  | cons a l ih =>
    intro s h
    refine ih (stp s a) ?_
    unfold stp
    split
    · exact h
    · exact ⟨s.path, rfl⟩

theorem fours (m : List Mv) : (run (quarter m ++ quarter m ++ quarter m ++ quarter m)).pos = (0, 0) ∧ (run (quarter m ++ quarter m ++ quarter m ++ quarter m)).look = (0, 1) := by
  unfold run
  rw [runs_append, runs_append, runs_append]
  generalize h1 : runs s0 (quarter m) = s1
  generalize h2 : runs s1 (quarter m) = s2
  generalize h3 : runs s2 (quarter m) = s3
  generalize h4 : runs s3 (quarter m) = s4
  have l0 : ∃ pre, s0.path = pre ++ [s0.pos] := ⟨[], rfl⟩
  have l1 := last_runs (quarter m) s0 l0
  rw [h1] at l1
  have l2 := last_runs (quarter m) s1 l1
  rw [h2] at l2
  have l3 := last_runs (quarter m) s2 l2
  rw [h3] at l3
  obtain ⟨_, k0⟩ := like_at s0 l0
  obtain ⟨_, k1⟩ := like_at s1 l1
  obtain ⟨_, k2⟩ := like_at s2 l2
  obtain ⟨_, k3⟩ := like_at s3 l3
  obtain ⟨p1, q1⟩ := quarter_run m s0 k0
  obtain ⟨p2, q2⟩ := quarter_run m s1 k1
  obtain ⟨p3, q3⟩ := quarter_run m s2 k2
  obtain ⟨p4, q4⟩ := quarter_run m s3 k3
  rw [h1] at p1 q1
  rw [h2] at p2 q2
  rw [h3] at p3 q3
  rw [h4] at p4 q4
  rw [q3, q2, q1] at q4
  rw [q3, q2, q1, p3, q2, q1, p2, q1, p1] at p4
  refine ⟨?_, by rw [q4]; rfl⟩
  rw [p4]
  generalize (run m).pos = v
  obtain ⟨v1, v2⟩ := v
  unfold T rot1
  simp only [s0, Prod.mk.injEq]
  constructor <;> grind

/-- Moves done back: the last one first. -/
def back (l : List Mv) : List Mv := (l.map fun m => (m.1, -m.2)).reverse
theorem back_cons (a : Mv) (l : List Mv) : back (a :: l) = back l ++ [(a.1, -a.2)] := by unfold back; rw [List.map_cons, List.reverse_cons]

/-- The area's sum along places. -/
def cross (p q : Pt) : Int := p.1 * q.2 - q.1 * p.2
def along : List Pt → Int
  | [] => 0
  | [_] => 0
  | p :: q :: l => cross p q + along (q :: l)
theorem along_snoc (l : List Pt) : ∀ p q : Pt, along (l ++ [p] ++ [q]) = along (l ++ [p]) + cross p q := by
  induction l with
  | nil => intro p q; simp [along]
  | cons a l ih =>
    intro p q
    have := ih p q
    rcases l with _ | ⟨b, l⟩
    · simp only [List.nil_append, List.cons_append, along] at *; omega
    · simp only [List.cons_append, along] at *; omega

/-- Behind moves and the same back: where it was, looking as it did, the sum as it was. -/
theorem back_runs (l : List Mv) : ∀ s : St, (∃ pre, s.path = pre ++ [s.pos]) →
    (runs s (l ++ back l)).pos = s.pos ∧ (runs s (l ++ back l)).look = s.look ∧ along (runs s (l ++ back l)).path = along s.path ∧ ∃ pre, (runs s (l ++ back l)).path = pre ++ [s.pos] := by
  induction l with
  | nil => intro s h; exact ⟨rfl, rfl, rfl, h⟩
  | cons a l ih =>
    intro s h
    have h1 : ∃ pre, (stp s a).path = pre ++ [(stp s a).pos] := last_runs [a] s h
    obtain ⟨i1, i2, i3, i4⟩ := ih (stp s a) h1
    rw [back_cons, List.cons_append, runs_cons, ← List.append_assoc, runs_append]
    generalize runs (stp s a) (l ++ back l) = t at *
    show (stp t (a.1, -a.2)).pos = _ ∧ (stp t (a.1, -a.2)).look = _ ∧ along (stp t (a.1, -a.2)).path = _ ∧ ∃ pre, (stp t (a.1, -a.2)).path = _
    obtain ⟨turn, n⟩ := a
    obtain ⟨pre, hpre⟩ := h
    obtain ⟨pre4, hp4⟩ := i4
    cases turn
    · have e1 : (stp s (false, n)).pos = go1 s.pos s.look n := rfl
      have e2 : (stp s (false, n)).look = s.look := rfl
      have e3 : (stp s (false, n)).path = s.path ++ [go1 s.pos s.look n] := rfl
      rw [e1] at i1 hp4
      rw [e2] at i2
      rw [e3] at i3
      have hg : go1 (go1 s.pos s.look n) s.look (-n) = s.pos := by
        unfold go1
        dsimp only
        rw [Int.mul_neg, Int.mul_neg]
        ext <;> simp <;> omega
      have f1 : (stp t (false, -n)).pos = s.pos := by
        show go1 t.pos t.look (-n) = s.pos
        rw [i1, i2, hg]
      have f2 : (stp t (false, -n)).path = t.path ++ [s.pos] := by
        show t.path ++ [go1 t.pos t.look (-n)] = _
        rw [i1, i2, hg]
      refine ⟨f1, i2, ?_, ⟨t.path, f2⟩⟩
      rw [f2, hp4, along_snoc, ← hp4, i3, hpre, along_snoc]
      unfold cross
      grind
    · have hr : rot (-n) (rot n s.look) = s.look := by rw [rot_add, Int.add_left_neg]; rfl
      refine ⟨i1, ?_, i3, ⟨pre4, hp4⟩⟩
      show rot (-n) t.look = _
      rw [i2]
      exact hr
theorem back_run (l : List Mv) : (run (l ++ back l)).pos = (0, 0) ∧ (run (l ++ back l)).look = (0, 1) ∧ along (run (l ++ back l)).path = 0 := by
  obtain ⟨h1, h2, h3, _⟩ := back_runs l s0 ⟨[], rfl⟩
  exact ⟨h1, h2, h3⟩
end TurP
