/- The turtle, in plain words: where moves lead, and what follows of it. -/
namespace TurP

abbrev Mv := Bool × Int
abbrev Pt := Int × Int

def rot1 (d : Pt) : Pt := (-d.2, d.1)
def rotN : Nat → Pt → Pt
  | 0, d => d
  | k + 1, d => rot1 (rotN k d)
/-- A direction, turned to the left n times. -/
def rot (n : Int) (d : Pt) : Pt := rotN (n % 4).toNat d

structure St where
  path : List Pt
  pos : Pt
  look : Pt

def go1 (p d : Pt) (n : Int) : Pt := (p.1 + d.1 * n, p.2 + d.2 * n)
def stp (s : St) (m : Mv) : St := if m.1 then ⟨s.path, s.pos, rot m.2 s.look⟩ else ⟨s.path ++ [go1 s.pos s.look m.2], go1 s.pos s.look m.2, s.look⟩
def s0 : St := ⟨[(0, 0)], (0, 0), (0, 1)⟩
def runs (s : St) (l : List Mv) : St := l.foldl stp s
def run (l : List Mv) : St := runs s0 l

theorem runs_append (s : St) (l k : List Mv) : runs s (l ++ k) = runs (runs s l) k := List.foldl_append
theorem runs_cons (s : St) (m : Mv) (k : List Mv) : runs s (m :: k) = runs (stp s m) k := rfl
theorem runs_nil (s : St) : runs s [] = s := rfl
theorem run_snoc (l : List Mv) (m : Mv) : run (l ++ [m]) = stp (run l) m := by unfold run; rw [runs_append]; rfl
theorem run_take (l : List Mv) (k : Nat) (h : k < l.length) : run (l.take (k + 1)) = stp (run (l.take k)) l[k] := by
  rw [List.take_succ_eq_append_getElem h, run_snoc]

theorem rotN_add (a b : Nat) (d : Pt) : rotN a (rotN b d) = rotN (a + b) d := by
  induction a with
  | zero => simp [rotN]
  | succ a ih => rw [Nat.succ_add]; simp only [rotN, ih]
theorem rotN_four (d : Pt) : rotN 4 d = d := by simp [rotN, rot1]
theorem rotN_mod (a : Nat) (d : Pt) : rotN (a % 4) d = rotN a d := by
  induction a using Nat.strongRecOn with
  | ind a ih =>
    rcases Nat.lt_or_ge a 4 with h | h
    · rw [Nat.mod_eq_of_lt h]
    · have := ih (a - 4) (by omega)
      rw [show a % 4 = (a - 4) % 4 by omega, this, show rotN a d = rotN (4 + (a - 4)) d by congr 1; omega, ← rotN_add, rotN_four]
theorem rot_add (a b : Int) (d : Pt) : rot a (rot b d) = rot (a + b) d := by
  unfold rot
  rw [rotN_add, ← rotN_mod]
  congr 1
  omega
theorem rot_of (a b : Int) (d : Pt) (h : a % 4 = b % 4) : rot a d = rot b d := by unfold rot; rw [h]
theorem rot_zero (d : Pt) : rot 0 d = d := rfl

/-- One of the four directions. -/
def Unit4 (d : Pt) : Prop := d = (0, 1) ∨ d = (-1, 0) ∨ d = (0, -1) ∨ d = (1, 0)
theorem unit_rot1 {d : Pt} (h : Unit4 d) : Unit4 (rot1 d) := by rcases h with rfl | rfl | rfl | rfl <;> simp [Unit4, rot1]
theorem unit_rotN {d : Pt} (h : Unit4 d) (k : Nat) : Unit4 (rotN k d) := by
  induction k with
  | zero => exact h
  | succ k ih => exact unit_rot1 ih
theorem unit_rot {d : Pt} (h : Unit4 d) (n : Int) : Unit4 (rot n d) := unit_rotN h _

/-- Too far. -/
def far (m : Mv) : Bool := !m.1 && (decide (m.2 < -1000000) || decide (1000000 < m.2))
/-- The error's number. -/
def err (l : List Mv) : Int := if 1000 < l.length then 2 else if l.any far then 1 else 0

/-- What holds of the turtle behind k moves that are not too far: B the most of each. -/
structure Ok (B : Int) (k : Int) (s : St) : Prop where
  unit : Unit4 s.look
  x0 : -(k * B) ≤ s.pos.1
  x1 : s.pos.1 ≤ k * B
  y0 : -(k * B) ≤ s.pos.2
  y1 : s.pos.2 ≤ k * B
  all : ∀ p ∈ s.path, (-(k * B) ≤ p.1 ∧ p.1 ≤ k * B) ∧ (-(k * B) ≤ p.2 ∧ p.2 ≤ k * B)
  last : ∃ pre, s.path = pre ++ [s.pos]
  first : ∃ post, s.path = (0, 0) :: post

theorem ok0 (B : Int) : Ok B 0 s0 := by
  refine ⟨.inl rfl, ?_, ?_, ?_, ?_, ?_, ⟨[], rfl⟩, ⟨[], rfl⟩⟩ <;> simp [s0]

theorem ok_stp {B k : Int} {s : St} {m : Mv} (h : Ok B k s) (hB : 0 ≤ B) (hm : m.1 = false → -B ≤ m.2 ∧ m.2 ≤ B) : Ok B (k + 1) (stp s m) := by
  have e : (k + 1) * B = k * B + B := by rw [Int.add_mul, Int.one_mul]
  have h1 := h.x0
  have h2 := h.x1
  have h3 := h.y0
  have h4 := h.y1
  have hall : ∀ p ∈ s.path, (-((k + 1) * B) ≤ p.1 ∧ p.1 ≤ (k + 1) * B) ∧ (-((k + 1) * B) ≤ p.2 ∧ p.2 ≤ (k + 1) * B) := by
    intro p hp
    have := h.all p hp
    rw [e]
    omega
  unfold stp
  split
  · exact ⟨unit_rot h.unit _, by rw [e]; show -(k * B + B) ≤ s.pos.1; omega, by rw [e]; show s.pos.1 ≤ k * B + B; omega, by rw [e]; show -(k * B + B) ≤ s.pos.2; omega, by rw [e]; show s.pos.2 ≤ k * B + B; omega, hall, h.last, h.first⟩
  · rename_i ht
    obtain ⟨n0, n1⟩ := hm (by simpa using ht)
    obtain ⟨post, hpost⟩ := h.first
    have hg : ((-((k + 1) * B) ≤ (go1 s.pos s.look m.2).1 ∧ (go1 s.pos s.look m.2).1 ≤ (k + 1) * B) ∧ (-((k + 1) * B) ≤ (go1 s.pos s.look m.2).2 ∧ (go1 s.pos s.look m.2).2 ≤ (k + 1) * B)) := by
      rw [e]
      unfold go1
      rcases h.unit with hu | hu | hu | hu <;> rw [hu] <;> dsimp only <;> omega
    refine ⟨h.unit, hg.1.1, hg.1.2, hg.2.1, hg.2.2, ?_, ⟨s.path, rfl⟩, ⟨post ++ [go1 s.pos s.look m.2], by simp [hpost]⟩⟩
    intro p hp
    rcases List.mem_append.1 hp with hp | hp
    · exact hall p hp
    · obtain rfl := List.mem_singleton.1 hp
      exact hg

theorem far_false {m : Mv} (h : far m = false) : m.1 = false → -1000000 ≤ m.2 ∧ m.2 ≤ 1000000 := by
  intro h1
  simp [far, h1] at h
  omega

/-- Moves that are within B. -/
def Within (B : Int) (l : List Mv) : Prop := ∀ m ∈ l, m.1 = false → -B ≤ m.2 ∧ m.2 ≤ B

theorem ok_runs {B : Int} (hB : 0 ≤ B) (l : List Mv) : ∀ (s : St) (k : Int), Ok B k s → Within B l → Ok B (k + l.length) (runs s l) := by
  induction l with
  | nil => intro s k h _; simpa [runs] using h
  | cons a l ih =>
    intro s k h hw
    have := ih (stp s a) (k + 1) (ok_stp h hB (hw a (by simp))) (fun m hm => hw m (by simp [hm]))
    rw [runs_cons, List.length_cons]
    have e : k + ((l.length + 1 : Nat) : Int) = k + 1 + (l.length : Int) := by omega
    rw [e]
    exact this
theorem ok_run {B : Int} (hB : 0 ≤ B) (l : List Mv) (hw : Within B l) : Ok B l.length (run l) := by
  have := ok_runs hB l s0 0 (ok0 B) hw
  rwa [Int.zero_add] at this
theorem within_of_err {l : List Mv} (h : l.any far = false) : Within 1000000 l := by
  intro m hm
  exact far_false (by rw [List.any_eq_false] at h; simpa using h m hm)
theorem within_take {B : Int} {l : List Mv} (h : Within B l) (k : Nat) : Within B (l.take k) := fun m hm => h m (List.mem_of_mem_take hm)
end TurP
