/- Types as texts: the plain words. -/
import Derived.Lib.Hide
namespace PriM

/-- A type: its name, its variable, its kids. -/
inductive Ty where
  | mk (name : List UInt8) (var : Int) (kids : List Ty)

def Ty.name : Ty → List UInt8 | .mk n _ _ => n
def Ty.var : Ty → Int | .mk _ v _ => v
def Ty.kids : Ty → List Ty | .mk _ _ k => k

theorem Ty.rec' {P : Ty → Prop} (h : ∀ n v ks, (∀ k ∈ ks, P k) → P (.mk n v ks)) : ∀ t, P t
  | .mk n v ks => h n v ks fun k _ => Ty.rec' h k

/-- 1: a function; 2: a product; 0: neither. -/
def kd : Ty → Nat
  | .mk n _ ks => if n = [45, 62] ∧ ks.length = 2 then 1 else if n = [42] ∧ 2 ≤ ks.length then 2 else 0

theorem kd_mk (n : List UInt8) (v : Int) (ks : List Ty) : kd (.mk n v ks) = if n = [45, 62] ∧ ks.length = 2 then 1 else if n = [42] ∧ 2 ≤ ks.length then 2 else 0 := rfl

def sArrow : List UInt8 := [32, 45, 62, 32]
def sStar : List UInt8 := [32, 42, 32]
def sComma : List UInt8 := [44, 32]

def paren (b : Bool) (l : List UInt8) : List UInt8 := if b then 40 :: (l ++ [41]) else l

def inter (gap : List UInt8) : List (List UInt8) → List UInt8
  | [] => []
  | [a] => a
  | a :: b :: l => a ++ gap ++ inter gap (b :: l)

variable (vn : Int → List UInt8)

/-- A type's text out of its kids' kinds and texts. -/
def body (n : List UInt8) (v : Int) (ps : List (Nat × List UInt8)) : List UInt8 :=
  if n = [] then vn v
  else if n = [45, 62] ∧ ps.length = 2 then paren ((ps.getD 0 (0, [])).1 == 1) (ps.getD 0 (0, [])).2 ++ sArrow ++ (ps.getD 1 (0, [])).2
  else if n = [42] ∧ 2 ≤ ps.length then inter sStar (ps.map fun p => paren (p.1 != 0) p.2)
  else if ps.length = 0 then n
  else if ps.length = 1 then paren ((ps.getD 0 (0, [])).1 != 0) (ps.getD 0 (0, [])).2 ++ 32 :: n
  else 40 :: (inter sComma (ps.map (·.2)) ++ 41 :: 32 :: n)

mutual
def rT : Ty → List UInt8
  | .mk n v ks => body vn n v (rTs ks)
def rTs : List Ty → List (Nat × List UInt8)
  | [] => []
  | t :: ts => (kd t, rT t) :: rTs ts
end

theorem rTs_eq (ts : List Ty) : rTs vn ts = ts.map fun t => (kd t, rT vn t) := by
  induction ts with
  | nil => rfl
  | cons t ts ih => simp only [rTs, List.map_cons, ih]

/-- What is printed: a text, or a type (k: 0 as it is; 1, 2: in brackets). -/
inductive It where
  | txt (s : List UInt8)
  | ty (t : Ty) (k : Nat)

def ren : It → List UInt8
  | .txt s => s
  | .ty t k => paren (k != 0) (rT vn t)

def cat (l : List It) : List UInt8 := l.flatMap (ren vn)

theorem cat_nil : cat vn [] = [] := rfl
theorem cat_cons (a : It) (l : List It) : cat vn (a :: l) = ren vn a ++ cat vn l := rfl
theorem cat_append (a b : List It) : cat vn (a ++ b) = cat vn a ++ cat vn b := by simp [cat]

/-- With something between. -/
def joinI (gap : List UInt8) : List It → List It
  | [] => []
  | [a] => [a]
  | a :: b :: l => a :: .txt gap :: joinI gap (b :: l)

theorem cat_join (gap : List UInt8) (l : List It) : cat vn (joinI gap l) = inter gap (l.map (ren vn)) := by
  induction l with
  | nil => rfl
  | cons a l ih =>
    cases l with
    | nil => simp [joinI, cat, inter]
    | cons b l =>
      simp only [joinI, cat_cons, List.map_cons, inter] at ih ⊢
      rw [ih]
      simp [ren]

def leftI (t : Ty) : It := .ty t (if kd t = 1 then 1 else 0)
def tightI (t : Ty) : It := .ty t (if kd t ≠ 0 then 2 else 0)

/-- The parts of a type. -/
def tp : Ty → List It
  | .mk n v ks =>
    if n = [] then [.txt (vn v)]
    else if n = [45, 62] ∧ ks.length = 2 then [leftI (ks.getD 0 (.mk [] 0 [])), .txt sArrow, .ty (ks.getD 1 (.mk [] 0 [])) 0]
    else if n = [42] ∧ 2 ≤ ks.length then joinI sStar (ks.map tightI)
    else if ks.length = 0 then [.txt n]
    else if ks.length = 1 then [tightI (ks.getD 0 (.mk [] 0 [])), .txt (32 :: n)]
    else .txt [40] :: (joinI sComma (ks.map fun t => .ty t 0) ++ [.txt [41], .txt (32 :: n)])

def prod : It → List It
  | .txt _ => []
  | .ty t 0 => tp vn t
  | .ty t (_ + 1) => .txt [40] :: (tp vn t ++ [.txt [41]])

theorem getD_map {α β : Type} (f : α → β) (l : List α) (i : Nat) (a : α) (b : β) (h : i < l.length) : (l.map f).getD i b = f (l.getD i a) := by
  simp [List.getD, h]

theorem cat_tp (t : Ty) : cat vn (tp vn t) = rT vn t := by
  obtain ⟨n, v, ks⟩ := t
  unfold rT body
  rw [rTs_eq, List.length_map]
  show cat vn (if n = [] then _ else _) = _
  by_cases h0 : n = []
  · simp [h0, cat, ren]
  rw [if_neg h0, if_neg h0]
  by_cases h1 : n = [45, 62] ∧ ks.length = 2
  · rw [if_pos h1, if_pos h1, getD_map _ _ _ (.mk [] 0 []) _ (by omega), getD_map _ _ _ (.mk [] 0 []) _ (by omega)]
    simp only [cat_cons, cat_nil, ren, leftI]
    generalize ks.getD 0 (.mk [] 0 []) = x
    by_cases hk : kd x = 1
    · rw [if_pos hk, hk]; simp [paren]
    · rw [if_neg hk]; simp [paren, hk]
  rw [if_neg h1, if_neg h1]
  by_cases h2 : n = [42] ∧ 2 ≤ ks.length
  · rw [if_pos h2, if_pos h2, cat_join, List.map_map, List.map_map]
    congr 1
    apply List.map_congr_left
    intro t _
    simp only [Function.comp, ren, tightI]
    by_cases hk : kd t = 0
    · simp [hk]
    · have : (kd t != 0) = true := by simpa using hk
      simp [hk, this]
  rw [if_neg h2, if_neg h2]
  by_cases h3 : ks.length = 0
  · rw [if_pos h3, if_pos h3]; simp [cat, ren]
  rw [if_neg h3, if_neg h3]
  by_cases h4 : ks.length = 1
  · rw [if_pos h4, if_pos h4, getD_map _ _ _ (.mk [] 0 []) _ (by omega)]
    simp only [cat_cons, cat_nil, ren, tightI]
    generalize ks.getD 0 (.mk [] 0 []) = x
    by_cases hk : kd x = 0
    · simp [hk]
    · have : (kd x != 0) = true := by simpa using hk
      rw [this]; simp [hk]
  rw [if_neg h4, if_neg h4, cat_cons, cat_append, cat_join, List.map_map, List.map_map]
  simp only [ren, cat_cons, cat_nil]
  have : (ren vn ∘ fun t => It.ty t 0) = ((fun x : Nat × List UInt8 => x.2) ∘ fun t => (kd t, rT vn t)) := by
    funext t; simp [ren, paren]
  rw [this]
  simp

theorem ren_prod (i : It) : ren vn i = match i with | .txt s => s | .ty _ _ => cat vn (prod vn i) := by
  cases i with
  | txt s => rfl
  | ty t k =>
    cases k with
    | zero => simp only [prod, ren, cat_tp]; simp [paren]
    | succ k =>
      simp only [prod, ren, cat_cons, cat_append, cat_tp, cat_nil]
      simp [paren]

mutual
/-- How much is to be done for a type. -/
def wT : Ty → Nat
  | .mk _ _ ks => 10 + wTs ks
def wTs : List Ty → Nat
  | [] => 0
  | t :: ts => wT t + 5 + wTs ts
end
def wI : It → Nat
  | .txt _ => 1
  | .ty t k => wT t + if k = 0 then 0 else 3
def wL : List It → Nat
  | [] => 0
  | a :: l => wI a + wL l

theorem wT_pos (t : Ty) : 10 ≤ wT t := by obtain ⟨n, v, ks⟩ := t; unfold wT; omega
theorem wI_pos (i : It) : 1 ≤ wI i := by
  cases i with
  | txt s => exact Nat.le_refl _
  | ty t k => have := wT_pos t; show 1 ≤ wT t + _; omega
theorem wL_append (a b : List It) : wL (a ++ b) = wL a + wL b := by
  induction a with
  | nil => simp [wL]
  | cons x a ih => simp only [List.cons_append, wL, ih]; omega
theorem wL_len (l : List It) : l.length ≤ wL l := by
  induction l with
  | nil => exact Nat.le_refl _
  | cons x l ih => have := wI_pos x; simp only [List.length_cons, wL]; omega
theorem wTs_len (l : List Ty) : 15 * l.length ≤ wTs l := by
  induction l with
  | nil => exact Nat.le_refl _
  | cons x l ih => have := wT_pos x; simp only [List.length_cons, wTs]; omega
theorem wI_le (t : Ty) (k : Nat) : wI (.ty t k) ≤ wT t + 3 := by show wT t + (if k = 0 then 0 else 3) ≤ _; split <;> omega
theorem wL_join (gap : List UInt8) (f : Ty → It) (hf : ∀ t, wI (f t) ≤ wT t + 3) (ks : List Ty) : wL (joinI gap (ks.map f)) ≤ wTs ks := by
  induction ks with
  | nil => exact Nat.le_refl _
  | cons a ks ih =>
    have ha := hf a
    cases ks with
    | nil => simp only [List.map_cons, List.map_nil, joinI, wL, wTs]; omega
    | cons b ks =>
      simp only [List.map_cons, joinI, wL, wTs] at ih ⊢
      have : wI (.txt gap) = 1 := rfl
      omega
theorem wT_kid {ks : List Ty} {i : Nat} (h : i < ks.length) : wT (ks.getD i (.mk [] 0 [])) + 5 ≤ wTs ks := by
  induction ks generalizing i with
  | nil => simp at h
  | cons a ks ih =>
    cases i with
    | zero => simp only [List.getD, List.getElem?_cons_zero, Option.getD_some, wTs]; omega
    | succ i =>
      have := ih (i := i) (by simpa using h)
      simp only [List.getD, List.getElem?_cons_succ, wTs] at this ⊢
      omega
theorem wL_tp (t : Ty) : wL (tp vn t) + 4 ≤ wT t := by
  obtain ⟨n, v, ks⟩ := t
  have ht : ∀ s, wI (.txt s) = 1 := fun _ => rfl
  unfold wT
  show wL (if n = [] then _ else _) + 4 ≤ _
  by_cases h0 : n = []
  · rw [if_pos h0]; simp only [wL, ht]; omega
  rw [if_neg h0]
  by_cases h1 : n = [45, 62] ∧ ks.length = 2
  · rw [if_pos h1]
    simp only [wL, ht]
    have a := wI_le (ks.getD 0 (.mk [] 0 [])) (if kd (ks.getD 0 (.mk [] 0 [])) = 1 then 1 else 0)
    have b := wI_le (ks.getD 1 (.mk [] 0 [])) 0
    obtain ⟨-, h1⟩ := h1
    match ks, h1 with
    | [x, y], _ =>
      simp only [List.getD, List.getElem?_cons_zero, List.getElem?_cons_succ, Option.getD_some, wTs, leftI] at a b ⊢
      omega
  rw [if_neg h1]
  by_cases h2 : n = [42] ∧ 2 ≤ ks.length
  · rw [if_pos h2]
    have := wL_join sStar tightI (fun t => wI_le t _) ks
    omega
  rw [if_neg h2]
  by_cases h3 : ks.length = 0
  · rw [if_pos h3]; simp only [wL, ht]; omega
  rw [if_neg h3]
  by_cases h4 : ks.length = 1
  · rw [if_pos h4]
    simp only [wL, ht]
    have a := wI_le (ks.getD 0 (.mk [] 0 [])) (if kd (ks.getD 0 (.mk [] 0 [])) ≠ 0 then 2 else 0)
    have := wT_kid (ks := ks) (i := 0) (by omega)
    unfold tightI
    omega
  rw [if_neg h4]
  have := wL_join sComma (fun t => It.ty t 0) (fun t => wI_le t 0) ks
  simp only [wL, ht, wL_append]
  omega
theorem wL_prod (i : It) : wL (prod vn i) < wI i := by
  cases i with
  | txt s => exact Nat.lt_succ_self 0
  | ty t k =>
    have := wL_tp vn t
    cases k with
    | zero => simp only [prod, wI]; omega
    | succ k =>
      have ht : ∀ s, wI (.txt s) = 1 := fun _ => rfl
      simp only [prod, wL, wL_append, ht]
      unfold wI
      simp only [Nat.add_one_ne_zero, if_false]
      omega

mutual
/-- How long the names in a type are together. -/
def wN : Ty → Nat
  | .mk n _ ks => n.length + wNs ks
def wNs : List Ty → Nat
  | [] => 0
  | t :: ts => wN t + wNs ts
end
theorem wN_mem {t : Ty} : ∀ {ks : List Ty}, t ∈ ks → wN t ≤ wNs ks
  | k :: ks, h => by
    rcases List.mem_cons.1 h with rfl | h
    · simp only [wNs]; omega
    · have := wN_mem h; simp only [wNs]; omega
theorem wN_mk (n : List UInt8) (v : Int) (ks : List Ty) : wN (.mk n v ks) = n.length + wNs ks := by unfold wN; rfl
end PriM
