/- Types of one text are one: the plain words. -/
import Derived.Test.YtiimofdbconlhaaDoorPriWm
namespace Go.Proofs.YtiimofdbconlhaaDoor
open PriM

/-- How much is open behind a text. -/
def dep : List UInt8 → Int
  | [] => 0
  | c :: l => (if c = 40 then 1 else if c = 41 then -1 else 0) + dep l
theorem dep_append (a b : List UInt8) : dep (a ++ b) = dep a + dep b := by
  induction a with
  | nil => simp [dep]
  | cons c a ih => simp only [List.cons_append, dep, ih]; omega
/-- Brackets go together. -/
structure Nst (l : List UInt8) : Prop where
  zero : dep l = 0
  pre : ∀ a b, l = a ++ b → 0 ≤ dep a
/-- A sign stands in brackets alone. -/
def Fr (c : UInt8) (l : List UInt8) : Prop := ∀ a b, l = a ++ c :: b → dep a ≠ 0

theorem Nst.nil : Nst [] := ⟨rfl, fun a b h => by obtain ⟨rfl, -⟩ := List.append_eq_nil_iff.1 h.symm; exact Int.le_refl _⟩
theorem Nst.append {l m : List UInt8} (h : Nst l) (k : Nst m) : Nst (l ++ m) := by
  refine ⟨by rw [dep_append, h.zero, k.zero]; rfl, fun a b e => ?_⟩
  rcases List.append_eq_append_iff.1 e with ⟨x, rfl, h2⟩ | ⟨x, h1, h2⟩
  · rw [dep_append, h.zero, Int.zero_add]
    exact k.pre x b h2
  · exact h.pre a x h1
theorem Nst.plain {l : List UInt8} (h : ∀ c ∈ l, c ≠ 40 ∧ c ≠ 41) : Nst l := by
  have key : ∀ l : List UInt8, (∀ c ∈ l, c ≠ 40 ∧ c ≠ 41) → dep l = 0 := by
    intro l
    induction l with
    | nil => intro _; rfl
    | cons c l ih =>
      intro h
      have := h c (by simp)
      rw [dep, if_neg this.1, if_neg this.2, ih (fun x hx => h x (by simp [hx]))]
      rfl
  refine ⟨key l h, fun a b e => ?_⟩
  rw [key a (fun c hc => h c (by rw [e]; simp [hc]))]
  exact Int.le_refl _
theorem Nst.brack {l : List UInt8} (h : Nst l) : Nst (40 :: (l ++ [41])) := by
  refine ⟨?_, fun a b e => ?_⟩
  · rw [dep, dep_append, h.zero]; rfl
  · rcases a with _ | ⟨c, a⟩
    · exact Int.le_refl _
    · simp only [List.cons_append, List.cons.injEq] at e
      obtain ⟨rfl, e⟩ := e
      rw [dep, if_pos rfl]
      rcases List.append_eq_append_iff.1 e with ⟨x, rfl, h2⟩ | ⟨x, h1, h2⟩
      · rw [dep_append, h.zero]
        rcases x with _ | ⟨y, x⟩
        · show (0 : Int) ≤ 1 + (0 + 0); omega
        · simp only [List.cons_append, List.cons.injEq] at h2
          obtain ⟨rfl, h2⟩ := h2
          obtain ⟨rfl, -⟩ := List.append_eq_nil_iff.1 h2.symm
          show (0 : Int) ≤ 1 + (0 + (-1 + 0)); omega
      · have := h.pre a x h1; omega

theorem Fr.append {c : UInt8} {l m : List UInt8} (hl : Nst l) (h : Fr c l) (k : Fr c m) : Fr c (l ++ m) := by
  intro a b e
  rcases List.append_eq_append_iff.1 e with ⟨x, rfl, h2⟩ | ⟨x, h1, h2⟩
  · rw [dep_append, hl.zero, Int.zero_add]
    exact k x b h2
  · rcases x with _ | ⟨y, x⟩
    · exact absurd rfl (k [] b h2.symm)
    · simp only [List.cons_append, List.cons.injEq] at h2
      obtain ⟨rfl, h2⟩ := h2
      exact h a x h1
theorem Fr.plain {c : UInt8} {l : List UInt8} (h : c ∉ l) : Fr c l := fun a b e => by rw [e] at h; simp at h
theorem Fr.brack {c : UInt8} {l : List UInt8} (hl : Nst l) (h0 : c ≠ 40) (h1 : c ≠ 41) : Fr c (40 :: (l ++ [41])) := by
  intro a b e
  rcases a with _ | ⟨x, a⟩
  · simp only [List.nil_append, List.cons.injEq] at e
    exact absurd e.1.symm h0
  · simp only [List.cons_append, List.cons.injEq] at e
    obtain ⟨rfl, e⟩ := e
    rw [dep, if_pos rfl]
    rcases List.append_eq_append_iff.1 e with ⟨x, rfl, h2⟩ | ⟨x, h3, h2⟩
    · rcases x with _ | ⟨y, x⟩
      · simp only [List.nil_append, List.cons.injEq] at h2
        exact absurd h2.1.symm h1
      · simp at h2
    · have := hl.pre a x h3; omega
/-- The first of them that stands in no brackets. -/
theorem Fr.split {c : UInt8} {a b x y : List UInt8} (ha : Nst a) (hb : Nst b) (fa : Fr c a) (fb : Fr c b) (e : a ++ c :: x = b ++ c :: y) : a = b ∧ x = y := by
  rcases List.append_eq_append_iff.1 e with ⟨z, rfl, h2⟩ | ⟨z, h1, h2⟩
  · rcases z with _ | ⟨d, z⟩
    · simp only [List.nil_append, List.cons.injEq, true_and] at h2
      exact ⟨by simp, h2⟩
    · simp only [List.cons_append, List.cons.injEq] at h2
      obtain ⟨rfl, -⟩ := h2
      exact absurd ha.zero (fb a z rfl)
  · rcases z with _ | ⟨d, z⟩
    · simp only [List.nil_append, List.cons.injEq, true_and] at h2
      exact ⟨by simpa using h1, h2.symm⟩
    · simp only [List.cons_append, List.cons.injEq] at h2
      obtain ⟨rfl, -⟩ := h2
      exact absurd hb.zero (fa b z h1)
theorem Fr.none {c : UInt8} {a b : List UInt8} (ha : Nst a) (h : Fr c (a ++ c :: b)) : False := h a b rfl ha.zero

theorem inter_cons (gap x y : List UInt8) (l : List (List UInt8)) : inter gap (x :: y :: l) = x ++ (gap ++ inter gap (y :: l)) := by simp [inter]
theorem Nst.inter {gap : List UInt8} (hg : Nst gap) : ∀ {l : List (List UInt8)}, (∀ x ∈ l, Nst x) → Nst (inter gap l)
  | [], _ => Nst.nil
  | [x], h => h x (by simp)
  | x :: y :: l, h => by
    rw [inter_cons]
    exact (h x (by simp)).append (hg.append (Nst.inter hg (fun z hz => h z (by simp only [List.mem_cons] at hz ⊢; exact .inr hz))))
theorem Fr.inter {c : UInt8} {gap : List UInt8} (hg : Nst gap) (fg : Fr c gap) : ∀ {l : List (List UInt8)}, (∀ x ∈ l, Nst x ∧ Fr c x) → Fr c (inter gap l)
  | [], _ => fun a b e => by simp [PriM.inter] at e
  | [x], h => (h x (by simp)).2
  | x :: y :: l, h => by
    rw [inter_cons]
    have h0 := h x (by simp)
    exact Fr.append h0.1 h0.2 (Fr.append hg fg (Fr.inter hg fg (fun z hz => h z (by simp only [List.mem_cons] at hz ⊢; exact .inr hz))))
/-- Lists with a sign between are apart. -/
theorem inter_inj {c : UInt8} {p q : List UInt8} (hp : Nst p) (fp : Fr c p) (hq : Nst (p ++ c :: q)) : ∀ {l m : List (List UInt8)}, (∀ x ∈ l, Nst x ∧ Fr c x) → (∀ x ∈ m, Nst x ∧ Fr c x) → l.length ≠ 0 → m.length ≠ 0 → inter (p ++ c :: q) l = inter (p ++ c :: q) m → l = m
  | [], _, _, _, h, _, _ => absurd rfl h
  | _, [], _, _, _, h, _ => absurd rfl h
  | [x], [y], _, _, _, _, e => by simpa [inter] using e
  | [x], y :: z :: m, hl, hm, _, _, e => by
    rw [inter_cons] at e
    have hx := (hl x (by simp)).2
    have hy := hm y (by simp)
    have e' : x = (y ++ p) ++ c :: (q ++ inter (p ++ c :: q) (z :: m)) := by simpa [inter] using e
    rw [e'] at hx
    exact (hx.none (hy.1.append hp)).elim
  | x :: z :: l, [y], hl, hm, _, _, e => by
    rw [inter_cons] at e
    have hx := (hm y (by simp)).2
    have hy := hl x (by simp)
    have e' : y = (x ++ p) ++ c :: (q ++ inter (p ++ c :: q) (z :: l)) := by simpa [inter] using e.symm
    rw [e'] at hx
    exact (hx.none (hy.1.append hp)).elim
  | x :: z :: l, y :: u :: m, hl, hm, _, _, e => by
    rw [inter_cons, inter_cons] at e
    have hx := hl x (by simp)
    have hy := hm y (by simp)
    have e' : (x ++ p) ++ c :: (q ++ inter (p ++ c :: q) (z :: l)) = (y ++ p) ++ c :: (q ++ inter (p ++ c :: q) (u :: m)) := by simpa using e
    obtain ⟨e1, e2⟩ := Fr.split (hx.1.append hp) (hy.1.append hp) (Fr.append hx.1 hx.2 fp) (Fr.append hy.1 hy.2 fp) e'
    have e3 : x = y := List.append_cancel_right e1
    have e4 : inter (p ++ c :: q) (z :: l) = inter (p ++ c :: q) (u :: m) := List.append_cancel_left e2
    rw [e3, inter_inj hp fp hq (fun w hw => hl w (by simp only [List.mem_cons] at hw ⊢; exact .inr hw)) (fun w hw => hm w (by simp only [List.mem_cons] at hw ⊢; exact .inr hw)) (by simp) (by simp) e4]

def ltr (c : UInt8) : Bool := decide (97 ≤ c.toNat) && decide (c.toNat ≤ 122)
theorem ltr_ne {c d : UInt8} (h : ltr c = true) (hd : d.toNat < 97) : c ≠ d := by
  rintro rfl
  simp only [ltr, Bool.and_eq_true, decide_eq_true_eq] at h
  omega
/-- The name at the end. -/
theorem last_name {p q n m : List UInt8} (hn : n.all ltr = true) (hm : m.all ltr = true) (hp : p = [] ∨ ∃ p', p = p' ++ [32]) (hq : q = [] ∨ ∃ q', q = q' ++ [32]) (e : p ++ n = q ++ m) : p = q ∧ n = m := by
  have key : ∀ {p q n m z : List UInt8}, n.all ltr = true → (q = [] ∨ ∃ q', q = q' ++ [32]) → q = p ++ z → n = z ++ m → z = [] := by
    intro p q n m z hn hq h1 h2
    rcases List.eq_nil_or_concat z with rfl | ⟨z, c, rfl⟩
    · rfl
    · rcases hq with rfl | ⟨q', rfl⟩
      · simp at h1
      · have h3 : q' ++ [32] = (p ++ z) ++ [c] := by rw [h1]; simp
        have h4 := (List.append_inj' h3 rfl).2
        simp only [List.cons.injEq, and_true] at h4
        subst h4
        rw [h2] at hn
        simp [ltr] at hn
  rcases List.append_eq_append_iff.1 e with ⟨z, h1, h2⟩ | ⟨z, h1, h2⟩
  · have := key hn hq h1 h2
    subst this
    exact ⟨by simpa using h1.symm, by simpa using h2⟩
  · have := key hm hp h1 h2
    subst this
    exact ⟨by simpa using h1, by simpa using h2.symm⟩

def nmOne (nm : List UInt8) (v : Int) : Bool := if nm = [] then decide (1 ≤ v) && decide (v ≤ 26) else decide (v = 0) && (nm == [45, 62] || nm == [42] || nm.all ltr)
mutual
/-- Names of small letters alone, variables from 1 to 26. -/
def nmT : Ty → Bool
  | .mk nm v ks => nmOne nm v && (nm == [] || nmTs ks)
def nmTs : List Ty → Bool
  | [] => true
  | t :: ts => nmT t && nmTs ts
end
theorem nmT_mk (nm : List UInt8) (v : Int) (ks : List Ty) : nmT (.mk nm v ks) = (nmOne nm v && (nm == [] || nmTs ks)) := by unfold nmT; rfl
theorem nmTs_mem : ∀ {ks : List Ty}, nmTs ks = true → ∀ t ∈ ks, nmT t = true
  | k :: ks, h, t, ht => by
    simp only [nmTs, Bool.and_eq_true] at h
    rcases List.mem_cons.1 ht with rfl | ht
    · exact h.1
    · exact nmTs_mem h.2 t ht

section
variable (f : Int → List UInt8)
def tgt (t : Ty) : List UInt8 := paren (kd t != 0) (rT f t)
def lft (t : Ty) : List UInt8 := paren (kd t == 1) (rT f t)
/-- What a type's text is like. -/
inductive View : Ty → List UInt8 → Prop
  | var (v : Int) (c : UInt8) (h1 : 1 ≤ v) (h2 : v ≤ 26) (hc : c.toNat = 96 + v.toNat) : View (.mk [] v []) [39, c]
  | fn (x y : Ty) : View (.mk [45, 62] 0 [x, y]) ((lft f x ++ [32]) ++ 45 :: (62 :: 32 :: rT f y))
  | prod (ks : List Ty) (h : 2 ≤ ks.length) : View (.mk [42] 0 ks) (inter ([32] ++ 42 :: [32]) (ks.map (tgt f)))
  | leaf (nm : List UInt8) (h : nm.all ltr = true) (h0 : nm ≠ []) : View (.mk nm 0 []) nm
  | one (nm : List UInt8) (h : nm.all ltr = true) (h0 : nm ≠ []) (x : Ty) : View (.mk nm 0 [x]) ((tgt f x ++ [32]) ++ nm)
  | many (nm : List UInt8) (h : nm.all ltr = true) (h0 : nm ≠ []) (ks : List Ty) (hk : 2 ≤ ks.length) : View (.mk nm 0 ks) (((40 :: (inter ([] ++ 44 :: [32]) (ks.map (rT f)) ++ [41])) ++ [32]) ++ nm)

theorem view (hf : ∀ v : Int, 1 ≤ v → v ≤ 26 → f v = [39, UInt8.ofNat (96 + v.toNat)]) {nm : List UInt8} {v : Int} {ks : List Ty} (h1 : okT (.mk nm v ks)) (h2 : nmT (.mk nm v ks) = true) : View f (.mk nm v ks) (rT f (.mk nm v ks)) := by
  unfold okT at h1
  obtain ⟨o1, o2, o3, o4, o5⟩ := h1
  rw [nmT_mk] at h2
  simp only [Bool.and_eq_true] at h2
  obtain ⟨n1, n2⟩ := h2
  unfold rT
  rw [rTs_eq]
  unfold body
  simp only [List.length_map]
  by_cases e0 : nm = []
  · subst e0
    obtain rfl : ks = [] := by simpa using o1 rfl
    simp only [nmOne, if_true, Bool.and_eq_true, decide_eq_true_eq] at n1
    rw [if_pos rfl, hf v n1.1 n1.2]
    exact .var v _ n1.1 n1.2 (by rw [UInt8.toNat_ofNat_of_lt' (by show _ < 256; omega)])
  rw [if_neg e0]
  simp only [nmOne, if_neg e0, Bool.and_eq_true, decide_eq_true_eq] at n1
  obtain ⟨rfl, n1⟩ := n1
  by_cases e1 : nm = [45, 62]
  · subst e1
    match ks, o2 rfl with
    | [x, y], _ =>
      rw [if_pos ⟨rfl, rfl⟩]
      have := View.fn (f := f) x y
      simpa [lft, sArrow] using this
  rw [if_neg (fun h => e1 h.1)]
  by_cases e2 : nm = [42]
  · subst e2
    rw [if_pos ⟨rfl, o3 rfl⟩, List.map_map]
    exact .prod ks (o3 rfl)
  rw [if_neg (fun h => e2 h.1)]
  have hl : nm.all ltr = true := by
    rcases Bool.or_eq_true_iff.1 n1 with n1 | n1
    · rcases Bool.or_eq_true_iff.1 n1 with n1 | n1
      · exact absurd (by simpa using n1) e1
      · exact absurd (by simpa using n1) e2
    · exact n1
  match ks with
  | [] => exact .leaf nm hl e0
  | [x] =>
    have := View.one (f := f) nm hl e0 x
    simpa [tgt] using this
  | x :: y :: ks =>
    have := View.many (f := f) nm hl e0 (x :: y :: ks) (by simp)
    simpa [sComma, List.map_map, Function.comp_def] using this

/-- A letter at the end. -/
def EndL (l : List UInt8) : Prop := ∃ p c, l = p ++ [c] ∧ ltr c = true
theorem EndL.name {p nm : List UInt8} (h : nm.all ltr = true) (h0 : nm ≠ []) : EndL (p ++ nm) := by
  rcases List.eq_nil_or_concat nm with rfl | ⟨z, c, rfl⟩
  · exact absurd rfl h0
  · exact ⟨p ++ z, c, by simp, by simp at h; exact h.2⟩
theorem EndL.brack {l : List UInt8} (h : EndL (40 :: (l ++ [41]))) : False := by
  obtain ⟨p, c, e, hc⟩ := h
  have e' : (40 :: l) ++ [41] = p ++ [c] := by rw [← e]; rfl
  have := (List.append_inj' e' rfl).2
  simp only [List.cons.injEq, and_true] at this
  subst this
  simp [ltr] at hc
theorem name_free {nm : List UInt8} (h : nm.all ltr = true) {d : UInt8} (hd : d.toNat < 97) : d ∉ nm := fun hm => ltr_ne (List.all_eq_true.1 h d hm) hd rfl
theorem Nst.name {nm : List UInt8} (h : nm.all ltr = true) : Nst nm := Nst.plain fun c hc => ⟨ltr_ne (List.all_eq_true.1 h c hc) (by decide), ltr_ne (List.all_eq_true.1 h c hc) (by decide)⟩

theorem kd_name {nm : List UInt8} (h : nm.all ltr = true) (_h0 : nm ≠ []) {v : Int} {ks : List Ty} : kd (.mk nm v ks) = 0 := by
  rw [kd_mk, if_neg (fun e => by rw [e.1] at h; simp [ltr] at h), if_neg (fun e => by rw [e.1] at h; simp [ltr] at h)]

structure Inv (t : Ty) : Prop where
  nst : Nst (rT f t)
  com : Fr 44 (rT f t)
  arr : kd t ≠ 1 → Fr 45 (rT f t)
  sta : kd t = 0 → Fr 42 (rT f t)
  fin : kd t = 0 → EndL (rT f t)
  arr1 : kd t = 1 → ¬ Fr 45 (rT f t)
  sta2 : kd t = 2 → ¬ Fr 42 (rT f t)
variable {f}
theorem Inv.tgt {t : Ty} (h : Inv f t) : Nst (tgt f t) ∧ Fr 44 (tgt f t) ∧ Fr 45 (tgt f t) ∧ Fr 42 (tgt f t) := by
  unfold Go.Proofs.YtiimofdbconlhaaDoor.tgt paren
  split
  · exact ⟨h.nst.brack, Fr.brack h.nst (by decide) (by decide), Fr.brack h.nst (by decide) (by decide), Fr.brack h.nst (by decide) (by decide)⟩
  · next hk =>
    have hk : kd t = 0 := by simpa using hk
    exact ⟨h.nst, h.com, h.arr (by omega), h.sta hk⟩
theorem Inv.lft {t : Ty} (h : Inv f t) : Nst (lft f t) ∧ Fr 44 (lft f t) ∧ Fr 45 (lft f t) := by
  unfold Go.Proofs.YtiimofdbconlhaaDoor.lft paren
  split
  · exact ⟨h.nst.brack, Fr.brack h.nst (by decide) (by decide), Fr.brack h.nst (by decide) (by decide)⟩
  · next hk =>
    have hk : kd t ≠ 1 := by simpa using hk
    exact ⟨h.nst, h.com, h.arr hk⟩

theorem star_in {ks : List Ty} (hk : 2 ≤ ks.length) (hi : ∀ k ∈ ks, Inv f k) : ¬ Fr 42 (inter ([32] ++ 42 :: [32]) (ks.map (tgt f))) := by
  intro h
  match ks, hk with
  | x :: y :: ks, _ =>
    rw [List.map_cons, List.map_cons, inter_cons] at h
    have h' : Fr 42 ((tgt f x ++ [32]) ++ 42 :: (32 :: inter ([32] ++ 42 :: [32]) (tgt f y :: ks.map (tgt f)))) := by simpa using h
    exact h'.none ((hi x (by simp)).tgt.1.append (Nst.plain (by decide)))
theorem inv_all (hf : ∀ v : Int, 1 ≤ v → v ≤ 26 → f v = [39, UInt8.ofNat (96 + v.toNat)]) (t : Ty) : okT t → nmT t = true → Inv f t := by
  induction t using Ty.rec' with
  | h nm v ks ih =>
    intro h1 h2
    have ih' : nm ≠ [] → ∀ k ∈ ks, Inv f k := fun h0 k hk => by
      rw [nmT_mk] at h2
      simp only [Bool.and_eq_true, Bool.or_eq_true, beq_iff_eq] at h2
      unfold okT at h1
      exact ih k hk (okTs_mem h1.2.2.2.2 k hk) (nmTs_mem (h2.2.resolve_left h0) k hk)
    have hv := view f hf h1 h2
    clear ih h1 h2
    suffices h : ∀ X, View f (.mk nm v ks) X → Nst X ∧ Fr 44 X ∧ (kd (.mk nm v ks) ≠ 1 → Fr 45 X) ∧ (kd (.mk nm v ks) = 0 → Fr 42 X ∧ EndL X) ∧ (kd (.mk nm v ks) = 1 → ¬ Fr 45 X) ∧ (kd (.mk nm v ks) = 2 → ¬ Fr 42 X) by
      obtain ⟨a, b, c, d, e1, e2⟩ := h _ hv
      exact ⟨a, b, c, fun e => (d e).1, fun e => (d e).2, e1, e2⟩
    intro X hX
    cases hX with
    | var v c l1 l2 hc =>
      have hl : ltr c = true := by simp only [ltr, Bool.and_eq_true, decide_eq_true_eq]; omega
      have hp : ∀ d : UInt8, d.toNat < 97 → d ≠ 39 → d ∉ [39, c] := fun d hd h9 hm => by
        simp only [List.mem_cons, List.not_mem_nil, or_false] at hm
        rcases hm with rfl | rfl
        · exact h9 rfl
        · exact ltr_ne hl hd rfl
      refine ⟨Nst.plain fun d hd => ?_, Fr.plain (hp _ (by decide) (by decide)), fun _ => Fr.plain (hp _ (by decide) (by decide)), fun _ => ⟨Fr.plain (hp _ (by decide) (by decide)), [39], c, rfl, hl⟩, fun e => by rw [kd_mk] at e; simp at e, fun e => by rw [kd_mk] at e; simp at e⟩
      exact ⟨fun e => hp 40 (by decide) (by decide) (e ▸ hd), fun e => hp 41 (by decide) (by decide) (e ▸ hd)⟩
    | fn x y =>
      have hx := ih' (by simp) x (by simp)
      have hy := ih' (by simp) y (by simp)
      have e : (lft f x ++ [32]) ++ 45 :: (62 :: 32 :: rT f y) = lft f x ++ ([32, 45, 62, 32] ++ rT f y) := by simp
      have hg : Nst [32, 45, 62, 32] := Nst.plain (by decide)
      have hn : ¬ Fr 45 ((lft f x ++ [32]) ++ 45 :: (62 :: 32 :: rT f y)) := fun h => h.none (hx.lft.1.append (Nst.plain (by decide)))
      rw [e] at hn ⊢
      refine ⟨hx.lft.1.append (hg.append hy.nst), Fr.append hx.lft.1 hx.lft.2.1 (Fr.append hg (Fr.plain (by decide)) hy.com), fun h => absurd ?_ h, fun h => ?_, fun _ => hn, fun h => ?_⟩
      · rw [kd_mk]; simp
      · rw [kd_mk] at h; simp at h
      · rw [kd_mk] at h; simp at h
    | prod ks hk =>
      have h := fun k hk => (ih' (by simp) k hk).tgt
      have hg : Nst ([32] ++ 42 :: [32]) := Nst.plain (by decide)
      have hm : ∀ (c : UInt8), (∀ k ∈ ks, Fr c (tgt f k)) → ∀ x ∈ ks.map (tgt f), Nst x ∧ Fr c x := fun c hc x hx => by
        obtain ⟨k, hk, rfl⟩ := List.mem_map.1 hx
        exact ⟨(h k hk).1, hc k hk⟩
      refine ⟨Nst.inter hg (fun x hx => (hm 44 (fun k hk => (h k hk).2.1) x hx).1), Fr.inter hg (Fr.plain (by decide)) (hm 44 (fun k hk => (h k hk).2.1)), fun _ => Fr.inter hg (Fr.plain (by decide)) (hm 45 (fun k hk => (h k hk).2.2.1)), fun e => ?_, fun e => ?_, fun _ => star_in hk (ih' (by simp))⟩
      · rw [kd_mk] at e; simp [hk] at e
      · rw [kd_mk] at e; simp [hk] at e
    | leaf nm hl h0 =>
      have e : nm = [] ++ nm := rfl
      refine ⟨Nst.name hl, Fr.plain (name_free hl (by decide)), fun _ => Fr.plain (name_free hl (by decide)), fun _ => ⟨Fr.plain (name_free hl (by decide)), EndL.name (p := []) hl h0⟩, fun e => absurd (kd_name hl h0 ▸ e) (by decide), fun e => absurd (kd_name hl h0 ▸ e) (by decide)⟩
    | one nm hl h0 x =>
      have hx := (ih' h0 x (by simp)).tgt
      have hg : Nst [32] := Nst.plain (by decide)
      refine ⟨(hx.1.append hg).append (Nst.name hl), ?_, fun _ => ?_, fun _ => ⟨?_, EndL.name hl h0⟩, fun e => absurd (kd_name hl h0 ▸ e) (by decide), fun e => absurd (kd_name hl h0 ▸ e) (by decide)⟩
      · exact Fr.append (hx.1.append hg) (Fr.append hx.1 hx.2.1 (Fr.plain (by decide))) (Fr.plain (name_free hl (by decide)))
      · exact Fr.append (hx.1.append hg) (Fr.append hx.1 hx.2.2.1 (Fr.plain (by decide))) (Fr.plain (name_free hl (by decide)))
      · exact Fr.append (hx.1.append hg) (Fr.append hx.1 hx.2.2.2 (Fr.plain (by decide))) (Fr.plain (name_free hl (by decide)))
    | many nm hl h0 ks hk =>
      have hg : Nst ([] ++ 44 :: [32]) := Nst.plain (by decide)
      have hi : Nst (inter ([] ++ 44 :: [32]) (ks.map (rT f))) := Nst.inter hg (fun x hx => by
        obtain ⟨k, hk, rfl⟩ := List.mem_map.1 hx
        exact (ih' h0 k hk).nst)
      have h3 : Nst [32] := Nst.plain (by decide)
      refine ⟨(hi.brack.append h3).append (Nst.name hl), ?_, fun _ => ?_, fun _ => ⟨?_, EndL.name hl h0⟩, fun e => absurd (kd_name hl h0 ▸ e) (by decide), fun e => absurd (kd_name hl h0 ▸ e) (by decide)⟩
      all_goals exact Fr.append (hi.brack.append h3) (Fr.append hi.brack (Fr.brack hi (by decide) (by decide)) (Fr.plain (by decide))) (Fr.plain (name_free hl (by decide)))

theorem brack_inj {l m : List UInt8} (e : 40 :: (l ++ [41]) = 40 :: (m ++ [41])) : l = m := by simpa using e
/-- In brackets or not. -/
theorem tgt_inj {t u : Ty} (ht : Inv f t) (hu : Inv f u) (e : tgt f t = tgt f u) : rT f t = rT f u := by
  unfold tgt paren at e
  split at e <;> split at e
  · exact brack_inj e
  · next h => exact (EndL.brack (e ▸ hu.fin (by simpa using h))).elim
  · next h _ => exact (EndL.brack (e.symm ▸ ht.fin (by simpa using h))).elim
  · exact e

theorem comma_in {ks : List Ty} (hk : 2 ≤ ks.length) (hi : ∀ k ∈ ks, Inv f k) : ¬ Fr 44 (inter ([] ++ 44 :: [32]) (ks.map (rT f))) := by
  intro h
  match ks, hk with
  | x :: y :: ks, _ =>
    rw [List.map_cons, List.map_cons, inter_cons] at h
    have h' : Fr 44 (rT f x ++ 44 :: (32 :: inter ([] ++ 44 :: [32]) (rT f y :: ks.map (rT f)))) := by simpa using h
    exact h'.none (hi x (by simp)).nst

theorem no_mix {x : Ty} {ks : List Ty} (hx : Inv f x) (hk : 2 ≤ ks.length) (hi : ∀ k ∈ ks, Inv f k) (e : tgt f x = 40 :: (inter ([] ++ 44 :: [32]) (ks.map (rT f)) ++ [41])) : False := by
  unfold tgt paren at e
  split at e
  · exact comma_in hk hi (brack_inj e ▸ hx.com)
  · next h => exact EndL.brack (e ▸ hx.fin (by simpa using h))
theorem lft_inj {t u : Ty} (ht : Inv f t) (hu : Inv f u) (e : lft f t = lft f u) : rT f t = rT f u := by
  have key : ∀ {a b : Ty}, Inv f a → Inv f b → kd b ≠ 1 → 40 :: (rT f a ++ [41]) = rT f b → False := by
    intro a b ha hb hk e
    rcases Nat.eq_zero_or_pos (kd b) with h | h
    · exact EndL.brack (e ▸ hb.fin h)
    · have h2 : kd b = 2 := by
        obtain ⟨n, v, ks⟩ := b
        rw [kd_mk] at hk h ⊢
        split at h
        · next h1 => exact absurd (if_pos h1) hk
        · next h1 =>
          rw [if_neg h1]
          split at h
          · next h2 => rw [if_pos h2]
          · cases h
      exact hb.sta2 h2 (e ▸ Fr.brack ha.nst (by decide) (by decide))
  unfold lft paren at e
  split at e <;> split at e
  · exact brack_inj e
  · next h => exact (key ht hu (by simpa using h) e).elim
  · next h _ => exact (key hu ht (by simpa using h) e.symm).elim
  · exact e
theorem kd_le (t : Ty) : kd t = 0 ∨ kd t = 1 ∨ kd t = 2 := by
  obtain ⟨n, v, ks⟩ := t
  rw [kd_mk]
  split
  · exact .inr (.inl rfl)
  · split
    · exact .inr (.inr rfl)
    · exact .inl rfl
theorem kd_same {t u : Ty} (ht : Inv f t) (hu : Inv f u) (e : rT f t = rT f u) : kd t = kd u := by
  have k1 : kd t = 1 → kd u = 1 := fun h => Decidable.byContradiction fun h' => ht.arr1 h (e ▸ hu.arr h')
  have k2 : kd u = 1 → kd t = 1 := fun h => Decidable.byContradiction fun h' => hu.arr1 h (e ▸ ht.arr h')
  have k3 : kd t = 2 → kd u = 0 → False := fun h h' => ht.sta2 h (e ▸ hu.sta h')
  have k4 : kd u = 2 → kd t = 0 → False := fun h h' => hu.sta2 h (e ▸ ht.sta h')
  rcases kd_le t with a | a | a <;> rcases kd_le u with b | b | b
  all_goals first | omega | exact (k3 a b).elim | exact (k4 b a).elim

theorem no_two {c : UInt8} {p nm : List UInt8} (h0 : nm ≠ []) (e : [39, c] = (p ++ [32]) ++ nm) : False := by
  have h := congrArg List.length e
  have h1 := List.length_pos_iff.2 h0
  simp only [List.length_cons, List.length_nil, List.length_append] at h
  obtain rfl : p = [] := List.eq_nil_of_length_eq_zero (by omega)
  simp at e
theorem map_same {g : Ty → List UInt8} : ∀ {ks ls : List Ty}, (∀ k ∈ ks, ∀ l ∈ ls, g k = g l → k = l) → ks.map g = ls.map g → ks = ls
  | [], [], _, _ => rfl
  | [], _ :: _, _, e => by simp at e
  | _ :: _, [], _, e => by simp at e
  | k :: ks, l :: ls, h, e => by
    simp only [List.map_cons, List.cons.injEq] at e
    rw [h k (by simp) l (by simp) e.1, map_same (fun a ha b hb => h a (by simp [ha]) b (by simp [hb])) e.2]

/-- Types of one text are one. -/
theorem text_inj (hf : ∀ v : Int, 1 ≤ v → v ≤ 26 → f v = [39, UInt8.ofNat (96 + v.toNat)]) (t : Ty) : ∀ u, okT t → nmT t = true → okT u → nmT u = true → rT f t = rT f u → t = u := by
  induction t using Ty.rec' with
  | h nm v ks ih =>
    intro u h1 h2 h3 h4 e
    obtain ⟨nm', v', ks'⟩ := u
    have hkd := kd_same (inv_all hf _ h1 h2) (inv_all hf _ h3 h4) e
    have kk : ∀ {nm v ks}, okT (.mk nm v ks) → nmT (.mk nm v ks) = true → nm ≠ [] → ∀ k ∈ ks, okT k ∧ nmT k = true ∧ Inv f k := fun h1 h2 h0 k hk => by
      rw [nmT_mk] at h2
      simp only [Bool.and_eq_true, Bool.or_eq_true, beq_iff_eq] at h2
      unfold okT at h1
      have a := okTs_mem h1.2.2.2.2 k hk
      have b := nmTs_mem (h2.2.resolve_left h0) k hk
      exact ⟨a, b, inv_all hf k a b⟩
    have kt := kk h1 h2
    have ku := kk h3 h4
    have vt := view f hf h1 h2
    have vu := view f hf h3 h4
    clear kk h1 h2 h3 h4
    suffices h : ∀ X Y, View f (.mk nm v ks) X → View f (.mk nm' v' ks') Y → X = Y → Ty.mk nm v ks = Ty.mk nm' v' ks' from h _ _ vt vu e
    clear vt vu e
    have same : ∀ k ∈ ks, nm ≠ [] → ∀ l ∈ ks', nm' ≠ [] → rT f k = rT f l → k = l := fun k hk h0 l hl h0' e => by
      obtain ⟨a, b, _⟩ := kt h0 k hk
      obtain ⟨c, d, _⟩ := ku h0' l hl
      exact ih k hk l a b c d e
    have s1 : Nst [32] := Nst.plain (by decide)
    intro X Y hX hY e
    cases hX with
    | var v c l1 l2 hc =>
      cases hY with
      | var v' c' l1' l2' hc' =>
        simp only [List.cons.injEq, and_true, true_and] at e
        subst e
        have : v = v' := by omega
        rw [this]
      | fn x y => rw [kd_mk, kd_mk] at hkd; simp at hkd
      | prod ks hk => rw [kd_mk, kd_mk] at hkd; simp [hk] at hkd
      | leaf nm hl h0 => exact absurd (by rw [← e]; simp) (name_free hl (d := 39) (by decide))
      | one nm hl h0 x => exact (no_two h0 e).elim
      | many nm hl h0 ks hk => exact (no_two h0 e).elim
    | fn x y =>
      cases hY with
      | fn x' y' =>
        have ix := (kt (by simp) x (by simp)).2.2
        have ix' := (ku (by simp) x' (by simp)).2.2
        obtain ⟨e1, e2⟩ := Fr.split (ix.lft.1.append s1) (ix'.lft.1.append s1) (Fr.append ix.lft.1 ix.lft.2.2 (Fr.plain (by decide))) (Fr.append ix'.lft.1 ix'.lft.2.2 (Fr.plain (by decide))) e
        have e3 := lft_inj ix ix' (List.append_cancel_right e1)
        simp only [List.cons.injEq, true_and] at e2
        rw [same x (by simp) (by simp) x' (by simp) (by simp) e3, same y (by simp) (by simp) y' (by simp) (by simp) e2]
      | var => rw [kd_mk, kd_mk] at hkd; simp at hkd
      | prod ks hk => rw [kd_mk, kd_mk] at hkd; simp [hk] at hkd
      | leaf nm hl h0 => rw [kd_name hl h0, kd_mk] at hkd; simp at hkd
      | one nm hl h0 x => rw [kd_name hl h0, kd_mk] at hkd; simp at hkd
      | many nm hl h0 ks hk => rw [kd_name hl h0, kd_mk] at hkd; simp at hkd
    | prod ks hk =>
      cases hY with
      | prod ks' hk' =>
        have hm : ∀ {ls : List Ty}, (∀ k ∈ ls, Inv f k) → ∀ x ∈ ls.map (tgt f), Nst x ∧ Fr 42 x := fun h x hx => by
          obtain ⟨k, hk, rfl⟩ := List.mem_map.1 hx
          exact ⟨(h k hk).tgt.1, (h k hk).tgt.2.2.2⟩
        have e1 := inter_inj s1 (Fr.plain (by decide)) (Nst.plain (by decide)) (hm (fun k hk => (kt (by simp) k hk).2.2)) (hm (fun k hk => (ku (by simp) k hk).2.2)) (by rw [List.length_map]; omega) (by rw [List.length_map]; omega) e
        rw [map_same (fun k hk l hl e => same k hk (by simp) l hl (by simp) (tgt_inj (kt (by simp) k hk).2.2 (ku (by simp) l hl).2.2 e)) e1]
      | var => rw [kd_mk, kd_mk] at hkd; simp [hk] at hkd
      | fn => rw [kd_mk, kd_mk] at hkd; simp [hk] at hkd
      | leaf nm hl h0 => rw [kd_name hl h0, kd_mk] at hkd; simp [hk] at hkd
      | one nm hl h0 x => rw [kd_name hl h0, kd_mk] at hkd; simp [hk] at hkd
      | many nm hl h0 ks hk' => rw [kd_name hl h0, kd_mk] at hkd; simp [hk] at hkd
    | leaf nm hl h0 =>
      cases hY with
      | leaf nm' hl' h0' => rw [e]
      | var v c l1 l2 hc => exact absurd (by rw [e]; simp) (name_free hl (d := 39) (by decide))
      | fn x y => rw [kd_name hl h0, kd_mk] at hkd; simp at hkd
      | prod ks hk => rw [kd_name hl h0, kd_mk] at hkd; simp [hk] at hkd
      | one nm' hl' h0' x => exact absurd (by rw [e]; simp) (name_free hl (d := 32) (by decide))
      | many nm' hl' h0' ks hk => exact absurd (by rw [e]; simp) (name_free hl (d := 32) (by decide))
    | one nm hl h0 x =>
      cases hY with
      | one nm' hl' h0' x' =>
        obtain ⟨e1, e2⟩ := last_name hl hl' (.inr ⟨_, rfl⟩) (.inr ⟨_, rfl⟩) e
        have e3 := tgt_inj (kt h0 x (by simp)).2.2 (ku h0' x' (by simp)).2.2 (List.append_cancel_right e1)
        rw [e2, same x (by simp) h0 x' (by simp) h0' e3]
      | var => exact (no_two h0 e.symm).elim
      | fn x y => rw [kd_name hl h0, kd_mk] at hkd; simp at hkd
      | prod ks hk => rw [kd_name hl h0, kd_mk] at hkd; simp [hk] at hkd
      | leaf nm' hl' h0' => exact absurd (by rw [← e]; simp) (name_free hl' (d := 32) (by decide))
      | many nm' hl' h0' ks hk =>
        obtain ⟨e1, e2⟩ := last_name hl hl' (.inr ⟨_, rfl⟩) (.inr ⟨_, rfl⟩) e
        exact (no_mix (kt h0 x (by simp)).2.2 hk (fun k hk => (ku h0' k hk).2.2) (List.append_cancel_right e1)).elim
    | many nm hl h0 ks hk =>
      cases hY with
      | many nm' hl' h0' ks' hk' =>
        obtain ⟨e1, e2⟩ := last_name hl hl' (.inr ⟨_, rfl⟩) (.inr ⟨_, rfl⟩) e
        have e3 := brack_inj (List.append_cancel_right e1)
        have hm : ∀ {ls : List Ty}, (∀ k ∈ ls, Inv f k) → ∀ x ∈ ls.map (rT f), Nst x ∧ Fr 44 x := fun h x hx => by
          obtain ⟨k, hk, rfl⟩ := List.mem_map.1 hx
          exact ⟨(h k hk).nst, (h k hk).com⟩
        have e4 := inter_inj Nst.nil (Fr.plain (by decide)) (Nst.plain (by decide)) (hm (fun k hk => (kt h0 k hk).2.2)) (hm (fun k hk => (ku h0' k hk).2.2)) (by rw [List.length_map]; omega) (by rw [List.length_map]; omega) e3
        rw [e2, map_same (fun k hk l hl e => same k hk h0 l hl h0' e) e4]
      | var => exact (no_two h0 e.symm).elim
      | fn x y => rw [kd_name hl h0, kd_mk] at hkd; simp at hkd
      | prod ks hk => rw [kd_name hl h0, kd_mk] at hkd; simp [hk] at hkd
      | leaf nm' hl' h0' => exact absurd (by rw [← e]; simp) (name_free hl' (d := 32) (by decide))
      | one nm' hl' h0' x =>
        obtain ⟨e1, e2⟩ := last_name hl' hl (.inr ⟨_, rfl⟩) (.inr ⟨_, rfl⟩) e.symm
        exact (no_mix (ku h0' x (by simp)).2.2 hk (fun k hk => (kt h0 k hk).2.2) (List.append_cancel_right e1)).elim
end
end Go.Proofs.YtiimofdbconlhaaDoor
