/- Plain: the reference's list of places tells whether a function may run. -/
import Derived.Test.YtoplheipfbnobaaCodN
namespace CodM
abbrev Sn := Nat × Int × Int

theorem nd_len : ∀ (n : Nat) (l : List Nat), l.Nodup → (∀ x ∈ l, x < n) → l.length ≤ n := by
  intro n
  induction n with
  | zero =>
    intro l _ h
    cases l with
    | nil => simp
    | cons a l => exact absurd (h a (by simp)) (by omega)
  | succ n ih =>
    intro l hn h
    have h1 := ih (l.erase n) (hn.erase n) (fun x hx => by
      obtain ⟨h2, h3⟩ := (List.Nodup.mem_erase_iff hn).1 hx
      have := h x h3
      omega)
    rw [List.length_erase] at h1
    split at h1 <;> omega

/-- So far the list has come. -/
structure Work (fs : List Fun) (globs : Int) (f : Fun) (l : List Sn) (k : Nat) : Prop where
  zero : l[0]? = some (0, 1, 0)
  lt : ∀ p ∈ l, p.1 < f.code.length
  nd : (l.map (·.1)).Nodup
  bd : ∀ p ∈ l, 1 ≤ p.2.1 ∧ p.2.1 ≤ p.1 + 1 ∧ 0 ≤ p.2.2 ∧ p.2.2 ≤ p.1
  done : ∀ (j : Nat) (p : Sn) (x : Ins), j < k → l[j]? = some p → f.code[p.1]? = some x → alw fs f.caps globs x p.2.1 p.2.2 = true ∧ ∀ s ∈ succ x p.1 p.2.1 p.2.2, (p.1 : Int) < s.1 ∧ (s.1.toNat, s.2) ∈ l
  forced : ∀ F, Closed fs globs f F → ∀ p ∈ l, F p.1 = some p.2

theorem work_start {fs : List Fun} {globs : Int} {f : Fun} (h : 0 < f.code.length) : Work fs globs f [(0, 1, 0)] 0 := by
  refine ⟨rfl, ?_, by simp, ?_, fun j p x hj => absurd hj (by omega), ?_⟩
  · intro p hp
    obtain rfl := List.mem_singleton.1 hp
    exact h
  · intro p hp
    obtain rfl := List.mem_singleton.1 hp
    simp
  · intro F hF p hp
    obtain rfl := List.mem_singleton.1 hp
    exact hF.zero

/-- Where one gets to from a place. -/
structure Nexts (fs : List Fun) (globs : Int) (f : Fun) (p : Sn) (x : Ins) (T : List Sn) : Prop where
  hx : f.code[p.1]? = some x
  al : alw fs f.caps globs x p.2.1 p.2.2 = true
  all : ∀ s ∈ succ x p.1 p.2.1 p.2.2, (p.1 : Int) < s.1 ∧ (s.1.toNat, s.2) ∈ T
  only : ∀ q ∈ T, ∃ s ∈ succ x p.1 p.2.1 p.2.2, (p.1 : Int) < s.1 ∧ q = (s.1.toNat, s.2)

section
variable {fs : List Fun} {globs : Int} {f : Fun} {l T : List Sn} {k : Nat} {p s q : Sn} {x : Ins}
theorem Work.len (h : Work fs globs f l k) : l.length ≤ f.code.length := by
  have := nd_len f.code.length (l.map (·.1)) h.nd (by
    intro y hy
    obtain ⟨p, hp, rfl⟩ := List.mem_map.1 hy
    exact h.lt p hp)
  simpa using this
theorem Work.bad (h : Work fs globs f l k) (hp : p ∈ l) (hx : f.code[p.1]? = some x) (hal : alw fs f.caps globs x p.2.1 p.2.2 = false) : ¬ ∃ F, Closed fs globs f F := by
  rintro ⟨F, hF⟩
  obtain ⟨y, hy, ha, _⟩ := hF.at_ p.1 p.2.1 p.2.2 (h.forced F hF p hp)
  rw [hx] at hy
  injection hy with hy
  subst hy
  rw [hal] at ha
  cases ha
/-- A jump that leads to no later place. -/
theorem Work.jump (h : Work fs globs f l k) (hp : p ∈ l) (hx : f.code[p.1]? = some x) {sn : Int × Int × Int} (hs : sn ∈ succ x p.1 p.2.1 p.2.2) (hj : sn.1 ≤ p.1 ∨ (f.code.length : Int) ≤ sn.1) : ¬ ∃ F, Closed fs globs f F := by
  rintro ⟨F, hF⟩
  obtain ⟨y, hy, _, ha⟩ := hF.at_ p.1 p.2.1 p.2.2 (h.forced F hF p hp)
  rw [hx] at hy
  injection hy with hy
  subst hy
  obtain ⟨h1, h2⟩ := ha sn hs
  have := hF.lt _ _ h2
  omega
theorem Nexts.forced (h : Nexts fs globs f p x T) (hw : Work fs globs f l k) (hp : p ∈ l) (hs : s ∈ T) {F : Nat → Option (Int × Int)} (hF : Closed fs globs f F) : F s.1 = some s.2 := by
  obtain ⟨y, hy, _, ha⟩ := hF.at_ p.1 p.2.1 p.2.2 (hw.forced F hF p hp)
  rw [h.hx] at hy
  injection hy with hy
  subst hy
  obtain ⟨sn, h1, h2, rfl⟩ := h.only s hs
  exact (ha sn h1).2
theorem Nexts.far (h : Nexts fs globs f p x T) (hw : Work fs globs f l k) (hp : p ∈ l) (hs : s ∈ T) (hf : f.code.length ≤ s.1) : ¬ ∃ F, Closed fs globs f F := by
  rintro ⟨F, hF⟩
  have := hF.lt _ _ (h.forced hw hp hs hF)
  omega
theorem Nexts.clash (h : Nexts fs globs f p x T) (hw : Work fs globs f l k) (hp : p ∈ l) (hs : s ∈ T) (hq : q ∈ l) (h1 : q.1 = s.1) (h2 : q ≠ s) : ¬ ∃ F, Closed fs globs f F := by
  rintro ⟨F, hF⟩
  have a := h.forced hw hp hs hF
  have b := hw.forced F hF q hq
  rw [h1, a] at b
  injection b with b
  exact h2 (Prod.ext h1 b.symm)
theorem Nexts.add (h : Nexts fs globs f p x T) (hw : Work fs globs f l k) (hp : p ∈ l) (hs : s ∈ T) (hlt : s.1 < f.code.length) (hn : ∀ q ∈ l, q.1 ≠ s.1) (hk : k ≤ l.length) (hc : f.code.length ≤ 100000) : Work fs globs f (l ++ [s]) k := by
  have hb := hw.bd p hp
  have hpl := hw.lt p hp
  refine ⟨?_, ?_, ?_, ?_, ?_, ?_⟩
  · have := hw.zero
    rw [List.getElem?_append_left (by
      have := (List.getElem?_eq_some_iff.1 this).1
      exact this)]
    exact this
  · intro q hq
    rcases List.mem_append.1 hq with hq | hq
    · exact hw.lt q hq
    · obtain rfl := List.mem_singleton.1 hq
      exact hlt
  · rw [List.map_append, List.nodup_append]
    refine ⟨hw.nd, by simp, ?_⟩
    intro a ha b hb'
    obtain ⟨q, hq, rfl⟩ := List.mem_map.1 ha
    simp only [List.map_cons, List.map_nil, List.mem_singleton] at hb'
    subst hb'
    exact hn q hq
  · intro q hq
    rcases List.mem_append.1 hq with hq | hq
    · exact hw.bd q hq
    · obtain rfl := List.mem_singleton.1 hq
      obtain ⟨sn, h1, h2, rfl⟩ := h.only _ hs
      have hsu := alw_succ h.al hb.1 (by omega) hb.2.2.1 p.1 sn h1
      simp only
      omega
  · intro j q y hj hq hy
    rw [List.getElem?_append_left (by omega)] at hq
    obtain ⟨h1, h2⟩ := hw.done j q y hj hq hy
    exact ⟨h1, fun sn hsn => ⟨(h2 sn hsn).1, List.mem_append_left _ (h2 sn hsn).2⟩⟩
  · intro F hF q hq
    rcases List.mem_append.1 hq with hq | hq
    · exact hw.forced F hF q hq
    · obtain rfl := List.mem_singleton.1 hq
      exact h.forced hw hp hs hF
theorem Nexts.step (h : Nexts fs globs f p x T) (hw : Work fs globs f l k) (hp : l[k]? = some p) (hT : ∀ s ∈ T, s ∈ l) : Work fs globs f l (k + 1) := by
  refine ⟨hw.zero, hw.lt, hw.nd, hw.bd, ?_, hw.forced⟩
  intro j q y hj hq hy
  by_cases e : j = k
  · subst e
    rw [hp] at hq
    injection hq with hq
    subst hq
    rw [h.hx] at hy
    injection hy with hy
    subst hy
    exact ⟨h.al, fun sn hsn => ⟨(h.all sn hsn).1, hT _ (h.all sn hsn).2⟩⟩
  · exact hw.done j q y (by omega) hq hy
theorem Work.end_ (h : Work fs globs f l l.length) : ∃ F, Closed fs globs f F := by
  have key : ∀ (j : Nat) (s : Int × Int), (l.find? (fun q => q.1 == j)).map (·.2) = some s ↔ (j, s) ∈ l := by
    intro j s
    constructor
    · intro hs
      rw [Option.map_eq_some_iff] at hs
      obtain ⟨q, hq, rfl⟩ := hs
      have h1 := List.find?_some hq
      have h2 := List.mem_of_find?_eq_some hq
      simp only [beq_iff_eq] at h1
      rw [← h1]
      exact h2
    · intro hs
      rcases hf : l.find? (fun q => q.1 == j) with _ | q
      · rw [List.find?_eq_none] at hf
        have := hf _ hs
        simp at this
      · have h1 := List.find?_some hf
        have h2 := List.mem_of_find?_eq_some hf
        simp only [beq_iff_eq] at h1
        obtain ⟨i1, e1⟩ := List.getElem?_of_mem h2
        obtain ⟨i2, e2⟩ := List.getElem?_of_mem hs
        have g1 : (l.map (·.1))[i1]? = some q.1 := by rw [List.getElem?_map, e1]; rfl
        have g2 : (l.map (·.1))[i2]? = some j := by rw [List.getElem?_map, e2]; rfl
        have : i1 = i2 := by
          have hl1 := (List.getElem?_eq_some_iff.1 g1).1
          exact (List.getElem?_inj hl1 h.nd).1 (by rw [g1, g2, h1])
        subst this
        rw [e1] at e2
        injection e2 with e2
        rw [hf, e2]
        rfl
  refine ⟨fun j => (l.find? (fun q => q.1 == j)).map (·.2), ?_, ?_⟩
  · exact (key 0 (1, 0)).2 (List.mem_of_getElem? h.zero)
  · intro i d t hi
    have hm := (key i (d, t)).1 hi
    obtain ⟨j, hj⟩ := List.getElem?_of_mem hm
    have hjl := (List.getElem?_eq_some_iff.1 hj).1
    have hlt := h.lt _ hm
    obtain ⟨h1, h2⟩ := h.done j _ f.code[i] hjl hj (List.getElem?_eq_getElem hlt)
    exact ⟨f.code[i], List.getElem?_eq_getElem hlt, h1, fun s hs => ⟨(h2 s hs).1, (key _ _).2 (h2 s hs).2⟩⟩
end
end CodM
