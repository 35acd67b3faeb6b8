/- Plain: one pass through the places of a function tells whether it may run. -/
import Derived.Test.YtpmbdncackneoaaDoorCodD
namespace CodM

theorem alw_succ {fs : List Fun} {caps globs : Int} {x : Ins} {d t : Int} (h : alw fs caps globs x d t = true) (h1 : 1 ≤ d) (hd : d ≤ 1000000) (ht : 0 ≤ t) (i : Nat) :
    ∀ s ∈ succ x i d t, 1 ≤ s.2.1 ∧ s.2.1 ≤ d + 1 ∧ 0 ≤ s.2.2 ∧ s.2.2 ≤ t + 1 := by
  obtain ⟨hT0, hT1, hL0, hL1, _⟩ := alw_tk h hd h1
  have h0 := h
  unfold alw at h
  simp only [Bool.and_eq_true, decide_eq_true_eq] at h
  obtain ⟨⟨_, _⟩, h3⟩ := h
  intro s hs
  unfold succ at hs
  by_cases e8 : x.op = 8 ∨ x.op = 26
  · rw [if_pos e8] at hs; cases hs
  rw [if_neg e8] at hs
  have e8' : x.op ≠ 8 := fun e => e8 (.inl e)
  rw [if_neg e8'] at h3
  by_cases e12 : x.op = 12
  · rw [if_pos e12] at hs
    obtain rfl := List.mem_singleton.1 hs
    simp only; omega
  rw [if_neg e12] at hs
  by_cases e13 : x.op = 13
  · rw [if_pos e13] at hs
    rw [if_neg (by omega)] at h3
    have : tk x = 1 := by unfold tk; rw [if_neg (by omega), if_neg (by omega), if_neg (by omega), if_neg (by omega), if_pos (by omega)]
    simp only [decide_eq_true_eq] at h3
    simp only [List.mem_cons, List.not_mem_nil, or_false] at hs
    rcases hs with rfl | rfl <;> (simp only; omega)
  rw [if_neg e13] at hs
  by_cases e24 : x.op = 24
  · rw [if_pos e24] at hs
    simp only [List.mem_cons, List.not_mem_nil, or_false] at hs
    rcases hs with rfl | rfl <;> (simp only; omega)
  rw [if_neg e24] at hs
  by_cases e25 : x.op = 25
  · rw [if_pos e25] at hs
    rw [if_pos e25, decide_eq_true_eq] at h3
    obtain rfl := List.mem_singleton.1 hs
    simp only; omega
  rw [if_neg e25] at hs
  rw [if_neg e25, decide_eq_true_eq] at h3
  obtain rfl := List.mem_singleton.1 hs
  simp only; omega

/-- What is known of places agrees with F. -/
def Agree (F : Nat → Option (Int × Int)) (A : List (Int × Int)) : Prop := ∀ (j : Nat) (d t : Int), A[j]? = some (d, t) → d ≠ 0 → F j = some (d, t)

theorem rch_forced {F : Nat → Option (Int × Int)} {B : List (Int × Int)} {j : Nat} {s : Int × Int} (hF : F j = some s) (hB : Agree F B) (hj : j < B.length) : (rch B j s).1 = true ∧ Agree F (rch B j s).2 := by
  obtain ⟨d, t⟩ := s
  unfold rch
  obtain ⟨a, b, hab⟩ : ∃ a b, B[j]? = some (a, b) := ⟨_, _, List.getElem?_eq_getElem hj⟩
  rw [hab]
  simp only
  by_cases h0 : a = 0
  · rw [if_pos h0]
    refine ⟨rfl, fun j' d' t' h' hd' => ?_⟩
    rw [List.getElem?_set] at h'
    by_cases e : j = j'
    · subst e
      rw [if_pos rfl, if_pos hj] at h'
      rw [hF]; exact h'
    · rw [if_neg e] at h'
      exact hB j' d' t' h' hd'
  · rw [if_neg h0]
    have := hB j a b hab h0
    rw [hF] at this
    injection this with this
    injection this with e1 e2
    exact ⟨by simp [e1, e2], hB⟩

theorem goes_forced {F : Nat → Option (Int × Int)} {i : Nat} (l : List (Int × Int × Int)) (B : List (Int × Int)) (hF : ∀ s ∈ l, (i : Int) < s.1 ∧ F s.1.toNat = some s.2) (hB : Agree F B) (hn : ∀ j s, F j = some s → j < B.length) :
    (goes i l B).1 = true ∧ Agree F (goes i l B).2 := by
  induction l generalizing B with
  | nil => exact ⟨rfl, hB⟩
  | cons s l ih =>
    obtain ⟨h1, h2⟩ := hF s (by simp)
    obtain ⟨r1, r2⟩ := rch_forced h2 hB (hn _ _ h2)
    have hl := rch_length B s.1.toNat s.2
    unfold goes
    rw [if_pos h1, if_pos r1]
    exact ih _ (fun s hs => hF s (by simp [hs])) r2 (fun j s hs => by rw [hl]; exact hn j s hs)

/-- What a place's following ones leave. -/
structure Went (i : Nat) (l : List (Int × Int × Int)) (A A' : List (Int × Int)) : Prop where
  len : A'.length = A.length
  here : ∀ s ∈ l, (i : Int) < s.1 ∧ A'[s.1.toNat]? = some s.2
  old : ∀ j, A'[j]? = A[j]? ∨ (∃ t, A[j]? = some (0, t)) ∧ ∃ s ∈ l, (i : Int) < s.1 ∧ s.1.toNat = j ∧ A'[j]? = some s.2

theorem rch_went {A A' : List (Int × Int)} {j : Nat} {s : Int × Int} (h : rch A j s = (true, A')) : A'.length = A.length ∧ A'[j]? = some s ∧ ∀ k, A'[k]? = A[k]? ∨ (∃ t, A[k]? = some (0, t)) ∧ j = k := by
  have hl := rch_length A j s
  rw [h] at hl
  unfold rch at h
  split at h
  · injection h with h; cases h
  · rename_i a ha
    split at h
    · rename_i h0
      injection h with _ h
      subst h
      have hj : j < A.length := (List.getElem?_eq_some_iff.1 ha).1
      refine ⟨hl, by rw [List.getElem?_set, if_pos rfl, if_pos hj], fun k => ?_⟩
      by_cases e : j = k
      · subst e
        exact .inr ⟨⟨a.2, by rw [ha, ← h0]⟩, rfl⟩
      · exact .inl (by rw [List.getElem?_set, if_neg e])
    · injection h with h1 h
      subst h
      rw [decide_eq_true_eq] at h1
      exact ⟨hl, by rw [ha, Option.some.injEq, Prod.ext_iff]; exact h1, fun k => .inl rfl⟩

theorem goes_went {i : Nat} (l : List (Int × Int × Int)) (A A' : List (Int × Int)) (h : goes i l A = (true, A')) (hl : ∀ s ∈ l, s.2.1 ≠ 0) : Went i l A A' := by
  induction l generalizing A with
  | nil =>
    injection h with _ h
    subst h
    exact ⟨rfl, (fun s hs => by cases hs), fun j => .inl rfl⟩
  | cons s l ih =>
    unfold goes at h
    by_cases h1 : (i : Int) < s.1
    · rw [if_pos h1] at h
      rcases hr : rch A s.1.toNat s.2 with ⟨b, B⟩
      rw [hr] at h
      cases b
      · simp at h
      · simp at h
        obtain ⟨g1, g2, g3⟩ := rch_went hr
        have ih := ih B h (fun s hs => hl s (by simp [hs]))
        have hkeep : ∀ (j : Nat) (a : Int × Int), B[j]? = some a → a.1 ≠ 0 → A'[j]? = some a := by
          intro j a ha h0
          rcases ih.old j with e | ⟨⟨t, ht⟩, _⟩
          · rw [e, ha]
          · rw [ha] at ht
            injection ht with ht
            rw [ht] at h0
            exact absurd rfl h0
        refine ⟨ih.len.trans g1, fun s' hs => ?_, fun j => ?_⟩
        · rcases List.mem_cons.1 hs with rfl | hs
          · exact ⟨h1, hkeep _ _ g2 (hl _ (by simp))⟩
          · exact ih.here s' hs
        · rcases ih.old j with e | ⟨⟨t, ht⟩, s', hs', hi, e1, e2⟩
          · rcases g3 j with e' | ⟨⟨t, ht⟩, rfl⟩
            · exact .inl (e.trans e')
            · exact .inr ⟨⟨t, ht⟩, s, by simp, h1, rfl, by rw [e, g2]⟩
          · refine .inr ⟨?_, s', by simp [hs'], hi, e1, e2⟩
            rcases g3 j with e' | ⟨h0, rfl⟩
            · exact ⟨t, by rw [← e', ht]⟩
            · exact h0
    · rw [if_neg h1] at h
      simp at h

/-- So far the pass has come. -/
structure Pass (fs : List Fun) (globs : Int) (f : Fun) (A : List (Int × Int)) (k : Nat) : Prop where
  len : A.length = f.code.length
  zero : A[0]? = some (1, 0)
  bd : ∀ (j : Nat) (d t : Int), A[j]? = some (d, t) → 0 ≤ d ∧ d ≤ j + 1 ∧ 0 ≤ t ∧ t ≤ j
  done : ∀ (j : Nat) (d t : Int) (x : Ins), j < k → A[j]? = some (d, t) → d ≠ 0 → f.code[j]? = some x → alw fs f.caps globs x d t = true ∧ ∀ s ∈ succ x j d t, (j : Int) < s.1 ∧ A[s.1.toNat]? = some s.2
  forced : ∀ F, Closed fs globs f F → Agree F A

theorem Closed.lt {fs : List Fun} {globs : Int} {f : Fun} {F : Nat → Option (Int × Int)} (h : Closed fs globs f F) (j : Nat) (s : Int × Int) (hs : F j = some s) : j < f.code.length := by
  obtain ⟨x, hx, _⟩ := h.at_ j s.1 s.2 hs
  exact (List.getElem?_eq_some_iff.1 hx).1

theorem pass_start {fs : List Fun} {globs : Int} {f : Fun} (h0 : 0 < f.code.length) : Pass fs globs f ((List.replicate f.code.length (0, 0)).set 0 (1, 0)) 0 := by
  have hget : ∀ j (d t : Int), ((List.replicate f.code.length ((0 : Int), (0 : Int))).set 0 (1, 0))[j]? = some (d, t) → (j = 0 ∧ d = 1 ∧ t = 0) ∨ (d = 0 ∧ t = 0) := by
    intro j d t h
    rw [List.getElem?_set] at h
    by_cases e : 0 = j
    · subst e
      rw [if_pos rfl, if_pos (by simpa using h0)] at h
      injection h with h
      injection h with h1 h2
      exact .inl ⟨rfl, h1.symm, h2.symm⟩
    · rw [if_neg e, List.getElem?_replicate] at h
      split at h
      · injection h with h
        injection h with h1 h2
        exact .inr ⟨h1.symm, h2.symm⟩
      · cases h
  refine ⟨by simp, by rw [List.getElem?_set, if_pos rfl, if_pos (by simpa using h0)], fun j d t h => ?_, fun j d t x h => by omega, fun F hF j d t h hd => ?_⟩
  · rcases hget j d t h with ⟨rfl, rfl, rfl⟩ | ⟨rfl, rfl⟩ <;> omega
  · rcases hget j d t h with ⟨rfl, rfl, rfl⟩ | ⟨rfl, rfl⟩
    · exact hF.zero
    · exact absurd rfl hd

section
variable {fs : List Fun} {globs : Int} {f : Fun} {A A' : List (Int × Int)} {k : Nat} {d t : Int} {x : Ins}
theorem Pass.skip (h : Pass fs globs f A k) (hk : A[k]? = some (0, t)) : Pass fs globs f A (k + 1) := by
  refine ⟨h.len, h.zero, h.bd, fun j d' t' x hj ha hd hx => ?_, h.forced⟩
  by_cases e : j = k
  · subst e
    rw [hk] at ha
    injection ha with ha
    injection ha with ha _
    exact absurd ha.symm hd
  · exact h.done j d' t' x (by omega) ha hd hx
theorem Pass.bad (h : Pass fs globs f A k) (hk : A[k]? = some (d, t)) (hd : d ≠ 0) (hx : f.code[k]? = some x) (hal : alw fs f.caps globs x d t = false) : ¬ ∃ F, Closed fs globs f F := by
  rintro ⟨F, hF⟩
  obtain ⟨y, hy, ha, _⟩ := hF.at_ k d t (h.forced F hF k d t hk hd)
  rw [hx] at hy
  injection hy with hy
  subst hy
  rw [hal] at ha
  cases ha
theorem Pass.no (h : Pass fs globs f A k) (hk : A[k]? = some (d, t)) (hd : d ≠ 0) (hx : f.code[k]? = some x) (hg : goes k (succ x k d t) A = (false, A')) : ¬ ∃ F, Closed fs globs f F := by
  rintro ⟨F, hF⟩
  obtain ⟨y, hy, ha, hs⟩ := hF.at_ k d t (h.forced F hF k d t hk hd)
  rw [hx] at hy
  injection hy with hy
  subst hy
  have := (goes_forced (succ x k d t) A hs (h.forced F hF) (fun j s hs => by rw [h.len]; exact hF.lt j s hs)).1
  rw [hg] at this
  cases this
theorem Pass.step (h : Pass fs globs f A k) (hn : f.code.length ≤ 100000) (hk : A[k]? = some (d, t)) (hd : d ≠ 0) (hx : f.code[k]? = some x) (hal : alw fs f.caps globs x d t = true) (hg : goes k (succ x k d t) A = (true, A')) : Pass fs globs f A' (k + 1) := by
  have hb := h.bd k d t hk
  have hkl : k < f.code.length := (List.getElem?_eq_some_iff.1 hx).1
  have hsu := alw_succ hal (by omega) (by omega) hb.2.2.1 k
  have hw := goes_went _ _ _ hg (fun s hs => by have := hsu s hs; omega)
  have keep : ∀ (j : Nat) (a : Int × Int), A[j]? = some a → a.1 ≠ 0 → A'[j]? = some a := by
    intro j a ha h0
    rcases hw.old j with e | ⟨⟨t, ht⟩, _⟩
    · rw [e, ha]
    · rw [ha] at ht
      injection ht with ht
      rw [ht] at h0
      exact absurd rfl h0
  refine ⟨hw.len.trans h.len, keep 0 _ h.zero (by simp), fun j d' t' ha => ?_, fun j d' t' y hj ha hd' hy => ?_, fun F hF => ?_⟩
  · rcases hw.old j with e | ⟨_, s, hs, hi, e1, e2⟩
    · exact h.bd j d' t' (by rw [← e]; exact ha)
    · rw [ha] at e2
      injection e2 with e2
      have := hsu s hs
      rw [← e2] at this
      simp only at this
      omega
  · have hback : A[j]? = some (d', t') := by
      rcases hw.old j with e | ⟨_, s, hs, hi, e1, e2⟩
      · rw [← e]; exact ha
      · omega
    by_cases e : j = k
    · subst e
      rw [hk] at hback
      injection hback with hback
      injection hback with g1 g2
      subst g1 g2
      rw [hx] at hy
      injection hy with hy
      subst hy
      exact ⟨hal, hw.here⟩
    · obtain ⟨g1, g2⟩ := h.done j d' t' y (by omega) hback hd' hy
      have hb' := h.bd j d' t' hback
      have hjl : j < f.code.length := (List.getElem?_eq_some_iff.1 hy).1
      have hsu' := alw_succ g1 (by omega) (by omega) hb'.2.2.1 j
      exact ⟨g1, fun s hs => ⟨(g2 s hs).1, keep _ _ (g2 s hs).2 (by have := hsu' s hs; omega)⟩⟩
  · obtain ⟨y, hy, _, hs⟩ := hF.at_ k d t (h.forced F hF k d t hk hd)
    rw [hx] at hy
    injection hy with hy
    subst hy
    have := (goes_forced (succ x k d t) A hs (h.forced F hF) (fun j s hs => by rw [h.len]; exact hF.lt j s hs)).2
    rw [hg] at this
    exact this
theorem Pass.end_ (h : Pass fs globs f A f.code.length) (hn : f.code.length ≤ 100000) : ∃ F, Closed fs globs f F := by
  refine ⟨fun j => match A[j]? with | some (d, t) => if d = 0 then none else some (d, t) | none => none, ?_, ?_⟩
  · simp only [h.zero]; rfl
  · intro i d t hi
    rcases hA : A[i]? with _ | ⟨d', t'⟩
    · simp [hA] at hi
    · simp only [hA] at hi
      split at hi
      · cases hi
      · rename_i hd
        injection hi with hi
        injection hi with e1 e2
        subst e1 e2
        have hil : i < f.code.length := by rw [← h.len]; exact (List.getElem?_eq_some_iff.1 hA).1
        have hb := h.bd i _ _ hA
        obtain ⟨g1, g2⟩ := h.done i _ _ f.code[i] hil hA hd (List.getElem?_eq_getElem hil)
        refine ⟨f.code[i], List.getElem?_eq_getElem hil, g1, fun s hs => ⟨(g2 s hs).1, ?_⟩⟩
        have hsu := alw_succ g1 (by omega) (by omega) hb.2.2.1 i s hs
        have g3 := (g2 s hs).2
        simp only [g3]
        have hne : s.2.1 ≠ 0 := by omega
        simp [hne]
end
end CodM
