/- The reference's text of a type: the plain words, and the ways without an open order. -/
import Derived.Test.YtiimofdbconlhaaDoorPriWs
import Derived.Test.YtiimofdbconlhaaDoorPriFb
namespace Go.Proofs.YtiimofdbconlhaaDoor
open Go.RowKit PriM

/-- What stands for a type at a place: 0 as it is, 1 ahead of an arrow, 2 in a product or ahead of a name. -/
def rH (how : Nat) (t : Ty) : List UInt8 := paren ((decide (0 < how) && kd t == 1) || (decide (1 < how) && kd t == 2)) (rT vn t)
theorem rH0 (t : Ty) : rH 0 t = rT vn t := by unfold rH; simp [paren]
theorem rH1 (t : Ty) : rH 1 t = paren (kd t == 1) (rT vn t) := by unfold rH; simp
theorem kd_cases (t : Ty) : kd t = 0 ∨ kd t = 1 ∨ kd t = 2 := by
  obtain ⟨n, v, ks⟩ := t
  rw [kd_mk]
  split
  · exact .inr (.inl rfl)
  · split
    · exact .inr (.inr rfl)
    · exact .inl rfl
theorem rH2 (t : Ty) : rH 2 t = paren (kd t != 0) (rT vn t) := by
  unfold rH
  rcases kd_cases t with h | h | h
  all_goals rw [h]; simp

theorem inter_snoc (gap : List UInt8) (l : List (List UInt8)) (a : List UInt8) : inter gap (l ++ [a]) = if l = [] then a else inter gap l ++ (gap ++ a) := by
  induction l with
  | nil => rfl
  | cons x l ih =>
    rw [if_neg (by simp)]
    cases l with
    | nil => simp [inter]
    | cons y l =>
      rw [if_neg (by simp)] at ih
      simp only [List.cons_append, inter] at ih ⊢
      rw [ih]
      simp
theorem inter_le (gap : List UInt8) (b : List (List UInt8)) : ∀ a, (inter gap a).length ≤ (inter gap (a ++ b)).length := by
  induction b with
  | nil => intro a; simp
  | cons x b ih =>
    intro a
    have h1 := ih (a ++ [x])
    rw [List.append_assoc, List.singleton_append] at h1
    refine Nat.le_trans ?_ h1
    rw [inter_snoc]
    split
    · next h => rw [h]; exact Nat.zero_le _
    · simp
/-- The next of them. -/
theorem inter_take (gap : List UInt8) (l : List (List UInt8)) (k : Nat) (h : k < l.length) : inter gap (l.take (k + 1)) = if k = 0 then l[k] else inter gap (l.take k) ++ (gap ++ l[k]) := by
  rw [List.take_succ_eq_append_getElem h, inter_snoc]
  by_cases h0 : k = 0
  · subst h0; simp
  · rw [if_neg h0, if_neg (by intro e; have := congrArg List.length e; rw [List.length_take, List.length_nil] at this; omega)]
theorem inter_take_le (gap : List UInt8) (l : List (List UInt8)) (k : Nat) : (inter gap (l.take k)).length ≤ (inter gap l).length := by
  have := inter_le gap (l.drop k) (l.take k)
  rwa [List.take_append_drop] at this
theorem inter_mem (gap : List UInt8) : ∀ (l : List (List UInt8)) (x : List UInt8), x ∈ l → x.length ≤ (inter gap l).length
  | [a], x, h => by
    simp only [List.mem_cons, List.not_mem_nil, or_false] at h
    subst h
    exact Nat.le_refl _
  | a :: b :: l, x, h => by
    simp only [inter, List.length_append]
    rcases List.mem_cons.1 h with rfl | h
    · omega
    · have := inter_mem gap (b :: l) x h; omega

theorem paren_len (b : Bool) (l : List UInt8) : l.length ≤ (paren b l).length ∧ (paren b l).length ≤ l.length + 2 := by
  unfold paren
  split
  · simp only [List.length_cons, List.length_append, List.length_nil]; omega
  · exact ⟨Nat.le_refl _, by omega⟩

/-- A type in memory whose text is not too long. -/
structure RtC (n : Nat) (w : World) (t : Ty) (c0 c1 c2 : Value) : Prop where
  ty : TyV n w t c0 c1 c2
  ok : okT t
  low : n ≤ w.heap.size
  len : (rT vn t).length ≤ 100000000000000
  nl : wN t ≤ 100000000000000

theorem RtC.on {n : Nat} {w w' : World} {t : Ty} {c0 c1 c2 : Value} (h : RtC n w t c0 c1 c2) (hb : Below n w w') : RtC n w' t c0 c1 c2 :=
  ⟨TyV.below hb t h.ty, h.ok, Nat.le_trans h.low hb.size, h.len, h.nl⟩

set_option maxRecDepth 100000 in
theorem rtype_var (n : Nat) (v : Int) (ks : List Ty) (how : Nat) (w : World) (c0 c1 c2 : Value) (h : RtC n w (.mk [] v ks) c0 c1 c2) :
    Calls Tryd.prog 11 #[.agg #[c0, c1, c2], .int .i64 (how : Int)] w (TextPost w (rH how (.mk [] v ks))) := by
  obtain ⟨rfl, rfl, v0, v1, o, c, rfl, -⟩ := h.ty
  have ek : kd (.mk [] v ks) = 0 := by rw [kd_mk]; simp
  have e : rH how (.mk [] v ks) = vn v := by unfold rH; rw [ek]; simp [paren, rT, body]
  rw [e]
  obtain ⟨S, hS⟩ : ∃ S : ByteArray, S = ⟨([] : List UInt8).toArray⟩ := ⟨_, rfl⟩
  have t1 : (S.toList == []) = true := by rw [hS, toList_mk]; rfl
  have t2 : S.toList.isEmpty = true := by rw [hS, toList_mk]; rfl
  rw [← hS]
  have H1 := Lib.hid (One.new w (.string S) (.int .i64 v) (.slice o ks.length c))
  have HV := Lib.hid (fun W => rvar_any v W v0 v1)
  clear h e ek hS
  generalize ks.length = L at *
  go_enter Tryd.func11, Tryd.ntmps11
  go_wp2_with fail
  go_at_call 17
  refine (HV.out _).mono ?_
  rintro e w1 ⟨rfl, hb⟩
  have HF := Lib.hid (H1.out.on hb).bel
  clear hb H1 HV
  go_wp2_with fail
  go_ret
  exact ⟨rfl, HF.out⟩

set_option maxRecDepth 100000 in
theorem rtype_leaf (n : Nat) (nm : List UInt8) (v : Int) (how : Nat) (w : World) (c0 c1 c2 : Value) (h : RtC n w (.mk nm v []) c0 c1 c2) (hnm : nm ≠ []) :
    Calls Tryd.prog 11 #[.agg #[c0, c1, c2], .int .i64 (how : Int)] w (TextPost w (rH how (.mk nm v []))) := by
  obtain ⟨rfl, rfl, v0, v1, o, c, rfl, -⟩ := h.ty
  have hok := h.ok
  unfold okT at hok
  obtain ⟨-, h2, h3, -, -⟩ := hok
  have n2 : nm ≠ [45, 62] := fun e => by have := h2 e; simp at this
  have n3 : nm ≠ [42] := fun e => by have := h3 e; simp at this
  have ek : kd (.mk nm v []) = 0 := by rw [kd_mk]; simp
  have e : rH how (.mk nm v []) = nm := by unfold rH; rw [ek]; simp [paren, rT, rTs, body, hnm]
  rw [e]
  obtain ⟨S, hS⟩ : ∃ S : ByteArray, S = ⟨nm.toArray⟩ := ⟨_, rfl⟩
  have t1 : (S.toList == []) = false := by rw [hS, toList_mk]; simpa using hnm
  have t2 : S.toList.isEmpty = false := by rw [hS, toList_mk]; simpa using hnm
  have t3 : (S.toList == [45, 62]) = false := by rw [hS, toList_mk]; simpa using n2
  have t4 : (S.toList == [42]) = false := by rw [hS, toList_mk]; simpa using n3
  rw [show ([] : List Ty).length = 0 from rfl]
  have HF := Lib.hid (show TextPost w nm (.returned (.string S)) (w.alloc (.cells #[.string S, .int .i64 v, .slice o 0 c] 24)) from ⟨by rw [hS], (Below.refl _ _).alloc (Nat.le_refl _) _⟩)
  rw [← hS]
  clear h e ek hS h2 h3 n2 n3 hnm
  go_enter Tryd.func11, Tryd.ntmps11
  go_wp2_with fail
  go_ret
  exact HF.out
end Go.Proofs.YtiimofdbconlhaaDoor
