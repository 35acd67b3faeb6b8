/- The law's state: a heap that is played with, its roots, the model's words. -/
/- The law's state: a part is another word, words behind the model's, roots left out; what is asked at a round's end. -/
/- The law's put, as its model sees it. -/
/- The law's roots are objects, before and behind a collection. -/
import Derived.Test.YtkdhajiplonloaaHeaPm
namespace Go.Proofs.Ytkdhajiplonloaa
open Go.RowKit HeaM

/-- The law's state. -/
structure GmS (w wr : World) (d q c : Nat) (W : List Nat) (F : List Bool) (rv mv : Value) (xs : List Nat) (v1 v2 : Value) : Prop where
  p : PlS w wr d q c W F rv xs v1 v2
  m : OwnU wr w.heap.size mv W

theorem GmS.more {w wr w' : World} {d q c : Nat} {W : List Nat} {F : List Bool} {rv mv v1 v2 : Value} {xs : List Nat} (h : GmS w wr d q c W F rv mv xs v1 v2) (hb : Below wr.heap.size wr w') : GmS w w' d q c W F rv mv xs v1 v2 :=
  ⟨h.p.more hb, own_below h.m hb⟩
theorem GmS.drewN {w wr : World} {d q c : Nat} {W : List Nat} {F : List Bool} {rv mv v1 v2 : Value} {xs : List Nat} (h : GmS w wr d q c W F rv mv xs v1 v2) (n : Nat) : GmS w (wr.drewN n) d q c W F rv mv xs v1 v2 := h.more (below_drewN _ _ _)
theorem GmS.drew {w wr : World} {d q c : Nat} {W : List Nat} {F : List Bool} {rv mv v1 v2 : Value} {xs : List Nat} (h : GmS w wr d q c W F rv mv xs v1 v2) : GmS w wr.drew d q c W F rv mv xs v1 v2 := h.more (Below.refl _ _).drew

/-- A row of numbers is neither the heap's, nor the roots', nor the parts'. -/
theorem PlS.keepU {w wr w' : World} {d q c base n : Nat} {W : List Nat} {F : List Bool} {rv pv v1 v2 v : Value} {xs ps : List Nat} {ys : List Value} (h : PlS w wr d q c W F rv xs v1 v2) (hp : PtS w wr d rv pv v1 v2 ps) (hk : Kept (Wrt d v1 v2 rv pv) wr w') (ho : wr.ownsRow base 36 1 v n ys) : w'.ownsRow base 36 1 v n ys :=
  own_kept ho hk fun k hk hs => by
    rcases hs with hs | hs | hs
    · exact own_heap h.h ho k hk hs
    · exact own_types ho h.row (by decide) k hk hs
    · exact own_types ho hp.row (by decide) k hk hs

theorem PtS.nil {w wr : World} {d : Nat} {rv v1 v2 : Value} : PtS w wr d rv (.slice none 0 0) v1 v2 [] := ⟨World.ownsRow_nil _ _ _ _, by simp [Value.ownBlock], by simp [Value.ownBlock]⟩

/-- One more root behind the others. -/
theorem PlS.push {w wr : World} {d q c : Nat} {W : List Nat} {F : List Bool} {rv v1 v2 : Value} {xs : List Nat} (x : Nat) (h : PlS w wr d q c W F rv xs v1 v2) (hn : xs.length ≤ 1000) (hx : (x % 2 = 1 ∨ isObj W F x = true) ∧ x < 18446744073709551616) :
    ∃ rv' w2, (Builtin.append_ #[29, 29] 29 #[rv, .slice (some ⟨wr.heap.size, 0, none⟩) 1 1]).run Try.prog (wr.alloc (.cells #[.int .u64 (x : Int)] 37)) = .ok rv' w2 ∧ PlS w w2 d q c W F rv' (xs ++ [x]) v1 v2 ∧ Kept (fun j => rv.ownBlock = some j) wr w2 := by
  have hs := h.below.size
  obtain ⟨rv', w2, r2, o2, g2, a2⟩ := append_one (ty := 29) (t := 29) wordInfo Try.underlying29 rfl (h.row.alloc (.cells #[.int .u64 (x : Int)] 37)) (RdV.lit wr (.int .u64 (x : Int)) 37) (by intro u hu; simp at hu; subst hu; rfl) (by simp; omega) (by simp; omega) (by simp; omega)
  have hkk : Kept (fun j => rv.ownBlock = some j) wr w2 := ((Kept.refl _ _).alloc _).grown g2 fun j hj => .inl hj
  refine ⟨rv', w2, r2, ⟨h.h.kept hkk fun k hk hs => h.rd k hs hk, ?_, ?_, h.new, (h.below.alloc hs _).grown g2 (by simp; omega) (fun j hj => (h.row.lt j hj).1), h.fine, h.fits, ?_⟩, hkk⟩
  · unfold OwnW
    rw [List.length_append, Ws_append]
    exact o2
  · intro j hj hs
    rcases a2 with a2 | a2
    · exact h.rd j (by rw [← a2]; exact hj) hs
    · rw [a2] at hj
      injection hj with hj
      have := h.h.own_lt j hs
      simp at hj
      omega
  · intro y hy
    rcases List.mem_append.1 hy with hy | hy
    · exact h.fit y hy
    · simp at hy; subst hy; exact hx

theorem GmS.push {w wr : World} {d q c : Nat} {W : List Nat} {F : List Bool} {rv mv v1 v2 : Value} {xs : List Nat} (x : Nat) (h : GmS w wr d q c W F rv mv xs v1 v2) (hn : xs.length ≤ 1000) (hx : (x % 2 = 1 ∨ isObj W F x = true) ∧ x < 18446744073709551616) :
    ∃ rv' w2, (Builtin.append_ #[29, 29] 29 #[rv, .slice (some ⟨wr.heap.size, 0, none⟩) 1 1]).run Try.prog (wr.alloc (.cells #[.int .u64 (x : Int)] 37)) = .ok rv' w2 ∧ GmS w w2 d q c W F rv' mv (xs ++ [x]) v1 v2 := by
  obtain ⟨rv', w2, r2, h2, k2⟩ := h.p.push x hn hx
  exact ⟨rv', w2, r2, h2, own_kept h.m k2 fun k hk hs => own_types h.m h.p.row (by decide) k hk hs⟩

/-- A collection. -/
theorem GmS.col {w wr w1 w' : World} {d q c : Nat} {W : List Nat} {F : List Bool} {rv mv mv' v1 v2 : Value} {xs : List Nat} {e : Ending} (h : GmS w wr d q c W F rv mv xs v1 v2) (hb1 : Below wr.heap.size wr w1) (hm : OwnU w1 w.heap.size mv' (colS W F xs).2) (hC : ColPost w1 w' d w.heap.size q c v1 v2 W F (rsOf rv xs.length) xs e) :
    e = .returned (.tuple #[]) ∧ (∃ u1 u2, GmS w w' d q (c + 1) (colS W F xs).2 (Go.Proofs.Ytkdhajiplonloaa.mk W (colS W F xs).1) rv mv' (colR W F xs) u1 u2) ∧ Kept (Wrt d v1 v2 rv (.slice none 0 0)) w1 w' := by
  have h1 := h.p.more hb1
  obtain ⟨he, u1, u2, hH, hnew, hkept, hcell, _, hshape, hinv⟩ := hC
  have hmem : ∀ a ∈ rsOf rv xs.length, rv.ownBlock = some a.block := fun a ha => (rsOf_mem h1.row ha).1
  have hk : Kept (Wrt d v1 v2 rv (.slice none 0 0)) w1 w' := hkept.weak fun k _ hk => by
    rcases hk with hk | ⟨a, ha, e⟩
    · exact .inl hk
    · exact .inr (.inl (e ▸ hmem a ha))
  have hvl : (colS W F xs).2.length ≤ W.length := by
    have h1 := hinv.tot_le
    have h2 := hinv.len
    omega
  refine ⟨he, ⟨u1, u2, ⟨hH, ?_, ?_, ?_, ?_, h.p.fine.col _, by have := h.p.fits; omega, colR_fit h.p.fine xs h.p.fit⟩, h1.keepU PtS.nil hk hm⟩, hk⟩
  · refine own_after (n := xs.length) h1.row rfl (mvs_length _ _ _ _) hshape (fun j hj hn => ?_) hcell
    refine hkept.block j (h1.row.lt j hj).2 (fun hs => ?_)
    rcases hs with hs | ⟨a, ha, e⟩
    · exact h1.rd j hj hs
    · exact hn a ha e
  · intro j hj hs
    rcases hnew j hs with h2 | h2
    · exact h1.rd j hj h2
    · have := (h1.row.lt j hj).2; omega
  · intro j hj
    rcases hnew j hj with h2 | h2
    · exact h1.new j h2
    · have := h1.below.size; omega
  · refine h1.below.trans (hk.below h1.below.size fun j hj => ?_)
    rcases hj with hj | hj | hj
    · exact h1.new j hj
    · exact (h1.row.lt j hj).1
    · simp [Value.ownBlock] at hj
end Go.Proofs.Ytkdhajiplonloaa
namespace Go.Proofs.Ytkdhajiplonloaa
open Go.RowKit HeaM

theorem isObj_set {W : List Nat} {F : List Bool} {p y x : Nat} (h : isObj W F x = true) : isObj (W.set p y) F x = true := by
  obtain ⟨h1, h2, h3⟩ := isObj_iff.1 h
  exact isObj_iff.2 ⟨h1, by rw [List.length_set]; exact h2, h3⟩

/-- A part is another word. -/
theorem PlS.set {w wr w' : World} {d q c i j y : Nat} {W : List Nat} {F : List Bool} {rv v1 v2 : Value} {xs : List Nat} (h : PlS w wr d q c W F rv xs v1 v2) (hf : Fine (W.set (i + 1 + j) y) F)
    (hH : HAt w' d w.heap.size q c v1 v2 (W.set (i + 1 + j) y) F) (hk : Kept (fun k => v1.ownBlock = some k) wr w') : PlS w w' d q c (W.set (i + 1 + j) y) F rv xs v1 v2 :=
  ⟨hH, own_kept h.row hk fun k hk hs => h.rd k hk (.inr (.inl hs)), h.rd, h.new, h.below.trans (hk.below h.below.size fun k hk => h.new k (.inr (.inl hk))), hf, by rw [List.length_set]; exact h.fits, fun x hx => ⟨(h.fit x hx).1.imp id fun h1 => isObj_set h1, (h.fit x hx).2⟩⟩

/-- The model's words: a part is another word. -/
theorem PlS.store {w wr : World} {d q c g n cap : Nat} {W : List Nat} {F : List Bool} {rv v1 v2 : Value} {xs : List Nat} {ys : List Value} (h : PlS w wr d q c W F rv xs v1 v2) (ho : wr.ownsRow w.heap.size 36 1 (.slice (some ⟨g, 0, none⟩) n cap) n ys) (i : Nat) (u : Value) : PlS w (wr.setCell ⟨g, i, none⟩ u) d q c W F rv xs v1 v2 := by
  have hk : Kept (fun k => g = k) wr (wr.setCell ⟨g, i, none⟩ u) := Kept.setCell (p := ⟨g, i, none⟩) (Kept.refl _ _) (.inl rfl) u
  refine ⟨h.h.setOther (own_heap h.h ho g rfl), own_kept h.row hk fun k hk hs => ?_, h.rd, h.new, h.below.setCell (ho.lt g rfl).1 u, h.fine, h.fits, h.fit⟩
  subst hs
  exact own_types ho h.row (by decide) g rfl hk

/-- Roots left out. -/
theorem GmS.forget {w wr w' : World} {d q c : Nat} {W : List Nat} {F : List Bool} {rv rv' mv v1 v2 : Value} {xs ys : List Nat} (h : GmS w wr d q c W F rv mv xs v1 v2) (hb : Below wr.heap.size wr w') (ho : OwnW w' wr.heap.size rv' ys) (hy : ∀ y ∈ ys, y ∈ xs) : GmS w w' d q c W F rv' mv ys v1 v2 := by
  have h1 := h.more hb
  refine ⟨⟨h1.p.h, own_base ho h.p.below.size, fun j hj hs => ?_, h.p.new, h1.p.below, h.p.fine, h.p.fits, fun y hm => h.p.fit y (hy y hm)⟩, h1.m⟩
  have := h.p.h.own_lt j hs
  have := (ho.lt j hj).1
  omega

/-- Words behind the model's. -/
theorem PlS.grow {w wr : World} {d q c : Nat} {W X S : List Nat} {F : List Bool} {rv mv s v1 v2 : Value} {xs : List Nat} (h : PlS w wr d q c W F rv xs v1 v2) (ho : OwnU wr w.heap.size mv X) (hs : RdW wr s S) (hl : X.length + S.length ≤ 10000000) :
    ∃ mv' w2, (Builtin.append_ #[28, 28] 28 #[mv, s]).run Try.prog wr = .ok mv' w2 ∧ PlS w w2 d q c W F rv xs v1 v2 ∧ OwnU w2 w.heap.size mv' (X ++ S) := by
  obtain ⟨mv', w2, r2, o2, g2, _⟩ := append_one (ty := 28) (t := 28) u64Info Try.underlying28 rfl ho hs (by intro u hu; simp [Ws] at hu; obtain ⟨_, _, rfl⟩ := hu; rfl) (by rw [Ws_length]; omega) (by rw [Ws_length]; omega) h.below.size
  have hkk : Kept (fun j => mv.ownBlock = some j) wr w2 := (Kept.refl _ _).grown g2 fun j hj => .inl hj
  refine ⟨mv', w2, r2, ⟨h.h.kept hkk fun k hk hs => own_heap h.h ho k hs hk, own_kept h.row hkk fun k hk hs => own_types ho h.row (by decide) k hs hk, h.rd, h.new, h.below.grown g2 h.below.size fun j hj => (ho.lt j hj).1, h.fine, h.fits, h.fit⟩, ?_⟩
  rw [Ws_length] at o2
  unfold OwnU
  rw [List.length_append, Ws_append]
  exact o2

/-- What is asked at a round's end. -/
theorem GmS.asks {w wr : World} {d q c : Nat} {W : List Nat} {F : List Bool} {rv mv v1 v2 : Value} {xs : List Nat} (h : GmS w wr d q c W F rv mv xs v1 v2) (hn : xs.length ≤ 1000000) :
    (∀ W1, Below wr.heap.size wr W1 → Calls Try.prog 12 #[.pointer (some ⟨d, 0, none⟩)] W1 fun e w' => ∃ v', e = .returned v' ∧ RdW w' v' W ∧ Below wr.heap.size wr w') ∧
    (∀ W1 v, Below wr.heap.size wr W1 → RdW W1 v W → Calls Try.prog 7 #[v] W1 fun e w' => ∃ v', e = .returned v' ∧ RdW w' v' W ∧ Below wr.heap.size wr w') ∧
    (∀ W1 v, Below wr.heap.size wr W1 → RdW W1 v W → Calls Try.prog 11 #[v, mv] W1 fun e w' => e = .returned (.bool true) ∧ Below wr.heap.size wr w') ∧
    (∀ W1, Below wr.heap.size wr W1 → Calls Try.prog 18 #[.pointer (some ⟨d, 0, none⟩)] W1 fun e w' => e = .returned (.int .i64 (W.length : Int)) ∧ Below wr.heap.size wr w') ∧
    (∀ W1, Below wr.heap.size wr W1 → Calls Try.prog 19 #[.pointer (some ⟨d, 0, none⟩)] W1 fun e w' => e = .returned (.int .i64 (q : Int)) ∧ Below wr.heap.size wr w') ∧
    (∀ W1, Below wr.heap.size wr W1 → Calls Try.prog 20 #[.pointer (some ⟨d, 0, none⟩), mv, rv] W1 fun e w' => e = .returned (.bool true) ∧ Below wr.heap.size wr w') := by
  have hmx := h.p.fine.good.max
  refine ⟨fun W1 hb => ?_, fun W1 v hb hv => ?_, fun W1 v hb hv => ?_, fun W1 hb => ?_, fun W1 hb => ?_, fun W1 hb => ?_⟩
  · refine (words_t d w.heap.size q c v1 v2 W F W1 (h.more hb).p.h (by omega)).mono ?_
    rintro e w' ⟨v', rfl, ho, hb2⟩
    exact ⟨v', rfl, RdV.of_own ho, hb.trans (hb2.mono hb.size)⟩
  · refine (lwords_t v W W1 hv (by omega)).mono ?_
    rintro e w' ⟨v', rfl, ho, hb2⟩
    exact ⟨v', rfl, RdV.of_own ho, hb.trans (hb2.mono hb.size)⟩
  · refine (same_yes v mv W W1 hv (RdV.of_own (h.more hb).m) (by omega)).mono ?_
    rintro e w' ⟨rfl, hb2⟩
    exact ⟨rfl, hb.trans (hb2.mono hb.size)⟩
  · refine (used_t d w.heap.size q c v1 v2 W F W1 (h.more hb).p.h).mono ?_
    rintro e w' ⟨rfl, rfl⟩
    exact ⟨rfl, hb⟩
  · refine (quota_t d w.heap.size q c v1 v2 W F W1 (h.more hb).p.h).mono ?_
    rintro e w' ⟨rfl, rfl⟩
    exact ⟨rfl, hb⟩
  · refine (looks_t d w.heap.size q c v1 v2 W F mv rv xs W1 (h.more hb).p.h (RdV.of_own (h.more hb).m) (RdV.of_own (h.more hb).p.row) h.p.fine.good h.p.fit hn).mono ?_
    rintro e w' ⟨rfl, hb2⟩
    exact ⟨rfl, hb.trans (hb2.mono hb.size)⟩
end Go.Proofs.Ytkdhajiplonloaa
namespace Go.Proofs.Ytkdhajiplonloaa
open Go.RowKit HeaM

/-- The new object is one. -/
theorem isObj_new {W s : List Nat} {F : List Bool} (hF : F.length = W.length) (hs : s ≠ []) : isObj (W ++ s) (F ++ mks s) (2 * W.length) = true := by
  have hp := List.length_pos_iff.2 hs
  refine isObj_iff.2 ⟨by omega, by rw [List.length_append]; omega, ?_⟩
  rw [show 2 * W.length / 2 = W.length by omega, List.getElem?_append_right (by omega), hF, Nat.sub_self]
  rfl

/-- There is room. -/
theorem put_yes {w wr w' : World} {d q n c : Nat} {W : List Nat} {F : List Bool} {rv pv mv v1 v2 : Value} {xs ps : List Nat} {o : List Nat → List Nat} {e : Ending} (h : GmS w wr d q c W F rv mv xs v1 v2) (hp : PtS w wr d rv pv v1 v2 ps) (hfit : W.length + n ≤ q) (hP : PuPost w wr w' d q n c W F rv pv xs ps v1 v2 o e) :
    e = .returned (.tuple #[.int .u64 ((2 * W.length : Nat) : Int), .int .i64 0]) ∧ OwnU w' w.heap.size mv W ∧ ∃ u1 u2, PlS w w' d q c (W ++ o ps) (F ++ mks (o ps)) rv xs u1 u2 := by
  obtain ⟨W', F', xs', ps', c', hr, _, hres, hk, _, _⟩ := hP
  rcases hr with ⟨_, rfl, rfl, rfl, rfl, rfl⟩ | ⟨hlt, _⟩
  · rcases hres with ⟨_, he, hu⟩ | ⟨hlt, _⟩
    · exact ⟨he, h.p.keepU hp hk h.m, hu⟩
    · omega
  · omega

/-- A collection goes before. -/
theorem put_col {w wr w' : World} {d q n c na : Nat} {W : List Nat} {F : List Bool} {rv pv mv av v1 v2 : Value} {xs ps : List Nat} {zs : List Value} {o : List Nat → List Nat} {e : Ending} (h : PlS w wr d q c W F rv xs v1 v2) (hp : PtS w wr d rv pv v1 v2 ps)
    (hm : OwnU wr w.heap.size mv (colS W F (xs ++ ps)).2) (ha : wr.ownsRow w.heap.size 36 1 av na zs) (hfit : q < W.length + n) (hP : PuPost w wr w' d q n c W F rv pv xs ps v1 v2 o e) :
    OwnU w' w.heap.size mv (colS W F (xs ++ ps)).2 ∧ w'.ownsRow w.heap.size 36 1 av na zs ∧
    (((colS W F (xs ++ ps)).2.length + n ≤ q ∧ e = .returned (.tuple #[.int .u64 ((2 * (colS W F (xs ++ ps)).2.length : Nat) : Int), .int .i64 0]) ∧ ∃ u1 u2, PlS w w' d q (c + 1) ((colS W F (xs ++ ps)).2 ++ o ((colR W F (xs ++ ps)).drop xs.length)) (Go.Proofs.Ytkdhajiplonloaa.mk W (colS W F (xs ++ ps)).1 ++ mks (o ((colR W F (xs ++ ps)).drop xs.length))) rv ((colR W F (xs ++ ps)).take xs.length) u1 u2) ∨
     (q < (colS W F (xs ++ ps)).2.length + n ∧ e = .returned (.tuple #[.int .u64 0, .int .i64 11]) ∧ ∃ u1 u2, PlS w w' d q (c + 1) (colS W F (xs ++ ps)).2 (Go.Proofs.Ytkdhajiplonloaa.mk W (colS W F (xs ++ ps)).1) rv ((colR W F (xs ++ ps)).take xs.length) u1 u2)) := by
  obtain ⟨W', F', xs', ps', c', hr, _, hres, hk, _, _⟩ := hP
  rcases hr with ⟨hlt, _⟩ | ⟨_, rfl, rfl, rfl, rfl, rfl⟩
  · omega
  · exact ⟨h.keepU hp hk hm, h.keepU hp hk ha, hres⟩
end Go.Proofs.Ytkdhajiplonloaa
namespace Go.Proofs.Ytkdhajiplonloaa
open Go.RowKit HeaM

/-- No root is a number. -/
def Ev (xs : List Nat) : Prop := ∀ x ∈ xs, x % 2 = 0
theorem Ev.nil : Ev [] := fun x hx => by simp at hx
theorem Ev.snoc {xs : List Nat} {x : Nat} (h : Ev xs) (hx : x % 2 = 0) : Ev (xs ++ [x]) := fun y hy => by
  rcases List.mem_append.1 hy with hy | hy
  · exact h y hy
  · simp at hy; subst hy; exact hx
theorem Ev.sub {xs ys : List Nat} (h : Ev xs) (hs : ∀ y ∈ ys, y ∈ xs) : Ev ys := fun y hy => h y (hs y hy)
theorem Ev.col {W : List Nat} {F : List Bool} {xs : List Nat} (hf : Fine W F) (ps : List Nat) (h : Ev xs) : Ev ((colR W F (xs ++ ps)).take xs.length) := by
  have h3 := (col_form hf.good (xs ++ ps)).2.2.1
  rw [h3, List.map_append, List.take_left' (by rw [List.length_map])]
  intro z hz
  obtain ⟨x, hx, rfl⟩ := List.mem_map.1 hz
  unfold trW
  split
  · omega
  · exact h x hx
theorem Ev.col0 {W : List Nat} {F : List Bool} {xs : List Nat} (hf : Fine W F) (h : Ev xs) : Ev (colR W F xs) := by
  have h1 := Ev.col hf [] h
  rw [List.append_nil] at h1
  have hl := colR_length W F xs
  rw [← hl, List.take_length] at h1
  exact h1

theorem RdV.take {w : World} {a : Addr} {n c : Nat} {xs : List Value} (h : RdV w (.slice (some a) n c) xs) (j : Nat) (hj : j ≤ xs.length) : RdV w (.slice (some a) j c) (xs.take j) := by
  rcases h with ⟨h, _⟩ | ⟨a', c', h, hn, hm, hc⟩
  · cases h
  · simp only [Value.slice.injEq, Option.some.injEq] at h
    obtain ⟨rfl, rfl, rfl⟩ := h
    refine .inr ⟨a, c, by rw [List.length_take, Nat.min_eq_left hj], by rw [List.length_take]; omega, hm, fun i u hu => ?_⟩
    rw [List.getElem?_take] at hu
    split at hu
    · exact hc i u hu
    · cases hu
theorem RdV.drop {w : World} {g k n c m : Nat} {xs : List Value} (h : RdV w (.slice (some ⟨g, k, none⟩) n c) xs) (j : Nat) (hj : j ≤ xs.length) (hm : m + j = xs.length) : RdV w (.slice (some ⟨g, k + j, none⟩) m (c - j)) (xs.drop j) := by
  rcases h with ⟨h, _⟩ | ⟨a', c', h, hn, hmx, hc⟩
  · cases h
  · simp only [Value.slice.injEq, Option.some.injEq] at h
    obtain ⟨rfl, rfl, rfl⟩ := h
    refine .inr ⟨⟨g, k + j, none⟩, c - j, by rw [List.length_drop, show xs.length - j = m by omega], by rw [List.length_drop]; omega, by omega, fun i u hu => ?_⟩
    rw [List.getElem?_drop] at hu
    have := hc _ u hu
    rw [add_none] at this ⊢
    rw [← Nat.add_assoc] at this
    exact this

/-- A root is left out. -/
theorem GmS.leave {w wa : World} {d q c g n cr j z : Nat} {W : List Nat} {F : List Bool} {mv v1 v2 : Value} {xs : List Nat} (h : GmS w wa d q c W F (.slice (some ⟨g, 0, none⟩) n cr) mv xs v1 v2) (hn : xs.length = n) (hl : xs.length ≤ 1000) (hj : j < xs.length) (hz : z = j + 1 ∨ cr = j + 1) (hcr : n ≤ cr) :
    ∃ r1 w1 r2 w2, (Builtin.append_ #[29, 29] 29 #[.slice none 0 0, .slice (some ⟨g, 0, none⟩) j cr]).run Try.prog wa = .ok r1 w1 ∧
      (Builtin.append_ #[29, 29] 29 #[r1, .slice (some ⟨g, z, none⟩) (n - (j + 1)) (cr - (j + 1))]).run Try.prog w1 = .ok r2 w2 ∧ GmS w w2 d q c W F r2 mv (xs.take j ++ xs.drop (j + 1)) v1 v2 := by
  subst hn
  have hr := RdV.of_own h.p.row
  have e1 : RdV wa (.slice (some ⟨g, 0, none⟩) j cr) (Ws (xs.take j)) := by
    have := hr.take j (by rw [Ws_length]; omega)
    unfold Ws at this ⊢
    rw [← List.map_take] at this
    exact this
  have lt : (xs.take j).length = j := by rw [List.length_take]; omega
  have ld : (xs.drop (j + 1)).length = xs.length - (j + 1) := by rw [List.length_drop]
  obtain ⟨r1, w1, a1, o1, g1, _⟩ := append_one (ty := 29) (t := 29) (base := wa.heap.size) wordInfo Try.underlying29 rfl (World.ownsRow_nil wa _ _ _) e1 (Ws_one _) (by rw [Ws_length]; omega) (by rw [Ws_length]; omega) (Nat.le_refl _)
  have hb1 : Below wa.heap.size wa w1 := (Below.refl _ _).grown g1 (Nat.le_refl _) fun j hj => by simp [Value.ownBlock] at hj
  have e2 : RdV w1 (.slice (some ⟨g, z, none⟩) (xs.length - (j + 1)) (cr - (j + 1))) (Ws (xs.drop (j + 1))) := by
    rcases hz with rfl | hz
    case inr =>
      have h0 : xs.drop (j + 1) = [] := List.drop_eq_nil_of_le (by omega)
      rw [h0]
      exact .inr ⟨⟨g, z, none⟩, cr - (j + 1), by rw [show xs.length - (j + 1) = 0 by omega]; rfl, Nat.zero_le _, by unfold maxLen; omega, fun i u hu => by simp [Ws] at hu⟩
    have := (hr.below hb1).drop (m := xs.length - (j + 1)) (j + 1) (by rw [Ws_length]; omega) (by rw [Ws_length]; omega)
    rw [Nat.zero_add] at this
    unfold Ws at this ⊢
    rw [← List.map_drop] at this
    exact this
  obtain ⟨r2, w2, a2, o2, g2, _⟩ := append_one (ty := 29) (t := 29) wordInfo Try.underlying29 rfl o1 e2 (Ws_one _) (by rw [Ws_length, Ws_length]; omega) (by rw [Ws_length, Ws_length]; omega) hb1.size
  have hb2 : Below wa.heap.size wa w2 := hb1.grown g2 hb1.size fun j hj => (o1.lt j hj).1
  refine ⟨r1, w1, r2, w2, a1, a2, h.forget hb2 ?_ fun y hy => ?_⟩
  · unfold OwnW
    rw [List.length_append, Ws_append]
    rw [Ws_length, Ws_length, Nat.zero_add] at o2
    exact o2
  · rcases List.mem_append.1 hy with hy | hy
    · exact List.mem_of_mem_take hy
    · exact List.mem_of_mem_drop hy
end Go.Proofs.Ytkdhajiplonloaa
