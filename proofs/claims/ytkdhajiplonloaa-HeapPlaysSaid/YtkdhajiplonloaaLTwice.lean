/- HeapTwice: what its walk needs. -/
import Derived.Test.YtkdhajiplonloaaHeaUi
import Derived.Test.YtkdhajiplonloaaLTexts
namespace Go.Proofs.Ytkdhajiplonloaa
open Go.RowKit HeaM

/-- Blocks of unlike types. -/
theorem own_types {w : World} {base base' n m : Nat} {e e' : TypeId} {u v : Value} {xs ys : List Value} (h : w.ownsRow base e 1 u n xs) (h' : w.ownsRow base' e' 1 v m ys) (he : e ≠ e') (j : Nat) (h1 : u.ownBlock = some j) (h2 : v.ownBlock = some j) : False := by
  rcases h.2 with ⟨rfl, _⟩ | ⟨g, cap, cur, rfl, _, hg, _⟩
  · simp [Value.ownBlock] at h1
  · exact row_type h h' he (h2.trans h1.symm)
theorem own_heap {w : World} {b base base' q c n : Nat} {v1 v2 v : Value} {W : List Nat} {F : List Bool} {xs : List Value} (h : HAt w b base q c v1 v2 W F) (ho : w.ownsRow base' 36 1 v n xs) (j : Nat) (hj : v.ownBlock = some j) : ¬ three b v1 v2 j := by
  rintro (hs | hs | hs)
  · subst hs
    rcases ho.2 with ⟨rfl, _⟩ | ⟨g, cap, cur, rfl, _, hg, _⟩
    · simp [Value.ownBlock] at hj
    · simp only [Value.ownBlock, Option.some.injEq] at hj
      subst hj
      have h1 := h.cell
      rw [hg] at h1
      injection h1 with h1
      injection h1 with _ h2
      exact absurd h2 (by decide)
  · exact own_types ho h.own1 (by decide) j hj hs
  · exact own_types ho h.own2 (by decide) j hj hs

/-- A heap and its roots. -/
structure TwS (w wr : World) (d c : Nat) (W : List Nat) (F : List Bool) (rv : Value) (xs : List Nat) (v1 v2 : Value) : Prop where
  h : HAt wr d w.heap.size 5000 c v1 v2 W F
  row : OwnW wr w.heap.size rv xs
  rd : ∀ j, rv.ownBlock = some j → ¬ three d v1 v2 j
  new : ∀ j, three d v1 v2 j → w.heap.size ≤ j
  below : Below w.heap.size w wr

theorem TwS.more {w wr w' : World} {d c : Nat} {W : List Nat} {F : List Bool} {rv v1 v2 : Value} {xs : List Nat} (h : TwS w wr d c W F rv xs v1 v2) (hb : Below wr.heap.size wr w') : TwS w w' d c W F rv xs v1 v2 :=
  ⟨h.h.below hb (Nat.le_refl _), own_kept h.row (Below.kept (S := fun k => wr.heap.size ≤ k) hb fun k h1 _ => h1) fun k hk hs => by have := (h.row.lt k hk).2; omega, h.rd, h.new, h.below.trans (hb.mono h.below.size)⟩

/-- One more root behind the others. -/
theorem TwS.push {w wr : World} {d c : Nat} {W : List Nat} {F : List Bool} {rv v1 v2 : Value} {xs : List Nat} (x : Nat) (h : TwS w wr d c W F rv xs v1 v2) (hn : xs.length ≤ 1000) :
    ∃ rv' w2, (Builtin.append_ #[29, 29] 29 #[rv, .slice (some ⟨wr.heap.size, 0, none⟩) 1 1]).run Try.prog (wr.alloc (.cells #[.int .u64 (x : Int)] 37)) = .ok rv' w2 ∧ TwS w w2 d c W F rv' (xs ++ [x]) v1 v2 := by
  have hs := h.below.size
  obtain ⟨rv', w2, r2, o2, g2, a2⟩ := append_one (ty := 29) (t := 29) wordInfo Try.underlying29 rfl (h.row.alloc (.cells #[.int .u64 (x : Int)] 37)) (RdV.lit wr (.int .u64 (x : Int)) 37) (by intro u hu; simp at hu; subst hu; rfl) (by simp; omega) (by simp; omega) (by simp; omega)
  have hkk : Kept (fun j => rv.ownBlock = some j) wr w2 := ((Kept.refl _ _).alloc _).grown g2 fun j hj => .inl hj
  refine ⟨rv', w2, r2, h.h.kept hkk fun k hk hs => h.rd k hs hk, ?_, ?_, h.new, (h.below.alloc hs _).grown g2 (by simp; omega) (fun j hj => (h.row.lt j hj).1)⟩
  · unfold OwnW
    rw [List.length_append, Ws_append]
    exact o2
  · intro j hj hs
    rcases a2 with a2 | a2
    · exact h.rd j (by rw [← a2]; exact hj) hs
    · rw [a2] at hj
      injection hj with hj
      have := h.h.own_lt j hs
      simp at hj
      omega
/-- A root is another word. -/
theorem TwS.set {w wr : World} {d c g n cap : Nat} {W : List Nat} {F : List Bool} {v1 v2 : Value} {xs : List Nat} (i x : Nat) (h : TwS w wr d c W F (.slice (some ⟨g, 0, none⟩) n cap) xs v1 v2) : TwS w (wr.setCell ⟨g, i, none⟩ (.int .u64 (x : Int))) d c W F (.slice (some ⟨g, 0, none⟩) n cap) (xs.set i x) v1 v2 := by
  have hg := (h.row.lt g rfl).1
  refine ⟨h.h.setOther (h.rd g rfl), ?_, h.rd, h.new, h.below.setCell hg _⟩
  have hn : n = xs.length := by
    rcases h.row.2 with ⟨e, _⟩ | ⟨g', cap', cur, e, _⟩
    · cases e
    · simp only [Value.slice.injEq] at e
      exact e.2.1
  subst hn
  have h1 := (h.row.stored i (.int .u64 (x : Int))).1
  unfold OwnW
  rw [List.length_set, Ws_set]
  exact h1

/-- A collection. -/
theorem TwS.col {w wr w1 w' : World} {d c : Nat} {W : List Nat} {F : List Bool} {rv v1 v2 : Value} {xs : List Nat} {e : Ending} (h : TwS w wr d c W F rv xs v1 v2) (hb1 : Below wr.heap.size wr w1) (hC : ColPost w1 w' d w.heap.size 5000 c v1 v2 W F (rsOf rv xs.length) xs e) :
    e = .returned (.tuple #[]) ∧ (∃ u1 u2, TwS w w' d (c + 1) (colS W F xs).2 (Go.Proofs.Ytkdhajiplonloaa.mk W (colS W F xs).1) rv (colR W F xs) u1 u2) ∧ Kept (fun k => three d v1 v2 k ∨ rv.ownBlock = some k) w1 w' := by
  have h1 := h.more hb1
  obtain ⟨he, u1, u2, hH, hnew, hkept, hcell, _, hshape, hinv⟩ := hC
  have hmem : ∀ a ∈ rsOf rv xs.length, rv.ownBlock = some a.block := fun a ha => (rsOf_mem h1.row ha).1
  have hk : Kept (fun k => three d v1 v2 k ∨ rv.ownBlock = some k) w1 w' := hkept.weak fun k _ hk => by
    rcases hk with hk | ⟨a, ha, e⟩
    · exact .inl hk
    · exact .inr (e ▸ hmem a ha)
  refine ⟨he, ⟨u1, u2, hH, ?_, ?_, ?_, ?_⟩, hk⟩
  · refine own_after (n := xs.length) h1.row rfl (mvs_length _ _ _ _) hshape (fun j hj hn => ?_) hcell
    refine hkept.block j (h1.row.lt j hj).2 (fun hs => ?_)
    rcases hs with hs | ⟨a, ha, e⟩
    · exact h1.rd j hj hs
    · exact hn a ha e
  · intro j hj hs
    rcases hnew j hs with h2 | h2
    · exact h1.rd j hj h2
    · have := (h1.row.lt j hj).2; omega
  · intro j hj
    rcases hnew j hj with h2 | h2
    · exact h1.new j h2
    · have := h1.below.size; omega
  · refine h1.below.trans (hk.below h1.below.size fun j hj => ?_)
    rcases hj with hj | hj
    · exact h1.new j hj
    · exact (h1.row.lt _ hj).1
/-- A row of numbers stays. -/
theorem TwS.keep {w w1 w' : World} {d c base n : Nat} {W : List Nat} {F : List Bool} {rv v1 v2 v : Value} {xs : List Nat} {ys : List Value} (h : TwS w w1 d c W F rv xs v1 v2) (hk : Kept (fun k => three d v1 v2 k ∨ rv.ownBlock = some k) w1 w') (ho : w1.ownsRow base 36 1 v n ys) : w'.ownsRow base 36 1 v n ys :=
  own_kept ho hk fun k hk hs => by
    rcases hs with hs | hs
    · exact own_heap h.h ho k hk hs
    · exact own_types ho h.row (by decide) k hk hs
theorem own_below {w w' : World} {base n : Nat} {t : TypeId} {v : Value} {xs : List Value} (h : w.ownsRow base t 1 v n xs) (hb : Below w.heap.size w w') : w'.ownsRow base t 1 v n xs :=
  own_kept h (Below.kept (S := fun k => w.heap.size ≤ k) hb fun k h1 _ => h1) fun k hk hs => by have := (h.lt k hk).2; omega
/-- At the end: the heap, its roots, what was told of both, the heap that was loaded. -/
structure TwE (w wr : World) (d g : Nat) (V : List Nat) (F : List Bool) (rv av bv : Value) (zs : List Nat) (v1 v2 g1 g2 : Value) : Prop where
  t : TwS w wr d 2 V F rv zs v1 v2
  a : OwnU wr w.heap.size av V
  b : OwnU wr w.heap.size bv zs
  g : HAt wr g w.heap.size 5000 0 g1 g2 V F
theorem TwE.more {w wr w' : World} {d g : Nat} {V : List Nat} {F : List Bool} {rv av bv v1 v2 g1 g2 : Value} {zs : List Nat} (h : TwE w wr d g V F rv av bv zs v1 v2 g1 g2) (hb : Below wr.heap.size wr w') : TwE w w' d g V F rv av bv zs v1 v2 g1 g2 :=
  ⟨h.t.more hb, own_below h.a hb, own_below h.b hb, h.g.below hb (Nat.le_refl _)⟩

theorem colR_lt {W : List Nat} {F : List Bool} (hg : Good W F) (hs : Sound W F) (ys : List Nat) (hy : ∀ y ∈ ys, y < 18446744073709551616) : ∀ z ∈ colR W F ys, z < 18446744073709551616 := by
  obtain ⟨_, _, h3, h4, _⟩ := col_form hg ys
  have hd := col_done hg hs ys
  intro z hz
  rw [h3] at hz
  obtain ⟨y, hym, rfl⟩ := List.mem_map.1 hz
  unfold trW
  split
  · rename_i ho
    obtain ⟨j, hj⟩ := h4 y hym ho
    rw [hj]
    have h5 := (isObj_iff.1 (hd.isObj (look_some hj))).2.1
    have h6 := hd.le
    have h7 := hg.max
    simp only [Option.getD_some]
    simp only at h5
    omega
  · exact hy y hym
end Go.Proofs.Ytkdhajiplonloaa
