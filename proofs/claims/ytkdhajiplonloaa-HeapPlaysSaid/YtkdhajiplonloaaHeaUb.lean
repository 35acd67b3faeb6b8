/- Load: findObjects, hasSoundParts. -/
import Derived.Test.YtkdhajiplonloaaHeaUa
import Derived.Deep.DeepCutAuto
namespace Go.Proofs.Ytkdhajiplonloaa
open Go.RowKit HeaM

theorem iskind_yes (k : Nat) (w : World) (hk : k < 256) (h : Hid (isK k = true)) :
    Calls Try.prog 44 #[.int .u8 (k : Int)] w fun e w' => e = .returned (.bool true) ∧ w = w' :=
  (iskind_t k w hk).mono fun e w' ⟨h1, h2⟩ => ⟨by rw [h1, h.out], h2⟩
theorem Ob.objAt {W : List Nat} {F : List Bool} {i : Nat} (h : Ob W F i) : ObjAt W F i (W.getD i 0) (W.getD i 0 % 256) (W.getD i 0 / 256) (szX (W.getD i 0)) :=
  ⟨h.mark, by
    have h1 := h.fits
    have h2 := szX_pos (W.getD i 0)
    rw [List.getElem?_eq_getElem (by omega), List.getD_eq_getElem?_getD, List.getElem?_eq_getElem (by omega)]
    rfl, h.lt, rfl, rfl, rfl, h.fits⟩

/-- Where the segments behind the first ones begin. -/
structure SegAt (l done todo : List (List Nat)) (o : Nat) : Prop where
  split : l = done ++ todo
  at_ : o = done.flatten.length
theorem SegAt.next {l done todo : List (List Nat)} {s : List Nat} {o : Nat} (h : SegAt l done (s :: todo) o) : SegAt l (done ++ [s]) todo (o + s.length) :=
  ⟨by rw [h.split]; simp, by rw [h.at_]; simp⟩
theorem SegAt.head {l done todo : List (List Nat)} {s : List Nat} {o : Nat} (h : SegAt l done (s :: todo) o) (hs : s ≠ []) : l.flatten.getD o 0 = s.getD 0 0 ∧ o + s.length ≤ l.flatten.length := by
  have hp := List.length_pos_iff.2 hs
  refine ⟨?_, by rw [h.split, h.at_]; simp⟩
  rw [h.split, h.at_, List.flatten_append, List.flatten_cons]
  rw [show done.flatten.length = done.flatten.length + 0 from rfl, getD_right, List.getD_eq_getElem?_getD, List.getElem?_append_left hp, ← List.getD_eq_getElem?_getD]
/-- The marks of the first ones, none of the others yet. -/
def mksTo (done : List (List Nat)) (n : Nat) : List Bool := marks done ++ List.replicate (n - done.flatten.length) false
theorem mksTo_next {done : List (List Nat)} {s : List Nat} {n : Nat} (hd : ∀ x ∈ done, Seg x) (hs : Seg s) (hn : done.flatten.length + s.length ≤ n) : (mksTo done n).set done.flatten.length true = mksTo (done ++ [s]) n := by
  have hp := List.length_pos_iff.2 hs.1
  have hm := marks_length hd
  unfold mksTo
  rw [List.set_append_right _ _ (by omega), hm, Nat.sub_self]
  obtain ⟨k, hk⟩ : ∃ k, n - done.flatten.length = k + 1 := ⟨n - done.flatten.length - 1, by omega⟩
  rw [hk, List.replicate_succ, List.set_cons_zero]
  unfold marks
  rw [List.flatMap_append, List.append_assoc]
  congr 1
  have e : (done ++ [s]).flatten.length = done.flatten.length + s.length := by simp
  rw [e]
  simp only [List.flatMap_cons, List.flatMap_nil, List.append_nil, mks, List.cons_append]
  congr 1
  rw [List.replicate_append_replicate]
  congr 1
  omega
theorem szX_bound {X n : Nat} (h : szX X ≤ n) : X / 256 ≤ 8 * n := by
  unfold szX need at h
  split at h <;> omega

theorem HAt.storeF {w : World} {b base q c g cap i : Nat} {v1 : Value} {n : Nat} {W : List Nat} {F : List Bool} {x : Bool} (h : HAt w b base q c v1 (.slice (some ⟨g, 0, none⟩) n cap) W F) :
    HAt (w.setCell ⟨g, i, none⟩ (.bool x)) b base q c v1 (.slice (some ⟨g, 0, none⟩) n cap) W (F.set i x) := by
  have hn : n = F.length := by
    rcases h.own2.2 with ⟨e, _⟩ | ⟨g', cap', cur, e, _⟩
    · cases e
    · simp only [Value.slice.injEq] at e
      exact e.2.1
  subst hn
  have e : Fs (F.set i x) = (Fs F).set i (.bool x) := by unfold Fs; rw [List.map_set]
  refine ⟨?_, ?_, ?_⟩
  · rw [Below.heap_setCell _ _ _ _ (by
      intro e
      exact h.ne2 (by simp [Value.ownBlock, e]))]
    exact h.cell
  · exact ownsRow_setCell_other h.own1 (fun e => h.ne12 g e rfl) _
  · unfold OwnF
    rw [List.length_set, e]
    exact (h.own2.stored i (.bool x)).1

theorem HAt.drewN {w : World} {b base q c : Nat} {v1 v2 : Value} {W : List Nat} {F : List Bool} (h : HAt w b base q c v1 v2 W F) (n : Nat) : HAt (w.drewN n) b base q c v1 v2 W F := ⟨h.cell, h.own1, h.own2⟩
end Go.Proofs.Ytkdhajiplonloaa
