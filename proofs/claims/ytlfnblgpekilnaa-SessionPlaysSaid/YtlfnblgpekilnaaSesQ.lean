/- Sessions: the reference's Put. -/
import Derived.Test.YtlfnblgpekilnaaSesO
import Derived.Test.YtlfnblgpekilnaaSesN
namespace Go.Proofs.Ytlfnblgpekilnaa
open Go.RowKit OctM

set_option maxRecDepth 100000 in
/-- One more session, laid and appended to a row. -/
theorem more_row {w W : World} {base n : Nat} {v : Value} {xs : List Value} {id nm k : Nat} {ou : Option Addr} {cu : Nat} (h : W.ownsRow base 63 3 v n xs) (hn : n ≤ 1000) (hbase : base ≤ W.heap.size) (hb : Below w.heap.size w W) (hw : w.heap.size ≤ base) :
    ∃ o c W2, (Builtin.append_ #[27, 27] 27 #[v, .slice (some ⟨W.heap.size, 0, none⟩) 1 1]).run Try.prog (W.alloc (.cells #[.int .u64 (id : Int), .int .u64 (nm : Int), .slice ou k cu] 63)) = .ok (.slice o (n + 1) c) W2 ∧
      W2.ownsRow base 63 3 (.slice o (n + 1) c) (n + 1) (xs ++ [.int .u64 (id : Int), .int .u64 (nm : Int), .slice ou k cu]) ∧ Kept (fun g => v.ownBlock = some g) W W2 ∧ Below w.heap.size w W2 := by
  obtain ⟨i0, hi0, hz0, hz1, hz2⟩ := info_parts lastInfo
  have hba : Below W.heap.size W (W.alloc (.cells #[.int .u64 (id : Int), .int .u64 (nm : Int), .slice ou k cu] 63)) := (Below.refl _ W).alloc (Nat.le_refl _) _
  have hnew := heap_alloc_new W (.cells #[.int .u64 (id : Int), .int .u64 (nm : Int), .slice ou k cu] 63)
  obtain ⟨v', W2, hr, h2, h3, _, h5⟩ := run_append_own_at (P := Try.prog) (W.alloc (.cells #[.int .u64 (id : Int), .int .u64 (nm : Int), .slice ou k cu] 63)) base 27 27 63 i0 _ 3 40 (by kernel_rfl) hi0 hz0 hz1 hz2 rfl (by decide) v n xs (own_kept h (kept_of_below (S := fun _ => False) hba) (fun _ _ h => h)) ⟨W.heap.size, 0, none⟩ 1 1 [.int .u64 (id : Int), .int .u64 (nm : Int), .slice ou k cu] rfl
    (fun j u hu => by rw [add_none, Nat.zero_add]; exact cellk hnew (by simpa using hu)) (by intro u hu; simp at hu; rcases hu with rfl | rfl | rfl <;> rfl) (by unfold maxLen; omega) (by omega) (by have := hba.size; omega)
  obtain ⟨o, c, rfl⟩ := own_slice h2
  have hkA : Kept (fun k => v.ownBlock = some k) W W2 := (kept_of_below hba).grown h3 (fun k hk => .inl hk)
  exact ⟨o, c, W2, hr, h2, hkA, hb.trans (hkA.below hb.size (fun k hk => Nat.le_trans hw (h.lt k hk).1))⟩

/-- How the reference builds the new row: what is built behind i sessions. -/
def insP (l : List Se) (ps : List (Se × Value)) (x : Se) (vb : Value) : List (Se × Value) := if (seAt l x.id).isSome then ps.set (pl l x.id) (x, vb) else ps.take (pl l x.id) ++ (x, vb) :: ps.drop (pl l x.id)
/-- How many are built. -/
def bld (l : List Se) (id i : Nat) : Nat := if pl l id < i then (if (seAt l id).isSome then i else i + 1) else i
theorem insP_map {l : List Se} {ps : List (Se × Value)} (x : Se) (vb : Value) (h : ps.map Prod.fst = l) : (insP l ps x vb).map Prod.fst = insS l x := by
  unfold insP insS
  split
  · rw [List.map_set, h]
  · rw [List.map_append, List.map_cons, List.map_take, List.map_drop, h]
theorem insP_len {l : List Se} {ps : List (Se × Value)} (x : Se) (vb : Value) (h : ps.map Prod.fst = l) : (insP l ps x vb).length ≤ ps.length + 1 := by
  unfold insP
  split
  · simp
  · have : pl l x.id ≤ ps.length := by have := pl_le l x.id; rw [← h] at this ⊢; simpa using this
    simp; omega

theorem at_pl {l : List Se} {id : Nat} (h : pl l id < l.length) : ∃ s, l[pl l id]? = some s ∧ ((seAt l id).isSome = true ↔ s.id = id) ∧ id ≤ s.id := by
  refine ⟨l[pl l id], List.getElem?_eq_getElem h, ?_, by have := pl_at l id _ (List.getElem?_eq_getElem h); omega⟩
  unfold seAt
  rw [List.getElem?_eq_getElem h]
  dsimp only
  split <;> simp_all

/-- Ahead of the place: one more of the old ones. -/
theorem bld_lt {l : List Se} {ps : List (Se × Value)} (x : Se) (vb : Value) (hp : ps.map Prod.fst = l) {i : Nat} {q : Se × Value} (hq : ps[i]? = some q) (hi : i < pl l x.id) :
    bld l x.id i = i ∧ bld l x.id (i + 1) = i + 1 ∧ (insP l ps x vb).take (i + 1) = (insP l ps x vb).take i ++ [q] := by
  refine ⟨by unfold bld; rw [if_neg (by omega)], by unfold bld; rw [if_neg (by omega)], ?_⟩
  have hg : (insP l ps x vb)[i]? = some q := by
    unfold insP
    split
    · rw [List.getElem?_set_ne (by omega)]; exact hq
    · have hpl : pl l x.id ≤ ps.length := by have := pl_le l x.id; rw [← hp] at this ⊢; simpa using this
      rw [List.getElem?_append_left (by rw [List.length_take]; omega), List.getElem?_take, if_pos hi]; exact hq
  rw [List.take_add_one, hg]; rfl
/-- At the place: the new one, and, where it isn't there, the old one. -/
theorem bld_at {l : List Se} {ps : List (Se × Value)} (x : Se) (vb : Value) {q : Se × Value} (hq : ps[pl l x.id]? = some q) :
    bld l x.id (pl l x.id) = pl l x.id ∧ (insP l ps x vb).take (pl l x.id + 1) = (insP l ps x vb).take (pl l x.id) ++ [(x, vb)] ∧
      ((seAt l x.id).isSome = true → bld l x.id (pl l x.id + 1) = pl l x.id + 1) ∧ ((seAt l x.id).isSome = false → bld l x.id (pl l x.id + 1) = pl l x.id + 2 ∧ (insP l ps x vb).take (pl l x.id + 2) = (insP l ps x vb).take (pl l x.id) ++ [(x, vb)] ++ [q]) := by
  have hpl := (List.getElem?_eq_some_iff.1 hq).1
  have hg : (insP l ps x vb)[pl l x.id]? = some (x, vb) := by
    unfold insP
    split
    · rw [List.getElem?_set_self hpl]
    · rw [List.getElem?_append_right (by rw [List.length_take]; omega), List.length_take, show pl l x.id - min (pl l x.id) ps.length = 0 by omega]; rfl
  have h1 : (insP l ps x vb).take (pl l x.id + 1) = (insP l ps x vb).take (pl l x.id) ++ [(x, vb)] := by rw [List.take_add_one, hg]; rfl
  refine ⟨by unfold bld; rw [if_neg (by omega)], h1, fun h => by unfold bld; rw [if_pos (by omega), if_pos h], fun h => ⟨by unfold bld; rw [if_pos (by omega), if_neg (by rw [h]; simp)], ?_⟩⟩
  have hg2 : (insP l ps x vb)[pl l x.id + 1]? = some q := by
    unfold insP
    rw [if_neg (by rw [h]; simp), List.getElem?_append_right (by rw [List.length_take]; omega), List.length_take, show pl l x.id + 1 - min (pl l x.id) ps.length = 1 by omega, List.getElem?_cons_succ, List.getElem?_drop]
    exact hq
  rw [show pl l x.id + 2 = pl l x.id + 1 + 1 from rfl, List.take_add_one, hg2, h1]; rfl
/-- Behind the place: one more of the old ones. -/
theorem bld_gt {l : List Se} {ps : List (Se × Value)} (x : Se) (vb : Value) {i : Nat} {q : Se × Value} (hq : ps[i]? = some q) (hi : pl l x.id < i) :
    bld l x.id (i + 1) = bld l x.id i + 1 ∧ (insP l ps x vb).take (bld l x.id i + 1) = (insP l ps x vb).take (bld l x.id i) ++ [q] := by
  have hil := (List.getElem?_eq_some_iff.1 hq).1
  refine ⟨by unfold bld; rw [if_pos (show pl l x.id < i + 1 by omega), if_pos hi]; split <;> omega, ?_⟩
  have hg : (insP l ps x vb)[bld l x.id i]? = some q := by
    unfold bld insP
    rw [if_pos hi]
    split
    · rw [List.getElem?_set_ne (by omega)]; exact hq
    · rw [List.getElem?_append_right (by rw [List.length_take]; omega), List.length_take, show i + 1 - min (pl l x.id) ps.length = (i - pl l x.id) + 1 by omega, List.getElem?_cons_succ, List.getElem?_drop, show pl l x.id + (i - pl l x.id) = i by omega]
      exact hq
  rw [List.take_add_one, hg]; rfl
/-- At the end. -/
theorem bld_end {l : List Se} {ps : List (Se × Value)} (x : Se) (vb : Value) (hp : ps.map Prod.fst = l) :
    (pl l x.id < ps.length → (insP l ps x vb).take (bld l x.id ps.length) = insP l ps x vb) ∧ (¬ pl l x.id < ps.length → (insP l ps x vb).take (bld l x.id ps.length) ++ [(x, vb)] = insP l ps x vb) := by
  have hll : l.length = ps.length := by rw [← hp]; simp
  have hple := pl_le l x.id
  refine ⟨fun h => List.take_of_length_le ?_, fun h => ?_⟩
  · unfold insP bld
    rw [if_pos h]
    split
    · simp
    · simp; omega
  · have he : pl l x.id = ps.length := by omega
    have hs : (seAt l x.id).isSome = false := by
      unfold seAt
      rw [he, List.getElem?_eq_none (by omega)]
      rfl
    unfold bld insP
    rw [if_neg h, if_neg (by rw [hs]; simp), he, List.take_length, List.drop_length]
    simp
end Go.Proofs.Ytlfnblgpekilnaa
