/- HeapTexts: the law's walk. -/
import Derived.Test.YtkdhajiplonloaaLCopies
import Derived.Test.YtkdhajiplonloaaHeaF
import Derived.Deep.DeepCutAuto
namespace Go.Proofs.Ytkdhajiplonloaa
open Go.RowKit HeaM

/-- Texts in the heap; those that are kept, with their places. -/
structure TxR (w wr : World) (hb q c : Nat) (ls : List (List UInt8)) (is : List Nat) (rv wv v1 v2 : Value) : Prop where
  h : HAt wr hb w.heap.size q c v1 v2 (encW ls) (encF ls)
  rowR : OwnW wr w.heap.size rv (is.map fun i => 2 * pl ls i)
  rowW : wr.ownsRow w.heap.size 9 1 wv is.length (is.map fun i => S (tx ls i))
  rd : ∀ j, rv.ownBlock = some j → ¬ three hb v1 v2 j
  wd : ∀ j, wv.ownBlock = some j → ¬ three hb v1 v2 j
  new : ∀ j, three hb v1 v2 j → w.heap.size ≤ j
  below : Below w.heap.size w wr
/-- What is known of them. -/
structure TxP (ls : List (List UInt8)) (is : List Nat) (k m : Nat) : Prop where
  nodup : is.Nodup
  lt : ∀ i ∈ is, i < ls.length
  short : ∀ l ∈ ls, l.length ≤ 1000
  num : ls.length ≤ k
  len : (encW ls).length ≤ m

theorem TxP.isle {ls : List (List UInt8)} {is : List Nat} {k m : Nat} (h : TxP ls is k m) : is.length ≤ k := by
  have := nodup_le is (List.range ls.length) h.nodup fun x hx => by rw [List.mem_range]; exact h.lt x hx
  rw [List.length_range] at this
  have := h.num
  omega
theorem string_ne_word {w : World} {base base' : Nat} {rv wv : Value} {n m : Nat} {xs ys : List Value} (h : w.ownsRow base 37 1 rv n xs) (h' : w.ownsRow base' 9 1 wv m ys) (j : Nat) (h1 : rv.ownBlock = some j) (h2 : wv.ownBlock = some j) : False := by
  rcases h.2 with ⟨rfl, _⟩ | ⟨g, cap, cur, rfl, _, hg, _⟩
  · simp [Value.ownBlock] at h1
  · exact row_type h h' (by decide) (h2.trans h1.symm)

theorem TxR.weak {w wr w' : World} {hb q c : Nat} {ls : List (List UInt8)} {is : List Nat} {rv wv v1 v2 : Value} (h : TxR w wr hb q c ls is rv wv v1 v2) (hbl : Below wr.heap.size wr w') : TxR w w' hb q c ls is rv wv v1 v2 := by
  have hk := Below.kept (S := fun k => wr.heap.size ≤ k) hbl fun k h1 _ => h1
  refine ⟨h.h.below hbl (Nat.le_refl _), own_kept h.rowR hk fun k hk hs => ?_, own_kept h.rowW hk fun k hk hs => ?_, h.rd, h.wd, h.new, h.below.trans (hbl.mono h.below.size)⟩
  · have := (h.rowR.lt k hk).2; omega
  · have := (h.rowW.lt k hk).2; omega

theorem pl_more (ls : List (List UInt8)) (s : List UInt8) (i : Nat) (h : i < ls.length) : pl (ls ++ [s]) i = pl ls i := by
  unfold pl
  rw [List.take_append_of_le_length (by omega)]
theorem pl_last (ls : List (List UInt8)) (s : List UInt8) : pl (ls ++ [s]) ls.length = (encW ls).length := by
  unfold pl
  rw [List.take_left]
theorem tx_more (ls : List (List UInt8)) (s : List UInt8) (i : Nat) (h : i < ls.length) : tx (ls ++ [s]) i = tx ls i := by
  unfold tx
  rw [List.getD_eq_getElem?_getD, List.getElem?_append_left h, ← List.getD_eq_getElem?_getD]
theorem tx_last (ls : List (List UInt8)) (s : List UInt8) : tx (ls ++ [s]) ls.length = s := by
  unfold tx
  rw [List.getD_eq_getElem?_getD, List.getElem?_append_right (Nat.le_refl _), Nat.sub_self]
  rfl

/-- A text more. -/
theorem TxR.put {w wr w' : World} {hb q c : Nat} {ls : List (List UInt8)} {is : List Nat} {rv wv v1 v2 u1 u2 : Value} {s : List UInt8} (h : TxR w wr hb q c ls is rv wv v1 v2) (hlt : ∀ i ∈ is, i < ls.length) (hP : LPost wr w' hb w.heap.size q c v1 v2 u1 u2 (encW (ls ++ [s])) (encF (ls ++ [s]))) : TxR w w' hb q c (ls ++ [s]) is rv wv u1 u2 := by
  have e1 : (is.map fun i => 2 * pl (ls ++ [s]) i) = is.map fun i => 2 * pl ls i := List.map_congr_left fun i hi => by rw [pl_more _ _ _ (hlt i hi)]
  have e2 : (is.map fun i => S (tx (ls ++ [s]) i)) = is.map fun i => S (tx ls i) := List.map_congr_left fun i hi => by rw [tx_more _ _ _ (hlt i hi)]
  refine ⟨hP.at_, by rw [e1]; exact own_kept h.rowR hP.kept h.rd, by rw [e2]; exact own_kept h.rowW hP.kept h.wd, ?_, ?_, ?_, h.below.trans (hP.kept.below h.below.size h.new)⟩
  · intro j hj hs
    rcases hP.new j hs with h1 | h1
    · exact h.rd j hj h1
    · have := (h.rowR.lt j hj).2; omega
  · intro j hj hs
    rcases hP.new j hs with h1 | h1
    · exact h.wd j hj h1
    · have := (h.rowW.lt j hj).2; omega
  · intro j hj
    rcases hP.new j hj with h1 | h1
    · exact h.new j h1
    · have := h.below.size; omega
theorem TxP.put {ls : List (List UInt8)} {is : List Nat} {k m n : Nat} {s : List UInt8} (h : TxP ls is k m) (hs : s.length ≤ 1000) (hn : m + (1 + nw s.length) ≤ n) : TxP (ls ++ [s]) is (k + 1) n :=
  ⟨h.nodup, fun i hi => by have := h.lt i hi; simp; omega, fun l hl => by
    rcases List.mem_append.1 hl with hl | hl
    · exact h.short l hl
    · simp at hl; subst hl; exact hs, by have := h.num; simp; omega, by rw [encW_append, encW_one, List.length_append, enc1_length]; have := h.len; omega⟩

theorem strInfo : (Try.prog.info? 9).map (fun i => (i.zero, i.size, i.bytes)) = some (some (.string ⟨#[]⟩), 1, 16) := by kernel_rfl

/-- It is kept: its place and itself behind the others. -/
theorem TxR.keep1 {w wr : World} {hb q c : Nat} {ls : List (List UInt8)} {is : List Nat} {rv wv v1 v2 : Value} {x : Nat} (h : TxR w wr hb q c ls is rv wv v1 v2) (hn : is.length ≤ 1000) :
    ∃ rv' w2, (Builtin.append_ #[29, 29] 29 #[rv, .slice (some ⟨wr.heap.size, 0, none⟩) 1 1]).run Try.prog (wr.alloc (.cells #[.int .u64 (x : Int)] 37)) = .ok rv' w2 ∧ OwnW w2 w.heap.size rv' ((is.map fun i => 2 * pl ls i) ++ [x]) ∧ HAt w2 hb w.heap.size q c v1 v2 (encW ls) (encF ls) ∧ w2.ownsRow w.heap.size 9 1 wv is.length (is.map fun i => S (tx ls i)) ∧ (∀ j, rv'.ownBlock = some j → ¬ three hb v1 v2 j) ∧ Below w.heap.size w w2 := by
  have hl : (is.map fun i => 2 * pl ls i).length = is.length := by simp
  have hs := h.below.size
  obtain ⟨rv', w2, r2, o2, g2, a2⟩ := append_one (ty := 29) (t := 29) wordInfo Try.underlying29 rfl (h.rowR.alloc (.cells #[.int .u64 (x : Int)] 37)) (RdV.lit wr (.int .u64 (x : Int)) 37) (by intro u hu; simp at hu; subst hu; rfl) (by rw [hl]; simp; omega) (by rw [hl]; simp; omega) (by simp; omega)
  have hkk : Kept (fun j => rv.ownBlock = some j) wr w2 := ((Kept.refl _ _).alloc _).grown g2 fun j hj => .inl hj
  refine ⟨rv', w2, r2, ?_, h.h.kept hkk fun k hk hs => h.rd k hs hk, own_kept h.rowW hkk fun k hk hs => string_ne_word h.rowR h.rowW k hs hk, ?_, (h.below.alloc hs _).grown g2 (by simp; omega) (fun j hj => (h.rowR.lt j hj).1)⟩
  · have e : Ws ((is.map fun i => 2 * pl ls i) ++ [x]) = Ws (is.map fun i => 2 * pl ls i) ++ [.int .u64 (x : Int)] := by rw [Ws_append]; rfl
    unfold OwnW
    rw [e]
    simpa using o2
  · intro j hj hs
    rcases a2 with a2 | a2
    · exact h.rd j (by rw [← a2]; exact hj) hs
    · rw [a2] at hj
      injection hj with hj
      have := h.h.own_lt j hs
      simp at hj
      omega
theorem TxP.keep {ls : List (List UInt8)} {is : List Nat} {k m : Nat} {s : List UInt8} (h : TxP (ls ++ [s]) is k m) (hlt : ∀ i ∈ is, i < ls.length) : TxP (ls ++ [s]) (is ++ [ls.length]) k m :=
  ⟨by
    rw [List.nodup_append]
    refine ⟨h.nodup, by simp, fun a ha b hb e => ?_⟩
    simp at hb
    have := hlt a ha
    omega, fun i hi => by
    rcases List.mem_append.1 hi with hi | hi
    · exact h.lt i hi
    · simp at hi; subst hi; simp, h.short, h.num, h.len⟩

/-- A collection. -/
theorem TxR.col {w wr w1 w' : World} {hb q c k m : Nat} {ls : List (List UInt8)} {is : List Nat} {rv wv v1 v2 pv : Value} {e : Ending} (h : TxR w wr hb q c ls is rv wv v1 v2) (hp : TxP ls is k m) (hk : k ≤ 1000) (hb1 : Below wr.heap.size wr w1)
    (_hr : w1.ownsRow wr.heap.size 74 1 pv is.length ((rsOf rv is.length).map ptrV)) (hC : ColPost w1 w' hb w.heap.size q c v1 v2 (encW ls) (encF ls) (rsOf rv is.length) (is.map fun i => 2 * pl ls i) e) :
    e = .returned (.tuple #[]) ∧ ∃ u1 u2, TxR w w' hb q (c + 1) (is.map (tx ls)) (List.range is.length) rv wv u1 u2 ∧ TxP (is.map (tx ls)) (List.range is.length) k m := by
  have h1 := h.weak hb1
  have hnum : ls.length ≤ 1000 := by have := hp.num; omega
  obtain ⟨t1, t2, t3⟩ := col_texts ls hp.short hnum is hp.nodup hp.lt
  obtain ⟨he, u1, u2, hH, hnew, hkept, hcell, _, hshape, hinv⟩ := hC
  have hlen := hinv.tot_le
  rw [← hinv.len, t1] at hlen
  rw [t1, t2] at hH
  rw [t3] at hcell
  have hmem : ∀ a ∈ rsOf rv is.length, rv.ownBlock = some a.block := fun a ha => (rsOf_mem (n := is.length) (by have := h1.rowR; unfold OwnW at this; simpa using this) ha).1
  refine ⟨he, u1, u2, ⟨hH, ?_, ?_, ?_, ?_, ?_, ?_⟩, ⟨List.nodup_range, fun i hi => by simpa using hi, fun l hl => ?_, ?_, ?_⟩⟩
  · refine own_after (n := is.length) h1.rowR (by simp) (by simp) hshape (fun j hj hn => ?_) hcell
    refine hkept.block j (h1.rowR.lt j hj).2 (fun hs => ?_)
    rcases hs with hs | ⟨a, ha, e⟩
    · exact h1.rd j hj hs
    · exact hn a ha e
  · have e2 : (List.range is.length).map (fun i => S (tx (is.map (tx ls)) i)) = is.map fun i => S (tx ls i) := by
      apply List.ext_getElem?
      intro j
      by_cases hj : j < is.length
      · simp only [List.getElem?_map, List.getElem?_range hj, List.getElem?_eq_getElem hj, Option.map_some]
        congr 2
        unfold tx
        rw [List.getD_eq_getElem?_getD, List.getElem?_map, List.getElem?_eq_getElem hj]
        rfl
      · have a1 : ((List.range is.length).map fun i => S (tx (is.map (tx ls)) i))[j]? = none := by rw [List.getElem?_eq_none_iff]; simp; omega
        have a2 : (is.map fun i => S (tx ls i))[j]? = none := by rw [List.getElem?_eq_none_iff]; simp; omega
        rw [a1, a2]
    rw [e2, List.length_range]
    refine own_kept h1.rowW hkept fun j hj hs => ?_
    rcases hs with hs | ⟨a, ha, e⟩
    · exact h1.wd j hj hs
    · subst e
      exact string_ne_word h1.rowR h1.rowW _ (hmem a ha) hj
  · intro j hj hs
    rcases hnew j hs with h2 | h2
    · exact h1.rd j hj h2
    · have := (h1.rowR.lt j hj).2; omega
  · intro j hj hs
    rcases hnew j hs with h2 | h2
    · exact h1.wd j hj h2
    · have := (h1.rowW.lt j hj).2; omega
  · intro j hj
    rcases hnew j hj with h2 | h2
    · exact h1.new j h2
    · have := h1.below.size; omega
  · refine h1.below.trans (hkept.below h1.below.size fun j hj => ?_)
    rcases hj with hj | ⟨a, ha, e⟩
    · exact h1.new j hj
    · subst e
      exact (h1.rowR.lt _ (hmem a ha)).1
  · obtain ⟨i, hi, rfl⟩ := List.mem_map.1 hl
    have hil := hp.lt i hi
    refine hp.short _ ?_
    unfold tx
    rw [List.getD_eq_getElem?_getD, List.getElem?_eq_getElem hil]
    exact List.getElem_mem hil
  · have := hp.isle
    simpa using this
  · have := hp.len
    omega
end Go.Proofs.Ytkdhajiplonloaa
