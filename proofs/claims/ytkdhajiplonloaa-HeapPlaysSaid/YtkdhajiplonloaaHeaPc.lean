/- A heap that is played with, its roots; room for an object. -/
import Derived.Test.YtkdhajiplonloaaHeaPb
import Derived.Test.YtkdhajiplonloaaLTwice
namespace Go.Proofs.Ytkdhajiplonloaa
open Go.RowKit HeaM

/-- A heap and its roots. -/
structure PlS (w wr : World) (d q c : Nat) (W : List Nat) (F : List Bool) (rv : Value) (xs : List Nat) (v1 v2 : Value) : Prop where
  h : HAt wr d w.heap.size q c v1 v2 W F
  row : OwnW wr w.heap.size rv xs
  rd : ∀ j, rv.ownBlock = some j → ¬ three d v1 v2 j
  new : ∀ j, three d v1 v2 j → w.heap.size ≤ j
  below : Below w.heap.size w wr
  fine : Fine W F
  fits : W.length ≤ q
  fit : ∀ x ∈ xs, (x % 2 = 1 ∨ isObj W F x = true) ∧ x < 18446744073709551616

theorem PlS.more {w wr w' : World} {d q c : Nat} {W : List Nat} {F : List Bool} {rv v1 v2 : Value} {xs : List Nat} (h : PlS w wr d q c W F rv xs v1 v2) (hb : Below wr.heap.size wr w') : PlS w w' d q c W F rv xs v1 v2 :=
  ⟨h.h.below hb (Nat.le_refl _), own_below h.row hb, h.rd, h.new, h.below.trans (hb.mono h.below.size), h.fine, h.fits, h.fit⟩
theorem PlS.drewN {w wr : World} {d q c : Nat} {W : List Nat} {F : List Bool} {rv v1 v2 : Value} {xs : List Nat} (h : PlS w wr d q c W F rv xs v1 v2) (n : Nat) : PlS w (wr.drewN n) d q c W F rv xs v1 v2 := h.more (below_drewN _ _ _)

/-- Parts beside the roots. -/
structure PtS (w wr : World) (d : Nat) (rv pv v1 v2 : Value) (ps : List Nat) : Prop where
  row : OwnW wr w.heap.size pv ps
  rd : ∀ j, pv.ownBlock = some j → ¬ three d v1 v2 j
  ne : ∀ j, pv.ownBlock = some j → rv.ownBlock ≠ some j

/-- What room makes of a heap, its roots and the parts. -/
def Rmd (q n : Nat) (W : List Nat) (F : List Bool) (xs ps : List Nat) (c : Nat) (W' : List Nat) (F' : List Bool) (xs' ps' : List Nat) (c' : Nat) : Prop :=
  (W.length + n ≤ q ∧ W' = W ∧ F' = F ∧ xs' = xs ∧ ps' = ps ∧ c' = c) ∨
  (q < W.length + n ∧ W' = (colS W F (xs ++ ps)).2 ∧ F' = mk W (colS W F (xs ++ ps)).1 ∧ xs' = (colR W F (xs ++ ps)).take xs.length ∧ ps' = (colR W F (xs ++ ps)).drop xs.length ∧ c' = c + 1)

def Wrt (d : Nat) (v1 v2 rv pv : Value) : Nat → Prop := fun k => three d v1 v2 k ∨ rv.ownBlock = some k ∨ pv.ownBlock = some k

def RmPost (w wr w' : World) (d q n c : Nat) (W : List Nat) (F : List Bool) (rv pv : Value) (xs ps : List Nat) (v1 v2 : Value) (e : Ending) : Prop :=
  ∃ W' F' xs' ps' c' u1 u2, Rmd q n W F xs ps c W' F' xs' ps' c' ∧ e = .returned (.bool (decide (W'.length + n ≤ q))) ∧ PlS w w' d q c' W' F' rv xs' u1 u2 ∧ PtS w w' d rv pv u1 u2 ps' ∧ (∀ x ∈ ps', (x % 2 = 1 ∨ isObj W' F' x = true) ∧ x < 18446744073709551616) ∧ Kept (Wrt d v1 v2 rv pv) wr w' ∧ (∀ k, three d u1 u2 k → three d v1 v2 k ∨ wr.heap.size ≤ k)

theorem PtS.more {w wr w' : World} {d : Nat} {rv pv v1 v2 : Value} {ps : List Nat} (h : PtS w wr d rv pv v1 v2 ps) (hb : Below wr.heap.size wr w') : PtS w w' d rv pv v1 v2 ps := ⟨own_below h.row hb, h.rd, h.ne⟩

/-- A row of which some cells were roots. -/
theorem own_after2 {base n m : Nat} {v : Value} {xs ys : List Nat} {w w' : World} {rs : List Addr} {zs : List Nat} (h : OwnW w base v xs) (hn : xs.length = n) (hy : ys.length = n) (hsub : ∀ (j : Nat) (a : Addr), (rsOf v n)[j]? = some a → rs[m + j]? = some a) (hz : ∀ j : Nat, j < n → zs[m + j]? = ys[j]?) (hs : Shape rs w w') (h0 : ∀ k, v.ownBlock = some k → (∀ a ∈ rs, a.block ≠ k) → w'.heap[k]? = w.heap[k]?) (hc : ∀ (j : Nat) (a : Addr) (y : Nat), rs[j]? = some a → zs[j]? = some y → w'.cell? a = some (.int .u64 (y : Int))) : OwnW w' base v ys := by
  subst hn
  refine ⟨by simp [Ws_length], ?_⟩
  rcases h.2 with ⟨rfl, hn⟩ | ⟨g, cap, cur, rfl, hb, hg, hcap, hm, hsz, htk⟩
  · exact .inl ⟨rfl, by omega⟩
  · by_cases hex : ∃ a ∈ rs, a.block = g
    · obtain ⟨cur', g1, g2, g3⟩ := hs g cur _ _ hex hg
      refine .inr ⟨g, cap, cur', by rw [hy], hb, g1, by omega, hm, by omega, ?_⟩
      apply List.ext_getElem?
      intro j
      rw [List.getElem?_take]
      by_cases hj : j < ys.length * 1
      · rw [if_pos hj]
        have hjn : j < xs.length := by omega
        have hr : (rsOf (.slice (some ⟨g, 0, none⟩) xs.length cap) xs.length)[j]? = some ⟨g, j, none⟩ := by rw [rsOf_some, List.getElem?_map, List.getElem?_range hjn]; rfl
        have h1 := hc (m + j) ⟨g, j, none⟩ (ys[j]'(by omega)) (hsub j _ hr) (by rw [hz j hjn]; exact List.getElem?_eq_getElem (by omega))
        rw [cell_of_row w' g j cur' _ _ g1] at h1
        rw [Array.getElem?_toList, h1]
        simp only [Ws, List.getElem?_map]
        rw [List.getElem?_eq_getElem (by omega)]
        rfl
      · rw [if_neg hj]
        symm
        rw [List.getElem?_eq_none_iff, Ws_length]
        omega
    · have hno : ∀ a ∈ rs, a.block ≠ g := fun a ha e => hex ⟨a, ha, e⟩
      have hz0 : xs.length = 0 := by
        rcases Nat.eq_zero_or_pos xs.length with h1 | h1
        · exact h1
        · have hr : (rsOf (.slice (some ⟨g, 0, none⟩) xs.length cap) xs.length)[0]? = some ⟨g, 0, none⟩ := by rw [rsOf_some, List.getElem?_map, List.getElem?_range h1]; rfl
          exact absurd rfl (hno _ (List.mem_of_getElem? (hsub 0 _ hr)))
      refine .inr ⟨g, cap, cur, by rw [hy], hb, (h0 g rfl hno).trans hg, by omega, hm, hsz, ?_⟩
      rw [hy, hz0, List.eq_nil_of_length_eq_zero (hy.trans hz0)]
      rfl

theorem colR_length (W : List Nat) (F : List Bool) (xs : List Nat) : (colR W F xs).length = xs.length := mvs_length _ _ _ _
theorem colR_fit {W : List Nat} {F : List Bool} (h : Fine W F) (ys : List Nat) (hy : ∀ y ∈ ys, (y % 2 = 1 ∨ isObj W F y = true) ∧ y < 18446744073709551616) : ∀ z ∈ colR W F ys, (z % 2 = 1 ∨ isObj (colS W F ys).2 (mk W (colS W F ys).1) z = true) ∧ z < 18446744073709551616 := by
  obtain ⟨_, _, h3, h4, _⟩ := col_form h.good ys
  have hd := col_done h.good h.sound ys
  intro z hz
  have hl := colR_lt h.good h.sound ys (fun y hm => (hy y hm).2) z hz
  rw [h3] at hz
  obtain ⟨y, hym, rfl⟩ := List.mem_map.1 hz
  exact ⟨hd.tr (hy y hym).1 (h4 y hym), hl⟩

theorem rm_t (w wr w1 : World) (d q n c : Nat) (W : List Nat) (F : List Bool) (rv pv prv : Value) (xs ps : List Nat) (v1 v2 : Value) (h : PlS w wr d q c W F rv xs v1 v2) (hp : PtS w wr d rv pv v1 v2 ps) (hps : ∀ x ∈ ps, (x % 2 = 1 ∨ isObj W F x = true) ∧ x < 18446744073709551616)
    (hc : c ≤ 100000000) (hq : q ≤ 1048576) (hn2 : xs.length + ps.length ≤ 1000000) (hnn : n ≤ 100000000) (hb : Below wr.heap.size wr w1) (hpr : w1.ownsRow wr.heap.size 74 1 prv xs.length ((rsOf rv xs.length).map ptrV)) :
    Calls Try.prog 36 #[.pointer (some ⟨d, 0, none⟩), .int .i64 (n : Int), pv, prv] w1 fun e w' => RmPost w wr w' d q n c W F rv pv xs ps v1 v2 e := by
  have h1 := h.more hb
  have hp1 := hp.more hb
  by_cases hfit : W.length + n ≤ q
  · refine (room_yes d w.heap.size q c v1 v2 W F n pv prv w1 h1.h hq hfit).mono ?_
    rintro e w' ⟨rfl, k, rfl⟩
    refine ⟨W, F, xs, ps, c, v1, v2, .inl ⟨hfit, rfl, rfl, rfl, rfl, rfl⟩, by simp [hfit], h1.drewN k, hp1.more (below_drewN _ _ _), hps, Below.kept (n := wr.heap.size) (hb.trans (below_drewN _ _ _)) (fun i h1 h2 => by omega), fun k hk => .inl hk⟩
  · have hR := roots_own h.row rfl h.h h.rd (fun x hx => (h.fit x hx).2) (by omega) hpr hb
    have hrl := rsOf_length h.row
    have hmr : ∀ a ∈ rsOf rv xs.length, rv.ownBlock = some a.block := fun a ha => (rsOf_mem h.row ha).1
    have hmp : ∀ a ∈ rsOf pv ps.length, pv.ownBlock = some a.block := fun a ha => (rsOf_mem hp.row ha).1
    refine (room_col d w.heap.size w.heap.size q c v1 v2 prv pv W F _ xs ps n w1 h1.h h.fine.good h1.below.size hc hq h.fits hR hp1.row (fun j hj => ⟨hp.rd j hj, fun a ha e => hp.ne j hj (by rw [hmr a ha, e])⟩) (fun x hx => (hps x hx).2) (by omega) (by omega) hnn).mono ?_
    rintro e w' ⟨he, w2, nq, hb2, w3, hC, rfl⟩
    obtain ⟨_, u1, u2, hH, hnew, hkept, hcell, _, hshape, hinv⟩ := hC
    have h2 := h1.more hb2
    have hp2 := hp1.more hb2
    have hb12 := hb.trans (hb2.mono hb.size)
    have hzl := colR_length W F (xs ++ ps)
    rw [List.length_append] at hzl
    have hzf := colR_fit h.fine (xs ++ ps) fun y hy => by
      rcases List.mem_append.1 hy with hy | hy
      · exact h.fit y hy
      · exact hps y hy
    have hk : Kept (Wrt d v1 v2 rv pv) w2 w3 := hkept.weak fun k _ hk => by
      rcases hk with hk | ⟨a, ha, e⟩
      · exact .inl hk
      · rcases List.mem_append.1 ha with ha | ha
        · exact .inr (.inl (e ▸ hmr a ha))
        · exact .inr (.inr (e ▸ hmp a ha))
    have hk3 : Kept (Wrt d v1 v2 rv pv) wr (w3.drewN nq) := ((Below.kept (n := wr.heap.size) hb12 (fun i h1 h2 => by omega)).trans hk).drewN nq
    have hvl : (colS W F (xs ++ ps)).2.length ≤ W.length := by
      have h1 := hinv.tot_le
      have h2 := hinv.len
      omega
    have hrow : OwnW w3 w.heap.size rv ((colR W F (xs ++ ps)).take xs.length) := by
      refine own_after2 (m := 0) h2.row rfl (by rw [List.length_take]; omega) (fun j a hj => ?_) (fun j hj => ?_) hshape (fun k hk hn => ?_) hcell
      · rw [Nat.zero_add, List.getElem?_append_left (List.getElem?_eq_some_iff.1 hj).1]
        exact hj
      · rw [Nat.zero_add, List.getElem?_take, if_pos hj]
      · refine hkept.block k (h2.row.lt k hk).2 (fun hs => ?_)
        rcases hs with hs | ⟨a, ha, e⟩
        · exact h2.rd k hk hs
        · exact hn a ha e
    have hprow : OwnW w3 w.heap.size pv ((colR W F (xs ++ ps)).drop xs.length) := by
      refine own_after2 (m := xs.length) hp2.row rfl (by rw [List.length_drop]; omega) (fun j a hj => ?_) (fun j hj => ?_) hshape (fun k hk hn => ?_) hcell
      · rw [List.getElem?_append_right (by omega), hrl, Nat.add_sub_cancel_left]
        exact hj
      · rw [List.getElem?_drop]
      · refine hkept.block k (hp2.row.lt k hk).2 (fun hs => ?_)
        rcases hs with hs | ⟨a, ha, e⟩
        · exact hp2.rd k hk hs
        · exact hn a ha e
    have hnew2 : ∀ k, three d u1 u2 k → three d v1 v2 k ∨ wr.heap.size ≤ k := fun k hk => (hnew k hk).imp id fun h => by have := hb12.size; omega
    refine ⟨_, _, _, _, c + 1, u1, u2, .inr ⟨by omega, rfl, rfl, rfl, rfl, rfl⟩, ?_, ?_, ?_, fun x hx => hzf x (List.mem_of_mem_drop hx), hk3, hnew2⟩
    · rw [he]
      congr 2
      rw [Bool.eq_iff_iff, decide_eq_true_eq, decide_eq_true_eq]
      have := h.fits
      omega
    · refine PlS.drewN ⟨hH, hrow, fun j hj hs => ?_, fun j hj => ?_, ?_, h.fine.col _, by have := h.fits; omega, fun x hx => hzf x (List.mem_of_mem_take hx)⟩ nq
      · rcases hnew j hs with h3 | h3
        · exact h2.rd j hj h3
        · have := (h2.row.lt j hj).2; omega
      · rcases hnew2 j hj with h3 | h3
        · exact h.new j h3
        · have := h.below.size; omega
      · refine h2.below.trans (hk.below h2.below.size fun j hj => ?_)
        rcases hj with hj | hj | hj
        · exact h.new j hj
        · exact (h2.row.lt j hj).1
        · exact (hp2.row.lt j hj).1
    · refine PtS.more ⟨hprow, fun j hj hs => ?_, hp.ne⟩ (below_drewN _ _ _)
      rcases hnew j hs with h3 | h3
      · exact hp2.rd j hj h3
      · have := (hp2.row.lt j hj).2; omega
end Go.Proofs.Ytkdhajiplonloaa
