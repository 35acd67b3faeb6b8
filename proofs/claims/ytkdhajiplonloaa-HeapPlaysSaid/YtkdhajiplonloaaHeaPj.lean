/- The reference's Collect: what its walk needs. -/
import Derived.Test.YtkdhajiplonloaaHeaPi
namespace Go.Proofs.Ytkdhajiplonloaa
open Go.RowKit HeaM

/-- What At tells, its text, too. -/
theorem at_lit2 (v : Value) (W : List Nat) (i : Nat) (w : World) (h : RdW w v W) (hi : i < W.length) (hws : ∀ x ∈ W, x < 18446744073709551616) (hmx : W.length ≤ 10000000) (hok : atOk W i = true) :
    Calls Try.prog 14 #[v, .int .i64 (i : Int)] w fun e w' => ∃ (kk : Nat) (po : Option Addr) (pc : Nat) (str : ByteArray) (N : Nat) (P : List Nat),
      e = .returned (.tuple #[.agg #[.int .u8 (kk : Int), .slice po P.length pc, .string str], .int .i64 (N : Int)]) ∧ OwnU w' w.heap.size (.slice po P.length pc) P ∧ Below w.heap.size w w' ∧
      N = szX (W.getD i 0) ∧ P = (if W.getD i 0 % 256 ≠ 3 then rst W i else []) ∧ kk = W.getD i 0 % 256 ∧ (W.getD i 0 % 256 = 3 → str.data.toList = txt W i (W.getD i 0 / 256)) := by
  refine (at_t v W i w h hi hws hmx).mono ?_
  rintro e w' ⟨pv, rfl, ho, hb⟩
  simp only [hok, if_true, true_and] at ho ⊢
  obtain ⟨po, pc, rfl, _⟩ := own_slice ho
  refine ⟨_, po, pc, _, _, _, rfl, ho, hb, rfl, rfl, rfl, fun h3 => ?_⟩
  rw [if_pos h3]

theorem Ob.ok {W : List Nat} {F : List Bool} {i : Nat} (h : Ob W F i) : atOk W i = true := by
  have h1 := h.fits
  unfold atOk
  rw [h.kind]
  simp only [Bool.true_and, decide_eq_true_eq]
  omega
/-- A text that is packed as PutText packs it. -/
theorem txt_obj {W : List Nat} {F : List Bool} {i : Nat} {s : List UInt8} (h : Ob W F i) (hs : obj W i = enc1 s) : W.getD i 0 = s.length * 256 + 3 ∧ txt W i (W.getD i 0 / 256) = s := by
  have hh := obj_head h
  rw [hs] at hh
  have h0 : W.getD i 0 = s.length * 256 + 3 := by
    unfold enc1 at hh
    injection hh with h1 _
    exact h1.symm
  refine ⟨h0, ?_⟩
  rw [h0, show (s.length * 256 + 3) / 256 = s.length by omega]
  have hp := txt_put [] [] (s.length * 256 + 3) s
  rw [List.append_nil, List.nil_append] at hp
  conv => rhs; rw [← hp]
  unfold txt
  apply List.map_congr_left
  intro j hj
  rw [List.mem_range] at hj
  congr 1
  have hsz := sz_text s.length
  have hfit := h.fits
  rw [h0, hsz] at hfit
  have hjn : 1 + j / 8 < 1 + nw s.length := by unfold nw; omega
  have e1 : W.getD (i + (1 + j / 8)) 0 = (obj W i).getD (1 + j / 8) 0 := by
    unfold obj
    rw [h0, hsz, List.getD_eq_getElem?_getD, List.getD_eq_getElem?_getD, List.getElem?_take, if_pos hjn, List.getElem?_drop]
  rw [e1, hs]
  simp [enc1]

theorem thr_tr {W : List Nat} {F : List Bool} {ps : List (Nat × Nat)} {x : Nat} (hx : x % 2 = 1 ∨ isObj W F x = true) (hk : Knows W F ps x) : thr ps x = trW W F ps x := by
  unfold thr trW
  rcases hx with hx | hx
  · rw [if_neg (by omega), isObj_no (.inl hx)]
    rfl
  · obtain ⟨j, hj⟩ := hk hx
    rw [if_pos (isObj_iff.1 hx).1, if_pos hx, hj]
    rfl

/-- An object's words, told by the reference. -/
theorem tobj_parts {W : List Nat} {F : List Bool} {f : List (Nat × Nat)} {i : Nat} (h : Ob W F i) (hs : Sound W F) (hk : W.getD i 0 % 256 ≠ 3) (hkn : ∀ x ∈ rst W i, Knows W F f x) : (((rst W i).map (thr f)).length * 256 + W.getD i 0 % 256) :: (rst W i).map (thr f) = tobj W F f i := by
  have e : (rst W i).map (thr f) = (rst W i).map (trW W F f) := List.map_congr_left fun x hx => thr_tr (hs i h hk x hx) (hkn x hx)
  have hl := rst_length h
  have hz : szX (W.getD i 0) = 1 + W.getD i 0 / 256 := by unfold szX need; rw [if_neg hk]
  unfold tobj
  rw [if_neg hk, e, List.length_map, hl, hz]
  congr 1
  omega

/-- The second pass of the reference. -/
structure Bfs (W : List Nat) (F : List Bool) (xs : List Nat) (s : St) (m o n : Nat) : Prop where
  inv : Inv W F s
  at_ : AtP W s m o
  til : Til W F (colS W F xs).1 s m
  go : goP W F n o s = colS W F xs
  fuel : W.length < n + o

theorem Bfs.start {W : List Nat} {F : List Bool} (hg : Good W F) (xs : List Nat) : Bfs W F xs (mvs W F ([], []) xs).1 0 0 (W.length + 1) := by
  obtain ⟨e, h1, _⟩ := mvs_form W F ([], []) xs
  refine ⟨inv_mvs (Inv.nil W F) hg xs, ⟨Nat.zero_le _, rfl⟩, ⟨?_, by simp⟩, rfl, by omega⟩
  rw [h1]
  simp [tobjs]
theorem Bfs.pre {W : List Nat} {F : List Bool} {xs : List Nat} {s : St} {m o n : Nat} (h : Bfs W F xs s m o n) : ∃ q, (colS W F xs).1 = s.1 ++ q := by
  obtain ⟨q, hq⟩ := goP_grew W F n o s
  exact ⟨q, by rw [← h.go, hq]⟩
/-- The next object. -/
structure BfsO (W : List Nat) (F : List Bool) (xs : List Nat) (s : St) (m o : Nat) (p : Nat × Nat) : Prop where
  at_ : OAt W F s m o p
  ob : Ob W F p.1
  next : ∃ n, Bfs W F xs (stp W F o s) (m + 1) (o + szX (W.getD p.1 0)) n
  pre : ∃ q, (colS W F xs).1 = (stp W F o s).1 ++ q
theorem Bfs.obj {W : List Nat} {F : List Bool} {xs : List Nat} {s : St} {m o n : Nat} (h : Bfs W F xs s m o n) (hg : Good W F) (hm : m < s.1.length) : ∃ p, BfsO W F xs s m o p := by
  have ht := tot_take (W := W) (List.getElem?_eq_getElem hm)
  have hmo := tot_mono (W := W) (ps := s.1) (show m + 1 ≤ s.1.length by omega)
  rw [List.take_length] at hmo
  have hz := szX_pos (W.getD s.1[m].1 0)
  have hlt : o < s.2.length := by
    rw [h.inv.len, h.at_.at_]
    omega
  obtain ⟨p, hp⟩ := h.at_.obj h.inv hlt
  have hob := h.inv.ob p (List.mem_of_getElem? hp.get)
  have hn : ∃ n', n = n' + 1 := by
    cases n with
    | zero => have := h.fuel; have := h.inv.tot_le; have := h.inv.len; omega
    | succ n' => exact ⟨n', rfl⟩
  obtain ⟨n', rfl⟩ := hn
  have hgo := h.go
  unfold goP at hgo
  rw [if_pos hlt, hp.head] at hgo
  have hpre : ∃ q, (colS W F xs).1 = (stp W F o s).1 ++ q := by
    obtain ⟨q, hq⟩ := goP_grew W F n' (o + szX (W.getD p.1 0)) (stp W F o s)
    exact ⟨q, by rw [← hgo, hq]⟩
  obtain ⟨t1, t2, _, t4⟩ := h.til.stp h.inv hg h.at_ hp hpre
  have hzp := szX_pos (W.getD p.1 0)
  exact ⟨p, hp, hob, ⟨n', t2, t4, t1, hgo, by have := h.fuel; omega⟩, hpre⟩
theorem Bfs.done {W : List Nat} {F : List Bool} {xs : List Nat} {s : St} {m o n : Nat} (h : Bfs W F xs s m o n) (hm : s.1.length ≤ m) : s = colS W F xs := by
  have h1 := h.at_.at_
  rw [List.take_of_length_le hm, ← h.inv.len] at h1
  have h2 := h.go
  cases n with
  | zero => exact h2
  | succ n' =>
    unfold goP at h2
    rw [if_neg (by omega)] at h2
    exact h2
/-- One part of an object with parts. -/
theorem BfsO.part {W : List Nat} {F : List Bool} {xs : List Nat} {s : St} {m o n i : Nat} {p : Nat × Nat} (h : Bfs W F xs s m o n) (hp : BfsO W F xs s m o p) (hg : Good W F) (hk : W.getD p.1 0 % 256 ≠ 3) (hi : i < (rst W p.1).length) :
    Inv W F (prts W F o s i) ∧ (prts W F o s (i + 1)).1 = (mv W F (prts W F o s i) ((rst W p.1).getD i 0)).1.1 ∧ (prts W F o s (i + 1)).2.length = (mv W F (prts W F o s i) ((rst W p.1).getD i 0)).1.2.length := by
  have hrl := rst_length hp.ob
  have hst : stp W F o s = prts W F o s (rst W p.1).length := by
    unfold stp
    rw [hp.at_.head, if_neg hk, hrl]
  have hpi := PI.all h.inv h.at_ hp.at_ hg i (by omega)
  have hpre : ∃ q, (colS W F xs).1 = (prts W F o s i).1 ++ q := by
    obtain ⟨q, hq⟩ := hp.pre
    rw [hst] at hq
    have hgr : ∀ a b, a ≤ b → ∃ q, (prts W F o s b).1 = (prts W F o s a).1 ++ q := by
      intro a b hab
      induction b with
      | zero => obtain rfl : a = 0 := by omega
                exact ⟨[], by simp⟩
      | succ b ih =>
        rcases Nat.lt_or_ge b a with h1 | h1
        · obtain rfl : a = b + 1 := by omega
          exact ⟨[], by simp⟩
        · obtain ⟨q, hq⟩ := ih h1
          obtain ⟨e, he⟩ := prt_grew W F o (prts W F o s b) b
          exact ⟨q ++ e, by rw [prts_succ, he, hq, List.append_assoc]⟩
    obtain ⟨q2, hq2⟩ := hgr i (rst W p.1).length (by omega)
    exact ⟨q2 ++ q, by rw [hq, hq2, List.append_assoc]⟩
  have hw := Way.parts (h.til.way hp.at_.get h.inv.ob) h.inv hg h.at_ hp.at_ i (by omega) hpre
  have hx := hw.part hpi.inv.ob (h.at_.grew hpi.grew).at_ hi
  refine ⟨hpi.inv, ?_, ?_⟩
  · rw [prts_succ]
    unfold prt
    rw [hx]
  · rw [prts_succ]
    unfold prt
    simp only
    rw [hx, List.length_set]
theorem BfsO.stp_eq {W : List Nat} {F : List Bool} {xs : List Nat} {s : St} {m o : Nat} {p : Nat × Nat} (hp : BfsO W F xs s m o p) : stp W F o s = if W.getD p.1 0 % 256 ≠ 3 then prts W F o s (rst W p.1).length else s := by
  have hrl := rst_length hp.ob
  unfold stp
  rw [hp.at_.head, hrl]
  by_cases hk : W.getD p.1 0 % 256 = 3
  · rw [if_pos hk, if_neg (fun h => h hk)]
  · rw [if_neg hk, if_pos hk]
end Go.Proofs.Ytkdhajiplonloaa
