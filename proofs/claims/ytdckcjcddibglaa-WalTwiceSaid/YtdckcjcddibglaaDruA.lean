/- The drum: tracks in the plain, and in memory. -/
import Derived.Test.YtdckcjcddibglaaDruB
import Derived.Deep.OwnRows
namespace Go.Proofs.Ytdckcjcddibglaa
open Go.RowKit

theorem own_block {w w' : World} {base : Nat} {e : TypeId} {size : Nat} {v : Value} {n : Nat} {xs : List Value} (h : w.ownsRow base e size v n xs) (hk : ∀ k, v.ownBlock = some k → w'.heap[k]? = w.heap[k]?) : w'.ownsRow base e size v n xs := by
  refine ⟨h.1, ?_⟩
  rcases h.2 with hn | ⟨g, cap, cur, rfl, hb, hgg, rest⟩
  · exact .inl hn
  · refine .inr ⟨g, cap, cur, rfl, hb, ?_, rest⟩
    rw [hk g rfl]
    exact hgg

/-- Fewer bytes of the same row. -/
theorem own_cut {w : World} {base : Nat} {g : Option Addr} {c : Nat} {l : List UInt8} (h : Own w base (.slice g l.length c) l) (n : Nat) (hn : n ≤ l.length) : Own w base (.slice g n c) (l.take n) := by
  have hl : (l.take n).length = n := by simp; omega
  unfold Own
  rw [hl]
  refine ⟨by simp [Bs_length, hl], ?_⟩
  rcases h.2 with ⟨h1, h2⟩ | ⟨b, cap, cur, h1, hb, hg, hnc, hm, hs, ht⟩
  · injection h1 with h1 h3 h4
    exact .inl ⟨by rw [h1, h4, show n = 0 by omega], by omega⟩
  · injection h1 with h1 _ h4
    subst h1 h4
    refine .inr ⟨b, c, cur, rfl, hb, hg, by omega, hm, hs, ?_⟩
    have : cur.toList.take (n * 1) = (cur.toList.take (l.length * 1)).take n := by rw [List.take_take]; congr 1; omega
    rw [this, ht]
    simp [Bs, List.map_take]

set_option maxRecDepth 100000 in
/-- An append of bytes to a row: where it lies then; a row that shares its block, and isn't longer, is as it was. -/
theorem append_two {w : World} {base : Nat} {v s : Value} {l k : List UInt8} (hown : Own w base v l) (hs : Rd w s k) (hb : l.length + k.length ≤ 140737488355328) (hbase : base ≤ w.heap.size) (ty : TypeId) :
    ∃ o cap w', (Builtin.append_ #[22, 22] ty #[v, s]).run Try.prog w = .ok (.slice o (l.length + k.length) cap) w' ∧ Own w' base (.slice o (l.length + k.length) cap) (l ++ k) ∧ w.grownBy w' v.ownBlock ∧
      ((Value.slice o (l.length + k.length) cap).ownBlock = v.ownBlock ∨ (Value.slice o (l.length + k.length) cap).ownBlock = some w.heap.size) ∧
      ∀ u m, Own w base u m → (u.ownBlock = v.ownBlock → m.length ≤ l.length) → Own w' base u m := by
  obtain ⟨i0, hi0, hz0, hz1, hz2⟩ := info_parts u8info
  have hlk : (l ++ k).length = l.length + k.length := List.length_append
  rcases hs with ⟨rfl, rfl⟩ | ⟨a, c, rfl, hn, hm, hc⟩
  · obtain ⟨o, cap, rfl, _⟩ := own_slice hown
    exact ⟨o, cap, w, run_append_owned_none (P := Try.prog) (w := w) base 22 ty 5 i0 1 Try.underlying22 hi0 _ _ _ hown, by simpa [Own] using hown, World.grownBy.refl w _, .inl rfl, fun u m hu _ => hu⟩
  · have hnews : ∀ j u, (Bs k)[j]? = some u → w.cell? (a.add j) = some u := fun j u hj => by
      obtain ⟨b, hb, rfl⟩ : ∃ b, k[j]? = some b ∧ B b = u := by simpa [Bs] using hj
      exact hc j b hb
    have far : ∀ w' : World, (∀ g, g < w.heap.size → w'.heap[g]? = w.heap[g]?) → ∀ u m, Own w base u m → (u.ownBlock = v.ownBlock → m.length ≤ l.length) → Own w' base u m := fun w' hw u m hu _ =>
      own_block hu fun g hg => hw g (hu.lt g hg).2
    have fin : ∀ (o : Option Addr) (cap : Nat) (w' : World), w'.ownsRow base 5 1 (.slice o (l.length + k.length) cap) (l.length + k.length) (Bs l ++ Bs k) → Own w' base (.slice o (l.length + k.length) cap) (l ++ k) := fun o cap w' h => by
      unfold Own
      rw [hlk, Bs_append]
      exact h
    obtain ⟨v', w', hr, h2, h3, _, h5⟩ := run_append_own_at (P := Try.prog) w base 22 ty 5 i0 (.int .u8 0) 1 1 Try.underlying22 hi0 hz0 hz1 hz2 rfl (by decide) v l.length (Bs l) hown a k.length c (Bs k)
      (by rw [Bs_length, Nat.mul_one]) hnews (Bs_one k) (by unfold maxLen; omega) (by omega) hbase
    obtain ⟨o, cap, rfl, _⟩ := own_slice h2
    refine ⟨o, cap, w', hr, fin _ _ _ h2, h3, h5, fun u m hu hle => ?_⟩
    by_cases hub : u.ownBlock = v.ownBlock
    · have hle := hle hub
      rcases hown.2 with ⟨rfl, hn0⟩ | ⟨g, cap0, cur, rfl, hbg, hg, hnc, hcm, hcs, ht⟩
      · refine own_block hu fun g hg => ?_
        rw [hub] at hg
        cases hg
      · by_cases hroom : l.length + k.length ≤ cap0
        · obtain ⟨w2, hr2, h6, h7⟩ := run_append_fits (P := Try.prog) w base 22 ty 5 i0 1 Try.underlying22 hi0 hz1 g l.length cap0 (Bs l) hown a k.length c (Bs k) (by rw [Bs_length, Nat.mul_one]) hnews (Bs_one k) hroom
          rw [hr] at hr2
          injection hr2 with hr2 hw2
          subst hw2
          rcases h6.2 with ⟨h8, _⟩ | ⟨g', cap', cur', h8, _, hg', hnc', _, hcs', ht'⟩
          · cases h8
          · injection h8 with h8 _ h9
            injection h8 with h8
            injection h8 with h8 _ _
            subst h8 h9
            rcases hu.2 with ⟨rfl, hu0⟩ | ⟨gu, capu, curu, rfl, hbu, hgu, hncu, hcmu, hcsu, htu⟩
            · exact ⟨hu.1, .inl ⟨rfl, hu0⟩⟩
            · have : gu = g := by simpa [Value.ownBlock] using hub
              subst this
              rw [hg] at hgu
              injection hgu with hgu
              injection hgu with hgu _ _
              subst hgu
              refine ⟨hu.1, .inr ⟨gu, capu, cur', rfl, hbu, hg', hncu, hcmu, by omega, ?_⟩⟩
              have e1 : cur'.toList.take (m.length * 1) = (cur'.toList.take ((l.length + k.length) * 1)).take (m.length * 1) := by rw [List.take_take]; congr 1; omega
              have e2 : cur.toList.take (m.length * 1) = (cur.toList.take (l.length * 1)).take (m.length * 1) := by rw [List.take_take]; congr 1; omega
              rw [e1, ht', List.take_append_of_le_length (by rw [Bs_length]; omega), ← ht, ← e2]
              exact htu
        · have hr2 := run_append_grow (P := Try.prog) w 22 ty 5 i0 _ Try.underlying22 hi0 hz0 ⟨g, 0, none⟩ l.length cap0 (Bs l) (by rw [Bs_length, hz1, Nat.mul_one]) (World.ownsRow.cells hown rfl) a k.length c (Bs k)
            (by rw [Bs_length, hz1, Nat.mul_one]) hnews (by omega) (by omega) (by rw [hz2]; exact growslice_fits (by omega) (by omega))
          rw [hr] at hr2
          injection hr2 with _ hw2
          subst hw2
          exact far _ (fun g hg => Below.heap_alloc _ _ _ hg) u m hu (by first | exact hle | exact fun _ => hle)
    · exact own_kept (S := fun j => v.ownBlock = some j) hu ⟨h3.os, h3.tape, h3.output, h3.size, fun j hj hs => h3.block j hj (fun e => hs e.symm)⟩ (fun j hj hs => hub (hj.trans hs.symm))

/-- A track: what is read, what is durable, whether it was written since. -/
structure Tk where
  now : List UInt8
  dur : List UInt8
  wr : Bool

/-- A drum. -/
structure Dr where
  n : Nat
  most : Nat
  tr : Nat → Tk
  off : Bool
  ops : Nat
  fuse : Nat

def upd {α : Type} (f : Nat → α) (i : Nat) (x : α) : Nat → α := fun j => if j = i then x else f j
theorem upd_same {α : Type} (f : Nat → α) (i : Nat) (x : α) : upd f i x i = x := by simp [upd]
theorem upd_other {α : Type} (f : Nat → α) {i j : Nat} (x : α) (h : j ≠ i) : upd f i x j = f j := by simp [upd, h]
theorem upd_id {α : Type} (f : Nat → α) (i : Nat) : upd f i (f i) = f := by
  funext j
  unfold upd
  split
  · next h => rw [h]
  · rfl

def Dr.set (d : Dr) (i : Nat) (t : Tk) : Dr := { d with tr := upd d.tr i t }

/-- The cells of the tracks' row. -/
def tc (vn vd : Nat → Value) (tr : Nat → Tk) : Nat → Value := fun j =>
  if j % 3 = 0 then vn (j / 3) else if j % 3 = 1 then vd (j / 3) else .bool (tr (j / 3)).wr

theorem tc_now (vn vd : Nat → Value) (tr : Nat → Tk) (i : Nat) : tc vn vd tr (i * 3) = vn i := by
  unfold tc; rw [if_pos (by omega)]; congr 1; omega
theorem tc_dur (vn vd : Nat → Value) (tr : Nat → Tk) (i : Nat) : tc vn vd tr (i * 3 + 1) = vd i := by
  unfold tc; rw [if_neg (by omega), if_pos (by omega)]; congr 1; omega
theorem tc_wr (vn vd : Nat → Value) (tr : Nat → Tk) (i : Nat) : tc vn vd tr (i * 3 + 2) = .bool (tr i).wr := by
  unfold tc; rw [if_neg (by omega), if_neg (by omega)]; congr 3; omega

/-- All three cells of track i set. -/
theorem tc_set (vn vd : Nat → Value) (tr : Nat → Tk) (i : Nat) (v u : Value) (t : Tk) (j : Nat) :
    tc (upd vn i v) (upd vd i u) (upd tr i t) j = if j = i * 3 then v else if j = i * 3 + 1 then u else if j = i * 3 + 2 then .bool t.wr else tc vn vd tr j := by
  by_cases h0 : j = i * 3
  · subst h0; rw [if_pos rfl, tc_now, upd_same]
  · rw [if_neg h0]
    by_cases h1 : j = i * 3 + 1
    · subst h1; rw [if_pos rfl, tc_dur, upd_same]
    · rw [if_neg h1]
      by_cases h2 : j = i * 3 + 2
      · subst h2; rw [if_pos rfl, tc_wr, upd_same]
      · rw [if_neg h2]
        have : j / 3 ≠ i := by omega
        unfold tc
        rw [upd_other _ _ this, upd_other _ _ this, upd_other _ _ this]

/-- A track in memory. -/
structure TAt (w : World) (vn vd : Value) (t : Tk) : Prop where
  now : Own w 0 vn t.now
  dur : Own w 0 vd t.dur
  pre : t.wr = false → t.dur <+: t.now
  sep : t.wr = true → ∀ g, vd.ownBlock = some g → vn.ownBlock ≠ some g

def TB (vn vd : Value) : Nat → Prop := fun g => vn.ownBlock = some g ∨ vd.ownBlock = some g

theorem TAt.block {w w' : World} {vn vd : Value} {t : Tk} (h : TAt w vn vd t) (hk : ∀ g, TB vn vd g → w'.heap[g]? = w.heap[g]?) : TAt w' vn vd t :=
  ⟨own_block h.now fun g hg => hk g (.inl hg), own_block h.dur fun g hg => hk g (.inr hg), h.pre, h.sep⟩

theorem TAt.lt {w : World} {vn vd : Value} {t : Tk} (h : TAt w vn vd t) : ∀ g, TB vn vd g → g < w.heap.size := fun g hg => by
  rcases hg with hg | hg
  · exact (h.now.lt g hg).2
  · exact (h.dur.lt g hg).2

theorem TAt.le {w : World} {vn vd : Value} {t : Tk} (h : TAt w vn vd t) (e : vd.ownBlock = vn.ownBlock) : t.dur.length ≤ t.now.length := by
  cases hw : t.wr with
  | false => exact (h.pre hw).length_le
  | true =>
    rcases h.dur.2 with ⟨_, h0⟩ | ⟨g, cap, cur, hv, _⟩
    · omega
    · exact absurd (by rw [← e, hv]; rfl) (h.sep hw g (by rw [hv]; rfl))

/-- A drum in memory: at D, its tracks' row at T, the values of its tracks; S: the blocks that are its own. -/
structure DAt (w : World) (S : Nat → Prop) (D T : Nat) (vn vd : Nat → Value) (d : Dr) : Prop where
  cell : w.heap[D]? = some (.cells #[.int .i64 (d.most : Int), .slice (some ⟨T, 0, none⟩) d.n d.n, .bool d.off, .int .i64 (d.ops : Int), .int .i64 (d.fuse : Int)] 64 (0, 0))
  row : w.rowIs T 67 (d.n * 3) (tc vn vd d.tr)
  tk : ∀ i, i < d.n → TAt w (vn i) (vd i) (d.tr i)
  mine : ∀ i, i < d.n → ∀ g, TB (vn i) (vd i) g → S g ∧ g ≠ D ∧ g ≠ T
  alone : ∀ i j, i < d.n → j < d.n → i ≠ j → ∀ g, TB (vn i) (vd i) g → ¬ TB (vn j) (vd j) g
  sD : S D
  sT : S T
  ne : D ≠ T
  lim : d.n ≤ 8 ∧ d.most ≤ 1048576 ∧ d.fuse ≤ 1048576
  fit : ∀ i, i < d.n → (d.tr i).now.length ≤ d.most ∧ (d.tr i).dur.length ≤ d.most

theorem DAt.lt {w : World} {S : Nat → Prop} {D T : Nat} {vn vd : Nat → Value} {d : Dr} (h : DAt w S D T vn vd d) : D < w.heap.size ∧ T < w.heap.size := ⟨lt_of_block h.cell, h.row.lt⟩

/-- A drum stays where its blocks are as they were. -/
theorem DAt.block {w w' : World} {S S' : Nat → Prop} {D T : Nat} {vn vd : Nat → Value} {d : Dr} (h : DAt w S D T vn vd d) (hk : ∀ g, S g → g < w.heap.size → w'.heap[g]? = w.heap[g]?) (hS : ∀ k, S k → S' k) : DAt w' S' D T vn vd d where
  cell := (hk D h.sD h.lt.1).trans h.cell
  row := h.row.of_block (hk T h.sT h.lt.2)
  tk i hi := (h.tk i hi).block fun g hg => hk g (h.mine i hi g hg).1 ((h.tk i hi).lt g hg)
  mine i hi g hg := ⟨hS g (h.mine i hi g hg).1, (h.mine i hi g hg).2⟩
  alone := h.alone
  sD := hS _ h.sD
  sT := hS _ h.sT
  ne := h.ne
  lim := h.lim
  fit := h.fit

/-- One track replaced. -/
theorem DAt.put {w w' : World} {S S' : Nat → Prop} {D T : Nat} {vn vd : Nat → Value} {d : Dr} {i : Nat} {v u : Value} {t : Tk} (h : DAt w S D T vn vd d) (hi : i < d.n)
    (hcell : w'.heap[D]? = w.heap[D]?) (hrow : w'.rowIs T 67 (d.n * 3) (tc (upd vn i v) (upd vd i u) (upd d.tr i t))) (htk : TAt w' v u t) (hfit : t.now.length ≤ d.most ∧ t.dur.length ≤ d.most)
    (hoth : ∀ j, j < d.n → j ≠ i → ∀ g, TB (vn j) (vd j) g → w'.heap[g]? = w.heap[g]?)
    (hmine : ∀ g, TB v u g → TB (vn i) (vd i) g ∨ (S' g ∧ w.heap.size ≤ g)) (hS : ∀ k, S k → S' k) : DAt w' S' D T (upd vn i v) (upd vd i u) (d.set i t) where
  cell := hcell.trans h.cell
  row := hrow
  tk j hj := by
    show TAt w' (upd vn i v j) (upd vd i u j) (upd d.tr i t j)
    by_cases e : j = i
    · subst e
      rw [upd_same, upd_same, upd_same]
      exact htk
    · rw [upd_other _ _ e, upd_other _ _ e, upd_other _ _ e]
      exact (h.tk j hj).block (hoth j hj e)
  mine j hj g hg := by
    have hlt := h.lt
    by_cases e : j = i
    · subst e
      rw [upd_same, upd_same] at hg
      rcases hmine g hg with h1 | ⟨h1, h2⟩
      · exact ⟨hS g (h.mine j hj g h1).1, (h.mine j hj g h1).2⟩
      · exact ⟨h1, by omega, by omega⟩
    · rw [upd_other _ _ e, upd_other _ _ e] at hg
      exact ⟨hS g (h.mine j hj g hg).1, (h.mine j hj g hg).2⟩
  alone j k hj hk hjk g hg := by
    have old : ∀ m, m < d.n → ∀ g, TB (vn m) (vd m) g → g < w.heap.size := fun m hm g hg => (h.tk m hm).lt g hg
    by_cases e : j = i
    · subst e
      rw [upd_same, upd_same] at hg
      rw [upd_other _ _ (Ne.symm hjk), upd_other _ _ (Ne.symm hjk)]
      rcases hmine g hg with h1 | ⟨_, h2⟩
      · exact h.alone j k hj hk hjk g h1
      · exact fun h3 => by have := old k hk g h3; omega
    · rw [upd_other _ _ e, upd_other _ _ e] at hg
      by_cases e2 : k = i
      · subst e2
        rw [upd_same, upd_same]
        intro h3
        rcases hmine g h3 with h1 | ⟨_, h2⟩
        · exact h.alone j k hj hk hjk g hg h1
        · have := old j hj g hg; omega
      · rw [upd_other _ _ e2, upd_other _ _ e2]
        exact h.alone j k hj hk hjk g hg
  sD := hS _ h.sD
  sT := hS _ h.sT
  ne := h.ne
  lim := h.lim
  fit j hj := by
    show (upd d.tr i t j).now.length ≤ d.most ∧ (upd d.tr i t j).dur.length ≤ d.most
    by_cases e : j = i
    · subst e; rw [upd_same]; exact hfit
    · rw [upd_other _ _ e]; exact h.fit j hj

end Go.Proofs.Ytdckcjcddibglaa
