/- The law's small. -/
import Derived.Test.YtjmfgpklemhomabTurE
import Derived.Deep.RegionLaw
namespace Go.Proofs.Ytjmfgpklemhomab
open Go.RowKit TurF TurP

/-- Moves as values. -/
def CsM : List Mv → List Value
  | [] => []
  | p :: ps => .bool p.1 :: .int .i64 p.2 :: CsM ps
theorem CsM_length (ps : List Mv) : (CsM ps).length = ps.length * 2 := by
  induction ps with
  | nil => rfl
  | cons p ps ih => simp only [CsM, List.length_cons, ih]; omega
theorem CsM_append (a b : List Mv) : CsM (a ++ b) = CsM a ++ CsM b := by
  induction a with
  | nil => rfl
  | cons p ps ih => simp only [List.cons_append, CsM, ih]
theorem CsM_one (ps : List Mv) : ∀ u ∈ CsM ps, u.oneCell' = true := by
  induction ps with
  | nil => simp [CsM]
  | cons p ps ih =>
    intro u hu
    simp only [CsM, List.mem_cons] at hu
    rcases hu with rfl | rfl | hu
    · rfl
    · rfl
    · exact ih u hu
theorem CsM_get (ps : List Mv) : ∀ j p, ps[j]? = some p → (CsM ps)[j * 2]? = some (.bool p.1) ∧ (CsM ps)[j * 2 + 1]? = some (.int .i64 p.2) := by
  induction ps with
  | nil => intro j p h; simp at h
  | cons q ps ih =>
    intro j p h
    cases j with
    | zero => simp at h; subst h; exact ⟨rfl, rfl⟩
    | succ j =>
      have := ih j p (by simpa using h)
      rw [show (j + 1) * 2 = j * 2 + 1 + 1 by omega]
      simp only [CsM, List.getElem?_cons_succ]
      exact this
theorem CsM_at (ps : List Mv) : ∀ j u, (CsM ps)[j]? = some u → ∃ p, ps[j / 2]? = some p ∧ ((j % 2 = 0 ∧ u = .bool p.1) ∨ (j % 2 = 1 ∧ u = .int .i64 p.2)) := by
  intro j u h
  have hl : j < ps.length * 2 := by have := (List.getElem?_eq_some_iff.1 h).1; rw [CsM_length] at this; exact this
  have hp : ps[j / 2]? = some ps[j / 2] := List.getElem?_eq_getElem (by omega)
  obtain ⟨h1, h2⟩ := CsM_get ps _ _ hp
  refine ⟨_, hp, ?_⟩
  rcases Nat.mod_two_eq_zero_or_one j with h0 | h0
  · left
    rw [show j / 2 * 2 = j by omega, h] at h1
    exact ⟨h0, by simpa using h1⟩
  · right
    rw [show j / 2 * 2 + 1 = j by omega, h] at h2
    exact ⟨h0, by simpa using h2⟩

theorem moveInfo : (Try.prog.info? 43).map (fun i => (i.zero, i.size, i.bytes)) = some (some (.agg #[.bool false, .int .i64 0]), 2, 16) := by kernel_rfl

/-- A slice of moves of the call's own. -/
def OwnM (w : World) (base : Nat) (v : Value) (ps : List Mv) : Prop := w.ownsRow base 43 2 v ps.length (CsM ps)

theorem add_none (b o j : Nat) : (⟨b, o, none⟩ : Addr).add j = ⟨b, o + j, none⟩ := by
  unfold Addr.add; split <;> simp_all

theorem OwnM.rd {w : World} {base : Nat} {v : Value} {ps : List Mv} (h : OwnM w base v ps) : RdM w v ps := by
  have hc := h
  rcases h.2 with ⟨rfl, hn⟩ | ⟨g, cap, cur, rfl, hb, hg, hn, hm, _⟩
  · exact .inl ⟨_, _, fun _ => rfl, rfl, List.eq_nil_of_length_eq_zero hn⟩
  · rcases ps with _ | ⟨p, ps⟩
    · exact .inl ⟨_, _, (by simp), rfl, rfl⟩
    · refine .inr ⟨g, 0, cap, rfl, by simp, hn, hm, fun j m hj => ?_⟩
      obtain ⟨h1, h2⟩ := CsM_get _ j m hj
      have c1 := World.ownsRow.cells hc (g := g) rfl _ _ h1
      have c2 := World.ownsRow.cells hc (g := g) rfl _ _ h2
      rw [add_none] at c1 c2
      exact ⟨c1, c2⟩

/-- Of moves the first 200, made small. -/
def less (m : Mv) : Mv := (m.1, m.2.tmod 1000)
def small (l : List Mv) : List Mv := (l.take 200).map less

theorem small_take (l : List Mv) (k : Nat) (h : k < l.length) (h2 : k < 200) : small (l.take (k + 1)) = small (l.take k) ++ [less l[k]] := by
  unfold small
  rw [List.take_take, List.take_take, Nat.min_eq_right (by omega), Nat.min_eq_right (by omega), List.take_succ_eq_append_getElem h, List.map_append]
  rfl
theorem small_all (l : List Mv) (k : Nat) (h : l.length ≤ k ∨ 200 ≤ k) : small (l.take k) = small l := by
  unfold small
  rw [List.take_take]
  rcases h with h | h
  · rcases Nat.le_total 200 k with h2 | h2
    · rw [Nat.min_eq_left h2]
    · rw [Nat.min_eq_right h2, List.take_of_length_le h, List.take_of_length_le (by omega)]
  · rw [Nat.min_eq_left h]
theorem small_len (l : List Mv) : (small l).length ≤ 200 := by unfold small; rw [List.length_map, List.length_take]; omega
theorem tmod1000 (n : Int) : -999 ≤ n.tmod 1000 ∧ n.tmod 1000 ≤ 999 := by
  have h1 := Int.tmod_lt_of_pos n (show (0 : Int) < 1000 by decide)
  have h2 := Int.lt_tmod_of_pos n (show (0 : Int) < 1000 by decide)
  omega
theorem small_within (l : List Mv) : ∀ m ∈ small l, -999 ≤ m.2 ∧ m.2 ≤ 999 := by
  intro m hm
  unfold small at hm
  obtain ⟨x, _, rfl⟩ := List.mem_map.1 hm
  exact tmod1000 x.2

theorem cell_two_new (w : World) (x y : Value) (t : TypeId) : ∀ j u, [x, y][j]? = some u → ((w.alloc (.cells #[x, y] t)).drew).cell? ((⟨w.heap.size, 0, none⟩ : Addr).add j) = some u := by
  intro j u hj
  exact World.news_of_block (w := (w.alloc (.cells #[x, y] t)).drew) (heap_alloc_new w _) j u (by simpa using hj)

/-- What small leaves. -/
def Smalled (w : World) (l : List Mv) (e : Ending) (w' : World) : Prop := ∃ v, e = .returned v ∧ OwnM w' w.heap.size v (small l) ∧ Below w.heap.size w w'

set_option maxHeartbeats 2000000 in
set_option maxRecDepth 100000 in
theorem small_row (b off c : Nat) (l : List Mv) (w : World) (h0 : 0 < l.length) (_ : l.length ≤ c) (_ : c ≤ maxLen) (hc : CellsM w b off l) :
    Calls Try.prog 16 #[.slice (some ⟨b, off, none⟩) l.length c] w (Smalled w l) := by
  obtain ⟨i0, hi0, hz0, hz1, hz2⟩ := info_parts moveInfo
  have Hc := Lib.hid hc
  clear hc
  have start : OwnM w w.heap.size (.slice none 0 0) (small (l.take 0)) := World.ownsRow_nil _ _ _ _
  have ST := Lib.hid start
  clear start
  go_enter Try.func16, Try.ntmps16
  go_wp2
  go_loopw [3, 4] (fun v i wr => ∃ (k : Nat) (V : Value), k ≤ l.length ∧ k ≤ 200 ∧ i = .int .i64 k ∧ V = v ∧ OwnM wr w.heap.size V (small (l.take k)) ∧ Below w.heap.size w wr) (fun _ i _ => l.length - (intOf i).toNat)
  case atStart => exact ⟨0, _, by omega, by omega, rfl, rfl, ST.out, Below.refl _ _⟩
  case round =>
    clear ST
    obtain ⟨k, v, hk, hk2, rfl, rfl, hown, hb⟩ := hrel
    have hsz := hb.size
    by_cases hlt : k < l.length
    · by_cases hlt2 : k < 200
      · obtain ⟨c1, c2⟩ := (CellsM.below Hc.out hb (Nat.le_refl _)) k l[k] (by simp [hlt])
        have HS := Lib.hid (small_take l k hlt hlt2)
        have hsl := small_len (l.take k)
        generalize small (l.take k) = ms at *
        generalize l[k] = m at *
        obtain ⟨t, n⟩ := m
        dsimp only at c1 c2
        have hd : decide ((k : Int) < 200) = true := by simp; omega
        have HB := Lib.hid hb
        clear hb
        go_wp2_with fail
        go_region_law (
          (refine step_append_lies _ (by rfl) _ _ _ (by rfl) w.heap.size 43 i0 _ 2 16 Try.underlying22 hi0 hz0 hz1 hz2 rfl (by omega) v ms.length (CsM ms) (by rfl) ((World.ownsRow.alloc hown _).drew) ⟨wr.heap.size, 0, none⟩ 1 1 [.bool t, .int .i64 (n.tmod 1000)] (by rfl) (by rfl) (cell_two_new wr _ _ _) (by simp [Value.oneCell']) (by omega) (by unfold maxLen; omega) (by omega) (by simp; omega) (wr.heap.size + 1) (by simp) ?_
           intro g2 cap2 w2 hown2 hgrow _ _))
        all_goals
          have fin : OwnM w2 w.heap.size (.slice (some ⟨g2, 0, none⟩) (ms.length + 1) cap2) (small (l.take (k + 1))) ∧ Below w.heap.size w w2 := by
            refine ⟨?_, ((HB.out.alloc hsz _).drew).grown hgrow (by simp; omega) (fun k hk => (hown.lt k hk).1)⟩
            unfold OwnM
            rw [HS.out, List.length_append, CsM_append]
            exact hown2
          have FIN := Lib.hid fin
          clear fin hown2 hgrow hown
          go_wp2
          go_roundw
          case rel => exact ⟨k + 1, _, by omega, by omega, by go_num, rfl, FIN.out.1, FIN.out.2⟩
          case measure => simp [intOf]; omega
      · have hd : decide ((k : Int) < 200) = false := by simp; omega
        have e := small_all l k (.inr (by omega))
        rw [e] at hown
        have HF := Lib.hid (show Smalled w l (.returned v) wr from ⟨v, rfl, hown, hb⟩)
        clear hown hb e
        go_wp2
        go_ret
        exact HF.out
    · have e := small_all l k (.inl (by omega))
      rw [e] at hown
      have HF := Lib.hid (show Smalled w l (.returned v) wr from ⟨v, rfl, hown, hb⟩)
      clear hown hb e
      go_wp2
      go_ret
      exact HF.out

set_option maxRecDepth 100000 in
theorem small_none (o : Option Addr) (c : Nat) (w : World) :
    Calls Try.prog 16 #[.slice o 0 c] w (Smalled w []) := by
  have HF := Lib.hid (show Smalled w [] (.returned (.slice none 0 0)) w from ⟨_, rfl, World.ownsRow_nil _ _ _ _, Below.refl _ _⟩)
  go_enter Try.func16, Try.ntmps16
  go_wp2
  go_loop [3, 4] (fun v i => i = .int .i64 0 ∧ v = .slice none 0 0) (fun _ _ => 0)
  case atStart => exact ⟨rfl, rfl⟩
  case round =>
    obtain ⟨rfl, rfl⟩ := hrel
    go_wp2
    go_ret
    exact HF.out

theorem small_any (v : Value) (l : List Mv) (w : World) (h : RdM w v l) :
    Calls Try.prog 16 #[v] w (Smalled w l) := by
  rcases h with ⟨o, c, -, rfl, rfl⟩ | ⟨b, off, c, rfl, h2, h3, h4, h5⟩
  · exact small_none o c w
  · exact small_row b off c l w h2 h3 h4 h5
end Go.Proofs.Ytjmfgpklemhomab
