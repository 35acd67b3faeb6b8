/- Load. -/
import Derived.Test.YtmljelcmjagjjaaHeaUc
namespace Go.Proofs.Ytmljelcmjagjjaa
open Go.RowKit HeaM

/-- What Load leaves: a heap of these words, all of it new. -/
def LoadPost (w w' : World) (q : Nat) (W : List Nat) (F : List Bool) (e : Ending) : Prop :=
  ∃ d u1 u2, e = .returned (.tuple #[.pointer (some ⟨d, 0, none⟩), .int .i64 0]) ∧ HAt w' d w.heap.size q 0 u1 u2 W F ∧ Below w.heap.size w w' ∧ ∀ k, three d u1 u2 k → w.heap.size ≤ k

theorem madeF (n : Nat) (hn : n ≤ 1000000000) (W : World) : (Instr.makeSlice 78 (.int .i64 (n : Int)) (.int .i64 (n : Int))).run Try.prog W = .ok (.slice (some ⟨W.heap.size, 0, none⟩) n n) (W.alloc (.cells (Fs (List.replicate n false)).toArray 4)) := by
  obtain ⟨i0, hi0, hz0, hz1, hz2⟩ := info_parts boolInfo
  have h := run_make (P := Try.prog) W 78 4 i0 _ Try.underlying78 hi0 hz0 .i64 .i64 (n : Int) (n : Int) (by omega) (by omega) (by rw [hz2]; omega) (by omega)
  rw [h]
  have e : madeCells (Value.bool false).cells (n * i0.size) = (Fs (List.replicate n false)).toArray := by
    apply Array.ext'
    rw [hz1, Nat.mul_one]
    show (madeCells #[Value.bool false] n).toList = _
    rw [toList_madeCells_one]
    simp [Fs]
  simp only [Int.toNat_natCast, e]

theorem balloc {w w1 : World} (h : Below w.heap.size w w1) (o : Obj) : Below w.heap.size w (w1.alloc o) := h.alloc h.size o
theorem bset {w w1 : World} (h : Below w.heap.size w w1) {p : Addr} (hp : w.heap.size ≤ p.block) (u : Value) : Below w.heap.size w (w1.setCell p u) := h.setCell hp u

theorem load_end {w w3 w4 : World} {q base g2 n : Nat} {u1 : Value} {W : List Nat} {CF : Array Value} (ho : OwnW w3 base u1 W) (hb : w.heap.size < base) (h4 : w4.heap[w.heap.size]? = some (.cells #[.int .i64 (q : Int), .int .i64 0, u1, .slice (some ⟨g2, 0, none⟩) n n] 80 (0, 0))) (hk : Kept (fun k => k = w.heap.size) w3 w4)
    (hcf : w4.heap[g2]? = some (.cells CF 4 (0, 0))) (hC : CF.toList = Fs (List.replicate n false)) (hg : w.heap.size ≤ g2) (hn : n ≤ 1000000000) (hbl : Below w.heap.size w w3) : ∃ v1 v2, HAt w4 w.heap.size w.heap.size q 0 v1 v2 W (List.replicate n false) ∧ Below w.heap.size w w4 ∧ ∀ k, three w.heap.size v1 v2 k → w.heap.size ≤ k := by
  have hsz : CF.size = n := by rw [← Array.length_toList, hC, Fs_length, List.length_replicate]
  refine ⟨u1, _, ⟨h4, own_base (own_kept ho hk fun k hk hs => by have := (ho.lt k hk).1; omega) (by omega), ?_⟩, hbl.trans (hk.below hbl.size fun k hk => by omega), ?_⟩
  · unfold OwnF
    rw [List.length_replicate]
    exact ⟨by simp [Fs], .inr ⟨g2, n, CF, rfl, hg, hcf, Nat.le_refl _, by unfold maxLen; omega, by omega, by rw [hC, Nat.mul_one, List.take_of_length_le (by simp [Fs])]⟩⟩
  · intro k hk
    rcases hk with rfl | hk | hk
    · exact Nat.le_refl _
    · have := (ho.lt k hk).1; omega
    · simp only [Value.ownBlock, Option.some.injEq] at hk; omega
theorem load_endA {w w3 : World} {q base n : Nat} {u1 : Value} {W : List Nat} {CF : Array Value} (ho : OwnW w3 base u1 W) (hb : w.heap.size < base) (h3 : w3.heap[w.heap.size]? = some (.cells #[.int .i64 (q : Int), .int .i64 0, .slice none 0 0, .slice none 0 0] 80 (0, 0)))
    (hC : CF.toList = Fs (List.replicate n false)) (hn : n ≤ 1000000000) (hbl : Below w.heap.size w w3) : ∃ v1 v2, HAt (((w3.setCell ⟨w.heap.size, 2, none⟩ u1).setCell ⟨w.heap.size, 3, none⟩ (.slice (some ⟨w3.heap.size, 0, none⟩) n n)).alloc (.cells CF 4)) w.heap.size w.heap.size q 0 v1 v2 W (List.replicate n false) ∧ Below w.heap.size w (((w3.setCell ⟨w.heap.size, 2, none⟩ u1).setCell ⟨w.heap.size, 3, none⟩ (.slice (some ⟨w3.heap.size, 0, none⟩) n n)).alloc (.cells CF 4)) ∧ ∀ k, three w.heap.size v1 v2 k → w.heap.size ≤ k := by
  have hs := hbl.size
  have hl := lt_of_block h3
  have e1 := setCell_three (u := .slice (some ⟨w3.heap.size, 0, none⟩) n n) (setCell_two (u := u1) h3)
  have e2 := heap_alloc_new ((w3.setCell ⟨w.heap.size, 2, none⟩ u1).setCell ⟨w.heap.size, 3, none⟩ (.slice (some ⟨w3.heap.size, 0, none⟩) n n)) (.cells CF 4)
  have e3 : ((w3.setCell ⟨w.heap.size, 2, none⟩ u1).setCell ⟨w.heap.size, 3, none⟩ (.slice (some ⟨w3.heap.size, 0, none⟩) n n)).heap.size = w3.heap.size := by simp
  rw [e3] at e2
  exact load_end ho hb ((Below.heap_alloc _ _ _ (by rw [e3]; exact hl)).trans e1) (Kept.alloc (Kept.setCell (S := fun k => k = w.heap.size) (p := ⟨w.heap.size, 3, none⟩) (Kept.setCell (S := fun k => k = w.heap.size) (p := ⟨w.heap.size, 2, none⟩) (Kept.refl _ _) (.inl rfl) _) (.inl rfl) _) _) e2 hC hs hn hbl
theorem load_endB {w w3 : World} {q base n : Nat} {u1 : Value} {W : List Nat} {CF : Array Value} (ho : OwnW w3 base u1 W) (hb : w.heap.size < base) (h3 : w3.heap[w.heap.size]? = some (.cells #[.int .i64 (q : Int), .int .i64 0, .slice none 0 0, .slice none 0 0] 80 (0, 0))) (hcf : w3.heap[w.heap.size + 1]? = some (.cells CF 4 (0, 0)))
    (hC : CF.toList = Fs (List.replicate n false)) (hn : n ≤ 1000000000) (hbl : Below w.heap.size w w3) : ∃ v1 v2, HAt ((w3.setCell ⟨w.heap.size, 2, none⟩ u1).setCell ⟨w.heap.size, 3, none⟩ (.slice (some ⟨w.heap.size + 1, 0, none⟩) n n)) w.heap.size w.heap.size q 0 v1 v2 W (List.replicate n false) ∧ Below w.heap.size w ((w3.setCell ⟨w.heap.size, 2, none⟩ u1).setCell ⟨w.heap.size, 3, none⟩ (.slice (some ⟨w.heap.size + 1, 0, none⟩) n n)) ∧ ∀ k, three w.heap.size v1 v2 k → w.heap.size ≤ k := by
  have e1 := setCell_three (u := .slice (some ⟨w.heap.size + 1, 0, none⟩) n n) (setCell_two (u := u1) h3)
  refine load_end ho hb e1 (Kept.setCell (S := fun k => k = w.heap.size) (p := ⟨w.heap.size, 3, none⟩) (Kept.setCell (S := fun k => k = w.heap.size) (p := ⟨w.heap.size, 2, none⟩) (Kept.refl _ _) (.inl rfl) _) (.inl rfl) _) ?_ hC (by omega) hn hbl
  rw [heap_setCell_other _ _ _ _ (by simp), heap_setCell_other _ _ _ _ (by simp)]
  exact hcf

set_option maxHeartbeats 4000000 in
set_option maxRecDepth 100000 in
theorem load_t (q : Nat) (v : Value) (W : List Nat) (F : List Bool) (w : World) (h : RdW w v W) (hR : Right W F) (h1 : 1 ≤ q) (h2 : q ≤ 1048576) (hW : W.length ≤ q) :
    Calls Try.prog 33 #[.int .i64 (q : Int), v] w fun e w' => LoadPost w w' q W F e := by
  obtain ⟨o, cap, hv, hcap, hmax⟩ := h.slice
  rw [Ws_length] at hv hcap
  have HR := Lib.hid hR
  have hq' : (q : Int) ≤ 1048576 := by omega
  have hW' : ¬ (q : Int) < (W.length : Int) := by omega
  have hWn : (W.length : Int) ≤ 1048576 := by omega
  have hcl : ∀ W1 x2 x3, Below w.heap.size w W1 → W1.heap[w.heap.size]? = some (.cells #[.int .i64 (q : Int), .int .i64 0, x2, x3] 80 (0, 0)) → Calls Try.prog 43 #[v] W1 fun e w' => ∃ v', e = .returned v' ∧ OwnW w' W1.heap.size v' W ∧ Below w.heap.size w w' ∧ Below W1.heap.size W1 w' ∧ w'.heap[w.heap.size]? = some (.cells #[.int .i64 (q : Int), .int .i64 0, x2, x3] 80 (0, 0)) ∧ w'.cell? ⟨w.heap.size, 2, none⟩ = some x2 ∧ w'.cell? ⟨w.heap.size, 3, none⟩ = some x3 ∧ w'.frozen? ⟨w.heap.size, 2, none⟩ = false ∧ w'.frozen? ⟨w.heap.size, 3, none⟩ = false ∧ w.heap.size < w'.heap.size := by
    intro W1 x2 x3 hb hn
    refine (cloneW v (Ws W) W1 (h.below hb) (Ws_one W) (by rw [Ws_length]; omega)).mono ?_
    rintro e w' ⟨v', rfl, ho, hb'⟩
    rw [Ws_length] at ho
    have hn' := (hb'.block _ (lt_of_block hn)).trans hn
    exact ⟨v', rfl, ho, hb.trans (hb'.mono hb.size), hb', hn', (cell_of_row _ _ 2 _ _ (0, 0) hn').trans rfl, (cell_of_row _ _ 3 _ _ (0, 0) hn').trans rfl, frozen_of_row _ _ 2 _ _ hn', frozen_of_row _ _ 3 _ _ hn', lt_of_block hn'⟩
  have HCL := Lib.hid hcl
  have mk := madeF W.length (by omega)
  clear hcl h hR
  unfold maxLen at hmax
  subst hv
  have sz : (Fs (List.replicate W.length false)).toArray.size = W.length := by simp [Fs]
  have SZ := Lib.hid (show (Fs (List.replicate W.length false)).toArray.toList = Fs (List.replicate W.length false) by simp)
  generalize (Fs (List.replicate W.length false)).toArray = CF at *
  have SZ2 := Lib.hid sz
  clear sz
  go_enter Try.func33, Try.ntmps33
  go_wp2_with fail
  refine (new_ok q _ h1 h2).mono ?_
  rintro e w' ⟨rfl, rfl⟩
  go_upto_region 6 with (fail)
  go_cut [6] (fun p wx => p = .pointer (some ⟨w.heap.size, 0, none⟩) ∧ Hid (∃ u1 u2, HAt wx w.heap.size w.heap.size q 0 u1 u2 W (List.replicate W.length false) ∧ Below w.heap.size w wx ∧ ∀ k, three w.heap.size u1 u2 k → w.heap.size ≤ k))
  case first =>
    have hnew := heap_alloc_new w (emptyHeap q)
    have d2 : (w.alloc (emptyHeap q)).cell? ⟨w.heap.size, 2, none⟩ = some (.slice none 0 0) := (cell_of_row _ _ 2 _ _ (0, 0) hnew).trans rfl
    have d3 : (w.alloc (emptyHeap q)).cell? ⟨w.heap.size, 3, none⟩ = some (.slice none 0 0) := (cell_of_row _ _ 3 _ _ (0, 0) hnew).trans rfl
    go_region_with ((go_at_call 43; refine (HCL.out _ _ _ (by repeat (first | exact Below.refl _ _ | apply Below.drew | apply balloc | (refine bset ?_ (Nat.le_refl _) _))) (by first | exact hnew | exact (Below.heap_alloc _ _ _ (by simp)).trans hnew | exact setCell_three ((Below.heap_alloc _ _ _ (by simp)).trans hnew))).mono ?_; rintro e w3 ⟨u1, rfl, ho3, hbw3, hb3, hn3, z2, z3, y2, y3, hl3⟩; obtain ⟨so, sk, rfl, -⟩ := own_slice ho3; have HO3 := Lib.hid ho3; have HB3 := Lib.hid hb3; have HBW3 := Lib.hid hbw3; have HN3 := Lib.hid hn3; clear ho3 hb3 hbw3 hn3))
    all_goals
      go_wp2_with fail
      go_meet
      refine ⟨rfl, ?_⟩
      first
        | exact load_endA HO3.out (by simp) HN3.out SZ.out (by omega) HBW3.out
        | exact load_endB HO3.out (by simp; omega) HN3.out ((HB3.out.block _ (by simp)).trans (by have := heap_alloc_new (w.alloc (emptyHeap q)) (.cells CF 4); rw [show (w.alloc (emptyHeap q)).heap.size = w.heap.size + 1 by simp] at this; exact this)) SZ.out (by omega) HBW3.out
  case rest =>
    obtain ⟨rfl, HC⟩ := hcut
    obtain ⟨u1, u2, hH, hB, hN⟩ := HC.out
    obtain ⟨l, hl, hWl, hFl⟩ := HR.out.segs
    have hsd := HR.out.sound
    rw [hWl, hFl] at hsd
    have hF := Lib.hid (find_t w.heap.size w.heap.size q 0 u1 u2 l wc (by rw [← hWl]; exact hH) hl (by rw [← hWl]; omega))
    have HL := Lib.hid hl
    have HWL := Lib.hid hWl
    have HFL := Lib.hid hFl
    have HSD := Lib.hid hsd
    have HB := Lib.hid hB
    have HN := Lib.hid hN
    have HH := Lib.hid hH
    clear hl hWl hFl hsd hB hN hH HCL
    go_wp2_with fail
    refine hF.out.mono ?_
    rintro e w4 ⟨rfl, hH4, hk4⟩
    have hS := Lib.hid (sound_t w.heap.size w.heap.size q 0 u1 u2 l w4 hH4 HL.out (by rw [← HWL.out]; omega) HSD.out)
    have HH4 := Lib.hid hH4
    have HK4 := Lib.hid hk4
    clear hH4 hk4
    go_wp2_with fail
    refine hS.out.mono ?_
    rintro e w5 ⟨rfl, n5, rfl⟩
    have hfin : LoadPost w (w4.drewN n5) q W F (.returned (.tuple #[.pointer (some ⟨w.heap.size, 0, none⟩), .int .i64 0])) := by
      refine ⟨_, u1, u2, rfl, by rw [HWL.out, HFL.out]; exact HH4.out.drewN n5, ?_, HN.out⟩
      exact (HB.out.trans (HK4.out.below HB.out.size fun k hk => HN.out k (.inr (.inr hk)))).trans ((below_drewN _ n5 w4))
    have FIN := Lib.hid hfin
    clear hfin
    go_wp2_with fail
    go_ret2
    exact FIN.out
end Go.Proofs.Ytmljelcmjagjjaa
