/- The law of turns: four quarters are none, and turns add up. -/
import Derived.Test.YtjmfgpklemhomabTurL
import Derived.Test.YtjmfgpklemhomabTurQ
namespace Go.Proofs.Ytjmfgpklemhomab
open Go.RowKit TurF TurP

theorem own_apart {w w' : World} {base : Nat} {e : TypeId} {size : Nat} {v : Value} {n : Nat} {xs : List Value} {row : Option Nat} (h : w.ownsRow base e size v n xs) (hg : w.grownBy w' row) (hr : ∀ k, row = some k → k < base) : w'.ownsRow base e size v n xs := by
  refine h.kept hg ?_
  cases hv : v.ownBlock with
  | none => exact .inl rfl
  | some g =>
    right
    intro he
    have h1 := (h.lt g hv).1
    have h2 := hr g he.symm
    omega

theorem small_ok (l : List Mv) (k : List Mv) (hk : k.length ≤ 800) (hf : k.any far = false) : ¬ 1000 < (small l ++ k).length ∧ (small l ++ k).any far = false := by
  have := small_len l
  refine ⟨by rw [List.length_append]; omega, ?_⟩
  rw [List.any_append, far_small (small_within l), hf]
  rfl

theorem path_le (l : List Mv) : (run l).path.length ≤ 1 + l.length := path_len l s0

theorem path_pos (l : List Mv) : 0 < (run l).path.length := by
  obtain ⟨pre, h⟩ := last_runs l s0 ⟨[], rfl⟩
  unfold run
  rw [h]
  simp

/-- Places read at their index, in whatever world has the cells. -/
theorem place_at {w w' : World} {g i : Nat} {ps : List Pt} (h : Hid (∀ j p, ps[j]? = some p → w.cell? ⟨g, j * 2, none⟩ = some (.int .i64 p.1) ∧ w.cell? ⟨g, j * 2 + 1, none⟩ = some (.int .i64 p.2))) (hs : Hid (∀ p, w'.cell? p = w.cell? p)) (hi : i < ps.length) :
    w'.cell? ⟨g, i * 2, none⟩ = some (.int .i64 ps[i].1) ∧ w'.cell? ⟨g, i * 2 + 1, none⟩ = some (.int .i64 ps[i].2) := by
  have := h.out i ps[i] (by simp [hi])
  rw [hs.out, hs.out]
  exact this

set_option maxHeartbeats 4000000 in
set_option maxRecDepth 100000 in
theorem turns_walk (v : Value) (l : List Mv) (n k : Int) (w : World) (h : RdM w v l) (_ : -9223372036854775808 ≤ n) (_ : n ≤ 9223372036854775807) (_ : -9223372036854775808 ≤ k) (_ : k ≤ 9223372036854775807) :
    Calls Try.prog 6 #[v, .int .i64 n, .int .i64 k] w fun e w' => e = .returned (.bool true) ∧ Below w.heap.size w w' := by
  obtain ⟨t0, t1, t2, _⟩ := tmod4 n
  obtain ⟨u0, u1, u2, _⟩ := tmod4 k
  have hmod : (n.tmod 4 + k.tmod 4) % 4 = (n + k) % 4 := by omega
  have HM := Lib.hid hmod
  clear hmod t2 u2
  have HR0 := Lib.hid h
  clear h
  go_enter Try.func6, Try.ntmps6
  go_wp2_with fail
  refine (awake w).mono ?_
  rintro e w1 ⟨rfl, hb1⟩
  have hr1 := HR0.out.below hb1 (Nat.le_refl _)
  have HR1 := Lib.hid hr1
  have HB1 := Lib.hid hb1
  clear hr1 hb1
  go_wp2_with fail
  refine (small_any v l w1 HR1.out).mono ?_
  rintro e w2 ⟨m, rfl, hm2, hb2⟩
  have HR2 := Lib.hid (HR1.out.below hb2 (Nat.le_refl _))
  have HM2 := Lib.hid hm2
  have HB2 := Lib.hid hb2
  clear hm2 hb2
  go_wp2_with fail
  refine (small_any v l w2 HR2.out).mono ?_
  rintro e w3 ⟨a0, rfl, ha3, hb3⟩
  have hsl := small_len l
  obtain ⟨va, w5, hra, ha5, hga⟩ := append_rdM (s := .slice (some ⟨w3.heap.size, 0, none⟩) 3 3) (k := [(true, n), (true, k), (false, 5)]) (ha3.alloc (.cells #[.bool true, .int .i64 n, .bool true, .int .i64 k, .bool false, .int .i64 5] 43)) (RdM.of_block (ms := [(true, n), (true, k), (false, 5)]) (heap_alloc_new w3 _) rfl (by simp)) (by simp; omega) (by have := hb3.size; simp; omega) 22
  have hb5 : Below w2.heap.size w2 w5 := (hb3.alloc hb3.size _).grown hga (by have := hb3.size; simp; omega) (fun k hk => (ha3.lt k hk).1)
  have hm5 : OwnM w5 w1.heap.size m (small l) := HM2.out.below hb5 (Nat.le_refl _)
  obtain ⟨vb, w6, hrb, hb6, hgb⟩ := append_rdM (s := .slice (some ⟨w5.heap.size, 0, none⟩) 2 2) (k := [(true, n.tmod 4 + k.tmod 4), (false, 5)]) (hm5.alloc (.cells #[.bool true, .int .i64 (n.tmod 4 + k.tmod 4), .bool false, .int .i64 5] 43)) (RdM.of_block (ms := [(true, n.tmod 4 + k.tmod 4), (false, 5)]) (heap_alloc_new w5 _) rfl (by simp)) (by simp; omega) (by have := HB2.out.size; have := hb5.size; simp; omega) 22
  have ha6 : OwnM w6 w2.heap.size va (small l ++ [(true, n), (true, k), (false, 5)]) := own_apart (ha5.alloc _) hgb (fun k hk => (HM2.out.lt k hk).2)
  have hsz2 := HB2.out.size
  have hb6' : Below w1.heap.size w1 w6 := (((HB2.out.trans (hb5.mono hsz2)).alloc (by have := hb5.size; omega) _)).grown hgb (by have := hb5.size; simp; omega) (fun k hk => (hm5.lt k hk).1)
  have hb6w : Below w.heap.size w w6 := HB1.out.trans (hb6'.mono HB1.out.size)
  obtain ⟨la1, la2⟩ := small_ok l [(true, n), (true, k), (false, 5)] (by simp) rfl
  obtain ⟨lb1, lb2⟩ := small_ok l [(true, n.tmod 4 + k.tmod 4), (false, 5)] (by simp) rfl
  have HPA := Lib.hid (path_good va _ w6 ha6.rd la1 la2)
  have HRB := Lib.hid hrb
  have HRA := Lib.hid hra
  have HRDB := Lib.hid hb6.rd
  have HB6 := Lib.hid hb6w
  have LB1 := Lib.hid lb1
  have LB2 := Lib.hid lb2
  have hle := path_le (small l ++ [(true, n), (true, k), (false, 5)])
  rw [List.length_append] at hle
  simp only [List.length_cons, List.length_nil] at hle
  have HE := Lib.hid (turns_path (small l) n k _ HM.out)
  have hs6 := hb6w.size
  clear hra hga ha3 hb3 hrb hgb ha5 ha6 hb5 hb6 hb6' hb6w hm5 la1 la2 lb1 lb2
  go_wp2_with (at_builtin; first | refine wpList_append_known rfl (.tmp 20) (.tmp 26) 22 22 (by rfl) a0 _ _ (by rfl) (by rfl) HRA.out ?_ | refine wpList_append_known rfl (.tmp 28) (.tmp 36) 22 22 (by rfl) m _ _ (by rfl) (by rfl) HRB.out ?_)
  clear HRA HRB
  refine HPA.out.mono ?_
  rintro e w7 ⟨p, rfl, hp7, hb7⟩
  have HPB := Lib.hid (path_good vb _ w7 (HRDB.out.below hb7 (Nat.le_refl _)) LB1.out LB2.out)
  have HP7 := Lib.hid hp7
  have HB7 := Lib.hid (HB6.out.trans (hb7.mono hs6))
  clear hp7 hb7 HPA HRDB LB1 LB2
  go_wp2_with fail
  refine HPB.out.mono ?_
  rintro e w8 ⟨q, rfl, hq8, hb8⟩
  have hp8 := HP7.out.below hb8 (Nat.le_refl _)
  have hb8w := HB7.out.trans (hb8.mono HB7.out.size)
  rw [← HE.out] at hq8
  have hP0 := path_pos (small l ++ [(true, n), (true, k), (false, 5)])
  generalize (run (small l ++ [(true, n), (true, k), (false, 5)])).path = P at *
  obtain ⟨g, cp, rfl, -, -, hcp, hmp, hcp'⟩ := hp8.cells hP0
  obtain ⟨g', cq, rfl, -, -, hcq, hmq, hcq'⟩ := hq8.cells hP0
  unfold maxLen at hmp hmq
  have CP := Lib.hid hcp'
  have CQ := Lib.hid hcq'
  have HB8 := Lib.hid hb8w
  clear hcp' hcq' hp8 hq8 hb8 hb8w HE HP7 HB7 HPB HM HB6 HR0 HR1 HR2 HB1 HB2 HM2
  have nq := neqPlace_same
  go_wp2_with fail
  go_loopw [14] (fun i wr => ∃ j : Nat, j ≤ P.length ∧ i = .int .i64 j ∧ Hid (∀ p, wr.cell? p = w8.cell? p) ∧ Hid (Below w.heap.size w wr)) (fun i _ => P.length - (intOf i).toNat)
  case atStart => exact ⟨0, by omega, rfl, Lib.hid (fun _ => rfl), HB8⟩
  case round =>
    obtain ⟨j, hj, rfl, hs, hb⟩ := hrel
    by_cases hlt : j < P.length
    · obtain ⟨c1, c2⟩ := place_at CP hs hlt
      obtain ⟨c3, c4⟩ := place_at CQ hs hlt
      generalize P[j] = p at *
      go_wp2
      go_quiet (fail)
      go_wp2
      go_roundw
      case rel => exact ⟨j + 1, by omega, by go_num, hs, below_drewN hb.out _⟩
      case measure => simp [intOf]; omega
    · go_wp2
      go_ret
      exact ⟨rfl, hb.out⟩
end Go.Proofs.Ytjmfgpklemhomab
