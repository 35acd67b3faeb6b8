/- Messages that read alike are the same. -/
import Derived.Test.YtjbailnnaigjbaaBmC
import Derived.Deep.RegionHeld3
import Derived.OrdersHeld
namespace Go.Proofs.Ytjbailnnaigjbaa
open Go.RowKit OctM

theorem Rd.form {w : World} {v : Value} {l : List UInt8} (h : Rd w v l) : ∃ o c, v = .slice o l.length c := by
  rcases h with ⟨rfl, rfl⟩ | ⟨_, c, rfl, _⟩ <;> exact ⟨_, _, rfl⟩

set_option maxHeartbeats 4000000 in
set_option maxRecDepth 100000 in
theorem sameEntry_eq (x : En) (va vb : Value) (w : World) (ha : Rd w va x.cl) (hb : Rd w vb x.cl) :
    Calls Try.prog 57 #[.agg #[.int .u64 (x.tm : Int), .int .u64 (x.ss : Int), .int .u64 (x.nm : Int), va], .agg #[.int .u64 (x.tm : Int), .int .u64 (x.ss : Int), .int .u64 (x.nm : Int), vb]] w fun e w' => e = .returned (.bool true) ∧ Below w.heap.size w w' := by
  obtain ⟨tm, ss, nm, l⟩ := x
  dsimp only at ha hb
  obtain ⟨oa, ca, rfl⟩ := ha.form
  obtain ⟨ob, cb, rfl⟩ := hb.form
  have h2 : Below w.heap.size w ((w.alloc (.cells #[.int .u64 (tm : Int), .int .u64 (ss : Int), .int .u64 (nm : Int), .slice oa l.length ca] 51)).alloc (.cells #[.int .u64 (tm : Int), .int .u64 (ss : Int), .int .u64 (nm : Int), .slice ob l.length cb] 51)) := ((Below.refl _ _).alloc (Nat.le_refl _) _).alloc (by simp) _
  have ta := toStr (ha.below h2)
  have tb := toStr (hb.below h2)
  have H2 := Lib.hid h2
  unfold S at ta tb
  have d0 : ((tm : Int) == tm) = true := by simp
  have d1 : ((ss : Int) == ss) = true := by simp
  have d2 : ((nm : Int) == nm) = true := by simp
  clear ha hb h2
  dsimp only at *
  go_enter Try.func57, Try.ntmps57
  go_wp2_with fail
  go_ret
  exact ⟨rfl, H2.out⟩

set_option maxHeartbeats 8000000 in
set_option maxRecDepth 100000 in
theorem sameEntries_eq (es : List En) (va vb : Value) (w : World) (ha : RE w va es) (hb : RE w vb es) (hl : es.length ≤ 65536) :
    Calls Try.prog 39 #[va, vb] w fun e w' => e = .returned (.bool true) ∧ Below w.heap.size w w' := by
  obtain ⟨oa, ca, rfl, hea⟩ := ha
  obtain ⟨ob, cb, rfl, heb⟩ := hb
  have HA := Lib.hid hea
  have HB := Lib.hid heb
  clear hea heb
  go_enter Try.func39, Try.ntmps39
  go_wp2_with fail
  go_loopw [5] (fun t wr => ∃ (i : Nat), i ≤ es.length ∧ t = .int .i64 (i : Int) ∧ Hid (Below w.heap.size w wr)) (fun t _ => es.length + 1 - (intOf t).toNat)
  case atStart => exact ⟨0, by omega, rfl, Lib.hid (Below.refl _ _)⟩
  case round =>
    obtain ⟨i, hi, rfl, HR⟩ := hrel
    by_cases hlt : i < es.length
    · have i1 : (i : Int) < (es.length : Int) := by omega
      obtain ⟨b1, off1, rfl, hat1⟩ := HA.out i _ (List.getElem?_eq_getElem hlt)
      obtain ⟨b2, off2, rfl, hat2⟩ := HB.out i _ (List.getElem?_eq_getElem hlt)
      have hc1 := hat1.below HR.out.drew
      have hc2 := hat2.below HR.out.drew
      generalize es[i] = X at *
      obtain ⟨xt, xs, xn, xl⟩ := X
      obtain ⟨v1, a0, a1, a2, a3, ard⟩ := hc1
      obtain ⟨v2, c0, c1, c2, c3, crd⟩ := hc2
      dsimp only at a0 a1 a2 a3 ard c0 c1 c2 c3 crd
      obtain ⟨o1, k1, rfl⟩ := ard.form
      obtain ⟨o2, k2, rfl⟩ := crd.form
      have HC := Lib.hid (sameEntry_eq ⟨xt, xs, xn, xl⟩ (.slice o1 xl.length k1) (.slice o2 xl.length k2) wr.drew ard crd)
      dsimp only at HC
      have wi : IntKind.i64.wrap ((i : Int) + 1) = (i : Int) + 1 := IntWalk.i64_in _ (by omega)
      clear hat1 hat2 ard crd
      go_wp2_with fail
      refine wp_region_held_drew (S := fun w' =>
        w'.cell? ⟨b1, off1 + i * 4, none⟩ = some (.int .u64 (xt : Int)) ∧ w'.cell? ⟨b1, off1 + i * 4 + 1, none⟩ = some (.int .u64 (xs : Int)) ∧ w'.cell? ⟨b1, off1 + i * 4 + 2, none⟩ = some (.int .u64 (xn : Int)) ∧ w'.cell? ⟨b1, off1 + i * 4 + 3, none⟩ = some (.slice o1 xl.length k1) ∧
        w'.cell? ⟨b2, off2 + i * 4, none⟩ = some (.int .u64 (xt : Int)) ∧ w'.cell? ⟨b2, off2 + i * 4 + 1, none⟩ = some (.int .u64 (xs : Int)) ∧ w'.cell? ⟨b2, off2 + i * 4 + 2, none⟩ = some (.int .u64 (xn : Int)) ∧ w'.cell? ⟨b2, off2 + i * 4 + 3, none⟩ = some (.slice o2 xl.length k2)) (by kernel_rfl) ⟨a0, a1, a2, a3, c0, c1, c2, c3⟩ ?_
      intro hHeld
      refine wpAnyH_take (i := 0) (v := ?_) (by simp only [List.getElem?_toArray, List.getElem?_cons_zero]; rfl) (by kernel_rfl) (by kernel_rfl) (by kernel_rfl) (by intro _ _ _ h; exact h) (Or.inl ⟨by rfl, ?_⟩) (by assumption) ?_
      rotate_left
      · (intro w hSw; (try dsimp only at hSw); go_simp; try with_reducible rfl)
      try simp only [Act.put, List.setIfInBounds_toArray, List.set_cons_zero, List.set_cons_succ]
      refine wpAnyH_take (i := 1) (v := ?_) (by simp only [List.getElem?_toArray, List.getElem?_cons_succ, List.getElem?_cons_zero]; rfl) (by kernel_rfl) (by kernel_rfl) (by kernel_rfl) (by intro _ _ _ h; exact h) (Or.inl ⟨by rfl, ?_⟩) (by assumption) ?_
      rotate_left
      · (intro w hSw; (try dsimp only at hSw); go_simp; try with_reducible rfl)
      try simp only [Act.put, List.setIfInBounds_toArray, List.set_cons_zero, List.set_cons_succ]
      refine wpAnyH_take (i := 2) (v := ?_) (by simp only [List.getElem?_toArray, List.getElem?_cons_succ, List.getElem?_cons_zero]; rfl) (by kernel_rfl) (by kernel_rfl) (by kernel_rfl) (by intro _ _ _ h; exact h) (Or.inl ⟨by rfl, ?_⟩) (by assumption) ?_
      rotate_left
      · (intro w hSw; (try dsimp only at hSw); go_simp; try with_reducible rfl)
      try simp only [Act.put, List.setIfInBounds_toArray, List.set_cons_zero, List.set_cons_succ]
      refine wpAnyH_take (i := 3) (v := ?_) (by simp only [List.getElem?_toArray, List.getElem?_cons_succ, List.getElem?_cons_zero]; rfl) (by kernel_rfl) (by kernel_rfl) (by kernel_rfl) (by intro _ _ _ h; exact h) (Or.inl ⟨by rfl, ?_⟩) (by assumption) ?_
      rotate_left
      · (intro w hSw; (try dsimp only at hSw); go_simp; try with_reducible rfl)
      try simp only [Act.put, List.setIfInBounds_toArray, List.set_cons_zero, List.set_cons_succ]
      refine wpAnyH_take (i := 4) (v := ?_) (by simp only [List.getElem?_toArray, List.getElem?_cons_succ, List.getElem?_cons_zero]; rfl) (by kernel_rfl) (by kernel_rfl) (by kernel_rfl) (by intro _ _ _ h; exact h) (Or.inl ⟨by rfl, ?_⟩) (by assumption) ?_
      rotate_left
      · (intro w hSw; (try dsimp only at hSw); go_simp; try with_reducible rfl)
      try simp only [Act.put, List.setIfInBounds_toArray, List.set_cons_zero, List.set_cons_succ]
      refine wpAnyH_take (i := 5) (v := ?_) (by simp only [List.getElem?_toArray, List.getElem?_cons_succ, List.getElem?_cons_zero]; rfl) (by kernel_rfl) (by kernel_rfl) (by kernel_rfl) (by intro _ _ _ h; exact h) (Or.inl ⟨by rfl, ?_⟩) (by assumption) ?_
      rotate_left
      · (intro w hSw; (try dsimp only at hSw); go_simp; try with_reducible rfl)
      try simp only [Act.put, List.setIfInBounds_toArray, List.set_cons_zero, List.set_cons_succ]
      refine wpAnyH_take (i := 6) (v := ?_) (by simp only [List.getElem?_toArray, List.getElem?_cons_succ, List.getElem?_cons_zero]; rfl) (by kernel_rfl) (by kernel_rfl) (by kernel_rfl) (by intro _ _ _ h; exact h) (Or.inl ⟨by rfl, ?_⟩) (by assumption) ?_
      rotate_left
      · (intro w hSw; (try dsimp only at hSw); go_simp; try with_reducible rfl)
      try simp only [Act.put, List.setIfInBounds_toArray, List.set_cons_zero, List.set_cons_succ]
      refine wpAnyH_take (i := 7) (v := ?_) (by simp only [List.getElem?_toArray, List.getElem?_cons_succ, List.getElem?_cons_zero]; rfl) (by kernel_rfl) (by kernel_rfl) (by kernel_rfl) (by intro _ _ _ h; exact h) (Or.inl ⟨by rfl, ?_⟩) (by assumption) ?_
      rotate_left
      · (intro w hSw; (try dsimp only at hSw); go_simp; try with_reducible rfl)
      try simp only [Act.put, List.setIfInBounds_toArray, List.set_cons_zero, List.set_cons_succ]
      refine wpAnyH_ready (rs := [8]) (by kernel_rfl) (by simp) ?_
      refine AllReadyH.cons (by simp only [List.getElem?_toArray, List.getElem?_cons_succ, List.getElem?_cons_zero]; rfl) (fun K hK => ?_) AllReadyH.nil
      go_simp
      refine HC.out.mono ?_
      rintro e wf ⟨rfl, hbf⟩
      have hlt1 : ∀ p : Addr, p.block < wr.drew.heap.size → wf.cell? p = wr.drew.cell? p := fun p hp => hbf.cell hp
      have HRF : Hid (Below w.heap.size w wf) := Lib.hid (HR.out.drew.trans (hbf.mono HR.out.size))
      have hq := hHeld
      obtain ⟨q2, q3, q4, q5, q6, q7, q8, q9⟩ := hq
      have r2 := (hlt1 _ (World.block_lt_of_cell? _ _ q2)).trans q2
      have r3 := (hlt1 _ (World.block_lt_of_cell? _ _ q3)).trans q3
      have r4 := (hlt1 _ (World.block_lt_of_cell? _ _ q4)).trans q4
      have r5 := (hlt1 _ (World.block_lt_of_cell? _ _ q5)).trans q5
      have r6 := (hlt1 _ (World.block_lt_of_cell? _ _ q6)).trans q6
      have r7 := (hlt1 _ (World.block_lt_of_cell? _ _ q7)).trans q7
      have r8 := (hlt1 _ (World.block_lt_of_cell? _ _ q8)).trans q8
      have r9 := (hlt1 _ (World.block_lt_of_cell? _ _ q9)).trans q9
      clear hbf hlt1 q2 q3 q4 q5 q6 q7 q8 q9
      dsimp only
      refine hK.out _ _ ⟨r2, r3, r4, r5, r6, r7, r8, r9⟩ (fun hHeld => ?_)
      clear hK K
      try simp only [Act.put, List.setIfInBounds_toArray, List.set_cons_zero, List.set_cons_succ]
      refine wpAnyH_take (i := 9) (v := ?_) (by simp only [List.getElem?_toArray, List.getElem?_cons_succ, List.getElem?_cons_zero]; rfl) (by kernel_rfl) (by kernel_rfl) (by kernel_rfl) (by intro _ _ _ h; exact h) (Or.inl ⟨by rfl, ?_⟩) (by assumption) ?_
      rotate_left
      · (intro w hSw; (try dsimp only at hSw); go_simp; try with_reducible rfl)
      try simp only [Act.put, List.setIfInBounds_toArray, List.set_cons_zero, List.set_cons_succ]
      refine wpAnyH_done (by kernel_rfl) ?_ _
      go_wp2_with fail
      go_roundw
      case rel => exact ⟨i + 1, by omega, by go_num, HRF⟩
      case measure => simp [intOf]; omega
    · have i1 : ¬ (i : Int) < (es.length : Int) := by omega
      go_wp2_with fail
      go_ret
      exact ⟨rfl, HR.out⟩

theorem entsS_len : ∀ (n : Nat) (s : Option (List UInt8)), (entsS n s).1.length ≤ n
  | 0, _ => Nat.le_refl _
  | n + 1, s => by
    have h1 := entsS_len n (entS s).2
    unfold entsS
    split
    · simp
    · simp only [List.length_cons]
      omega

set_option maxHeartbeats 8000000 in
set_option maxRecDepth 100000 in
theorem sameMsg_eq (m : Mg) (ea eb da db : Value) (w : World) (hea : RE w ea m.es) (heb : RE w eb m.es) (hda : Rd w da m.dt) (hdb : Rd w db m.dt) (hl : m.es.length ≤ 65536) :
    Calls Try.prog 15 #[mgV m ea da, mgV m eb db] w fun e w' => e = .returned (.bool true) ∧ Below w.heap.size w w' := by
  obtain ⟨k, fr, tg, tm, ix, lt, cm, ok, es, dt⟩ := m
  dsimp only at hea heb hda hdb hl
  obtain ⟨oa, ca, hva⟩ : ∃ o c, ea = .slice o es.length c := by obtain ⟨o, c, h, _⟩ := hea; exact ⟨o, c, h⟩
  obtain ⟨ob, cb, hvb⟩ : ∃ o c, eb = .slice o es.length c := by obtain ⟨o, c, h, _⟩ := heb; exact ⟨o, c, h⟩
  subst hva hvb
  obtain ⟨pa, qa, rfl⟩ := hda.form
  obtain ⟨pb, qb, rfl⟩ := hdb.form
  unfold mgV
  dsimp only
  have d0 : ((k : Int) == k) = true := by simp
  have d1 : (fr == fr) = true := by simp
  have d2 : (tg == tg) = true := by simp
  have d3 : ((tm : Int) == tm) = true := by simp
  have d4 : ((ix : Int) == ix) = true := by simp
  have d5 : ((lt : Int) == lt) = true := by simp
  have d6 : ((cm : Int) == cm) = true := by simp
  have d7 : (ok == ok) = true := by simp
  obtain ⟨X, hX⟩ : ∃ X : Array Value, X = #[.int .u8 (k : Int), .int .i64 fr, .int .i64 tg, .int .u64 (tm : Int), .int .u64 (ix : Int), .int .u64 (lt : Int), .int .u64 (cm : Int), .bool ok, .slice oa es.length ca, .slice pa dt.length qa] := ⟨_, rfl⟩
  obtain ⟨Y, hY⟩ : ∃ Y : Array Value, Y = #[.int .u8 (k : Int), .int .i64 fr, .int .i64 tg, .int .u64 (tm : Int), .int .u64 (ix : Int), .int .u64 (lt : Int), .int .u64 (cm : Int), .bool ok, .slice ob es.length cb, .slice pb dt.length qb] := ⟨_, rfl⟩
  have h2 : Below w.heap.size w ((w.alloc (.cells X 57)).alloc (.cells Y 57)) := ((Below.refl _ _).alloc (Nat.le_refl _) _).alloc (by simp) _
  have HC := Lib.hid (sameEntries_eq es _ _ _ (hea.below h2) (heb.below h2) hl)
  have hx : ((w.alloc (.cells X 57)).alloc (.cells Y 57)).heap[w.heap.size]? = some (.cells X 57 (0, 0)) := by rw [Below.heap_alloc _ _ _ (by simp)]; exact heap_alloc_new _ _
  have hy : ((w.alloc (.cells X 57)).alloc (.cells Y 57)).heap[w.heap.size + 1]? = some (.cells Y 57 (0, 0)) := by
    have := heap_alloc_new (w.alloc (.cells X 57)) (.cells Y 57)
    simpa using this
  have HX := Lib.hid hx
  have HY := Lib.hid hy
  have H2 := Lib.hid h2
  have HDA := Lib.hid hda
  have HDB := Lib.hid hdb
  clear hea heb hda hdb h2 hx hy
  subst hX hY
  go_enter Try.func15, Try.ntmps15
  go_wp2_with fail
  refine HC.out.mono ?_
  rintro e wf ⟨rfl, hbf⟩
  have hbw := H2.out.trans (hbf.mono H2.out.size)
  have x9 : wf.cell? ⟨w.heap.size, 9, none⟩ = some (.slice pa dt.length qa) := cellk ((hbf.block _ (lt_of_block HX.out)).trans HX.out) rfl
  have y9 : wf.cell? ⟨w.heap.size + 1, 9, none⟩ = some (.slice pb dt.length qb) := cellk ((hbf.block _ (lt_of_block HY.out)).trans HY.out) rfl
  have ta := toStr (HDA.out.below hbw)
  have tb := toStr (HDB.out.below hbw)
  unfold S at ta tb
  have HBW := Lib.hid hbw
  clear hbw hbf HC HX HY H2
  go_wp2_with fail
  go_ret
  exact ⟨rfl, HBW.out⟩
end Go.Proofs.Ytjbailnnaigjbaa
