/- The snapshot of an act; Restart, Arm in the drum's own blocks. -/
import Derived.Test.YtonahfpnlaolpaaOpenSA
import Derived.Test.YtonahfpnlaolpaaLStFull
namespace Go.Proofs.Ytonahfpnlaolpaa
open Go.RowKit OctM

/-- An append whose run is known, as a step of a region that draws. -/
theorem step_append_known {P : Program} {w w' : World} {ops : Array Oper} {o : Oper} {a : Go.Act} {K : Go.Act → World → Prop} {Q : Exit → Go.Act → World → Prop} {E : Prop} (hgd : o.guard = none) (s x : Operand) (t u : TypeId)
    (ho : o.op = .call { callee := .builtin .append, args := #[s, x], argTypes := #[t, u] }) (v y v' : Value) (hs : a.eval s = v) (hx : a.eval x = y)
    (hr : (Builtin.append_ #[t, u] o.type #[v, y]).run P w = .ok v' w') (h : K (a.put o.dst v') w') : if Region.wanted o (yielded ops a.tmps) = true then Oper.wp P o a w K Q else E := by
  have hw : Region.wanted o (yielded ops a.tmps) = true := by simp [Region.wanted, hgd]
  rw [if_pos hw]
  unfold Oper.wp execOp
  simp only [ho, resolve, invoke, builtin, Sem.run_bind, Sem.run_pure, Result.andThen_ok, List.map_toArray, List.map_cons, List.map_nil, hs, hx, hr]
  exact h

theorem DtP.same {w w' : World} {X : Nat → Prop} {D T : Nat} {vn vd vn' vd' : Nat → Value} {d d' : Dr} (_h : DAt w (Tg D T d.n vn vd) D T vn vd d) (hX : ∀ k, Tg D T d.n vn vd k → X k) (hd : DAt w' (Tg D T d.n vn vd) D T vn' vd' d') (hk : Kept (Tg D T d.n vn vd) w w') : Dt w' (Fr X w w') D T d' ∧ Kept X w w' :=
  ⟨Dt.of hd (fun k hk => .inl (hX k hk)), hk.weak (fun k _ => hX k)⟩

/-- A store whose drum has turned. -/
theorem SAt.drum {w w' : World} {R X : Nat → Prop} {v : Value} {St D T : Nat} {s : Ss} {d' : Dr} (h : SAx w R X v St D T s) (hd : Dt w' (Fr X w w') D T d') (hk : Kept X w w') : SAt w' (Fr R w w') St D T { s with d := d' } ∧ Kept R w w' := by
  have hs := hk.size
  have hw := h.lt St h.rSt
  refine ⟨⟨Fr X w w', v, hd, (hk.block St hw h.nSt).trans h.cell, own_kept h.own hk (fun k hk => (h.rv k hk).2.1), fun k hk => ?_, .inl h.rSt, fun hk => ?_, fun k hk => ⟨.inl (h.rv k hk).1, fun h2 => ?_, (h.rv k hk).2.2⟩, fun k hk => ?_, h.fits, h.lim⟩, hk.weak (fun k _ hk => h.sX k hk)⟩
  · rcases hk with hk | hk
    · exact .inl (h.sX k hk)
    · exact .inr hk
  · rcases hk with hk | hk
    · exact h.nSt hk
    · omega
  · rcases h2 with h2 | h2
    · exact (h.rv k hk).2.1 h2
    · have := h.lt k (h.rv k hk).1; omega
  · rcases hk with hk | hk
    · have := h.lt k hk; omega
    · exact hk.2

theorem sat_restart (x : Value) (cuts : List Int) (w : World) {R : Nat → Prop} {St D T : Nat} {s : Ss} (h : SAt w R St D T s) (hx : RdI w x cuts) (hT : cuts ≠ [] → x.ownBlock ≠ some T) :
    Calls Try.prog 23 #[.pointer (some ⟨D, 0, none⟩), x] w fun e w' => e = .returned (.int .i64 0) ∧ SAt w' (Fr R w w') St D T { s with d := restartS s.d cuts } ∧ Kept R w w' := by
  obtain ⟨X, v, h⟩ := h
  obtain ⟨vn, vd, h1, h2⟩ := h.dt
  refine (restart_any x cuts w h1 hx hT).mono fun e w' hp => ?_
  obtain ⟨he, ⟨vn', vd', hd⟩, hk⟩ := hp
  obtain ⟨g1, g2⟩ := DtP.same h1 h2 hd hk
  exact ⟨he, SAt.drum h g1 g2⟩

theorem sat_arm (k : Nat) (w : World) {R : Nat → Prop} {St D T : Nat} {s : Ss} (h : SAt w R St D T s) (hk : k ≤ 1000000) :
    Calls Try.prog 27 #[.pointer (some ⟨D, 0, none⟩), .int .i64 (k : Int)] w fun e w' => e = .returned (.int .i64 0) ∧ SAt w' (Fr R w w') St D T { s with d := { s.d with fuse := k } } ∧ Kept R w w' := by
  obtain ⟨X, v, h⟩ := h
  obtain ⟨vn, vd, h1, h2⟩ := h.dt
  refine (arm_any k w h1 hk).mono fun e w' hp => ?_
  obtain ⟨he, hd, hk⟩ := hp
  obtain ⟨g1, g2⟩ := DtP.same h1 h2 hd (hk.weak (fun k _ hk => by rw [hk]; exact .inl rfl))
  exact ⟨he, SAt.drum h g1 g2⟩

theorem sat_open (w : World) {R : Nat → Prop} {St D T : Nat} {s : Ss} (h : SAt w R St D T s) (hn : s.d.n = 3) (hoff : s.d.off = false) :
    Calls Try.prog 24 #[.pointer (some ⟨D, 0, none⟩), .int .i64 1] w fun e w' => ∃ St', e = .returned (.tuple #[.pointer (some ⟨St', 0, none⟩), .int .i64 0]) ∧ SAt w' (Fr R w w') St' D T (opened s.d) ∧ Below w.heap.size w w' := by
  obtain ⟨X, v, h⟩ := h
  refine (open_on w h.dt h.low hn hoff).mono fun e w' ⟨St', he, ha, hb⟩ => ⟨St', he, ?_, hb⟩
  have hl := h.lt
  have hs := hb.size
  refine ha.block (fun _ _ => rfl) (Nat.le_refl _) (fun k hk => ?_) (fun k hk => ?_)
  · rcases hk with hk | hk
    · exact .inl (h.sX k hk)
    · exact .inr hk
  · rcases hk with hk | hk
    · have := hl k hk; omega
    · exact hk.2

/-- The snapshot of an act, behind one of the index last. -/
def snapS (a : SA) (last : Nat) : Sn :=
  ⟨if 0 < a.near % 4 ∧ last < 1152921504606846976 then last + (a.near % 4).toNat - 1 else a.s.ix, a.s.tm, if 128 ≤ a.near then nz (a.n % 2000).toNat a.s.dat else a.s.dat⟩

/-- What snap leaves: bytes of the argument's, or of its own. -/
def SnA (w : World) (a : SA) (last : Nat) (e : Ending) (w' : World) : Prop :=
  ∃ v, e = .returned (snV (snapS a last) v) ∧ Below w.heap.size w w' ∧ ((v = .slice a.po a.s.dat.length a.pc ∧ (snapS a last).dat = a.s.dat) ∨ Own w' w.heap.size v (snapS a last).dat)

set_option maxHeartbeats 8000000 in
set_option maxRecDepth 100000 in
theorem ssnap_any (a : SA) (last : Nat) (w : World) (hrd : Rd w (.slice a.po a.s.dat.length a.pc) a.s.dat) (hk : 0 ≤ a.near ∧ a.near ≤ 255) (hn : 0 ≤ a.n ∧ a.n ≤ 65535) (hl : a.s.dat.length ≤ 3000) (hlast : last < 18446744073709551616) :
    Calls Try.prog 21 #[.agg #[.int .u8 a.k, .int .u64 (a.s.ix : Int), .int .u64 (a.s.tm : Int), .slice a.po a.s.dat.length a.pc, .int .u8 a.near, .int .u16 a.n, a.cv], .int .u64 (last : Int)] w (SnA w a last) := by
  obtain ⟨k, ⟨ix, tm, l⟩, po, pc, near, n, cv, cuts⟩ := a
  dsimp only at *
  have HR := Lib.hid hrd
  obtain ⟨L, hL⟩ : ∃ L : Int, (last : Int) = L := ⟨_, rfl⟩
  rw [hL]
  obtain ⟨r, hr⟩ : ∃ r : Nat, near % 4 = (r : Int) := ⟨(near % 4).toNat, by omega⟩
  have hrt : Int.tmod near 4 = (r : Int) := by rw [← hr]; exact Int.tmod_eq_emod_of_nonneg hk.1
  have hr4 : r < 4 := by omega
  clear hrd
  by_cases hc : 0 < r ∧ last < 1152921504606846976
  · obtain ⟨q, hq⟩ : ∃ q : Nat, q = last + r - 1 := ⟨_, rfl⟩
    have hqi : L + (r : Int) - 1 = (q : Int) := by omega
    have w1 : IntKind.u64.wrap (L + (r : Int)) = L + (r : Int) := by rw [IntKind.wrap_u64]; omega
    have w2 : IntKind.u64.wrap (L + (r : Int) - 1) = (q : Int) := by rw [IntKind.wrap_u64]; omega
    have w4 : IntKind.u64.wrap (q : Int) = (q : Int) := by rw [IntKind.wrap_u64]; omega
    have w3 : IntKind.u64.wrap (r : Int) = (r : Int) := by rw [IntKind.wrap_u64]; omega
    have c1 : (0 : Int) < (r : Int) := by omega
    have c2 : decide (L < 1152921504606846976) = true := by simp; omega
    have HE : Hid (snapS ⟨k, ⟨ix, tm, l⟩, po, pc, near, n, cv, cuts⟩ last = ⟨q, tm, if 128 ≤ near then nz (n % 2000).toNat l else l⟩) := by
      have e : snapS ⟨k, ⟨ix, tm, l⟩, po, pc, near, n, cv, cuts⟩ last = ⟨q, tm, if 128 ≤ near then nz (n % 2000).toNat l else l⟩ := by
        unfold snapS
        dsimp only
        rw [hr, if_pos (by omega), Int.toNat_natCast, hq]
      exact e
    clear hc hq hlast hL
    go_enter Try.func21, Try.ntmps21
    go_upto_region 4 with fail
    have hb : Below w.heap.size w (((w.alloc (.cells #[.int .u8 k, .int .u64 (ix : Int), .int .u64 (tm : Int), .slice po l.length pc, .int .u8 near, .int .u16 n, cv] 58)).alloc (.cells #[.int .u64 0, .int .u64 0, .slice none 0 0] 55)).alloc (.cells #[.int .u64 (q : Int), .int .u64 (tm : Int), .slice po l.length pc] 55)) := (((Below.refl _ _).alloc (Nat.le_refl _) _).alloc (by simp) _).alloc (by simp; omega) _
    have hs3 : (((w.alloc (.cells #[.int .u8 k, .int .u64 (ix : Int), .int .u64 (tm : Int), .slice po l.length pc, .int .u8 near, .int .u16 n, cv] 58)).alloc (.cells #[.int .u64 0, .int .u64 0, .slice none 0 0] 55)).alloc (.cells #[.int .u64 (q : Int), .int .u64 (tm : Int), .slice po l.length pc] 55)).heap.size = w.heap.size + 1 + 1 + 1 := by simp
    have hn0 : (((w.alloc (.cells #[.int .u8 k, .int .u64 (ix : Int), .int .u64 (tm : Int), .slice po l.length pc, .int .u8 near, .int .u16 n, cv] 58)).alloc (.cells #[.int .u64 0, .int .u64 0, .slice none 0 0] 55)).alloc (.cells #[.int .u64 (q : Int), .int .u64 (tm : Int), .slice po l.length pc] 55)).heap[w.heap.size]? = some (.cells #[.int .u8 k, .int .u64 (ix : Int), .int .u64 (tm : Int), .slice po l.length pc, .int .u8 near, .int .u16 n, cv] 58 (0, 0)) := by
      rw [Below.heap_alloc _ _ _ (by simp; omega), Below.heap_alloc _ _ _ (by simp)]; exact heap_alloc_new _ _
    have hn1 : (((w.alloc (.cells #[.int .u8 k, .int .u64 (ix : Int), .int .u64 (tm : Int), .slice po l.length pc, .int .u8 near, .int .u16 n, cv] 58)).alloc (.cells #[.int .u64 0, .int .u64 0, .slice none 0 0] 55)).alloc (.cells #[.int .u64 (q : Int), .int .u64 (tm : Int), .slice po l.length pc] 55)).heap[w.heap.size + 1]? = some (.cells #[.int .u64 0, .int .u64 0, .slice none 0 0] 55 (0, 0)) := by
      rw [Below.heap_alloc _ _ _ (by simp)]
      have := heap_alloc_new (w.alloc (.cells #[.int .u8 k, .int .u64 (ix : Int), .int .u64 (tm : Int), .slice po l.length pc, .int .u8 near, .int .u16 n, cv] 58)) (.cells #[.int .u64 0, .int .u64 0, .slice none 0 0] 55)
      simpa using this
    have hn2 : (((w.alloc (.cells #[.int .u8 k, .int .u64 (ix : Int), .int .u64 (tm : Int), .slice po l.length pc, .int .u8 near, .int .u16 n, cv] 58)).alloc (.cells #[.int .u64 0, .int .u64 0, .slice none 0 0] 55)).alloc (.cells #[.int .u64 (q : Int), .int .u64 (tm : Int), .slice po l.length pc] 55)).heap[w.heap.size + 1 + 1]? = some (.cells #[.int .u64 (q : Int), .int .u64 (tm : Int), .slice po l.length pc] 55 (0, 0)) := by
      have := heap_alloc_new ((w.alloc (.cells #[.int .u8 k, .int .u64 (ix : Int), .int .u64 (tm : Int), .slice po l.length pc, .int .u8 near, .int .u16 n, cv] 58)).alloc (.cells #[.int .u64 0, .int .u64 0, .slice none 0 0] 55)) (.cells #[.int .u64 (q : Int), .int .u64 (tm : Int), .slice po l.length pc] 55)
      simpa using this
    generalize (((w.alloc (.cells #[.int .u8 k, .int .u64 (ix : Int), .int .u64 (tm : Int), .slice po l.length pc, .int .u8 near, .int .u16 n, cv] 58)).alloc (.cells #[.int .u64 0, .int .u64 0, .slice none 0 0] 55)).alloc (.cells #[.int .u64 (q : Int), .int .u64 (tm : Int), .slice po l.length pc] 55)) = W at *
    obtain ⟨z0, z1, z2, f0, f1, f2, zl⟩ := kept3 hn1
    obtain ⟨x0, x1, x2, g0, g1, g2, xl⟩ := kept3 hn2
    have a4 := cellk (i := 4) hn0 rfl
    have a5 := cellk (i := 5) hn0 rfl
    have a4 : W.cell? ⟨w.heap.size, 4, none⟩ = some (.int .u8 near) := a4
    have a5 : W.cell? ⟨w.heap.size, 5, none⟩ = some (.int .u16 n) := a5
    have HB := Lib.hid hb
    have HN1 := Lib.hid hn1
    have HN2 := Lib.hid hn2
    clear hb hn0 hn1 hn2
    by_cases hd : 128 ≤ near
    · have HE2 : Hid (snapS ⟨k, ⟨ix, tm, l⟩, po, pc, near, n, cv, cuts⟩ last = ⟨q, tm, nz (n % 2000).toNat l⟩) := by
        have := HE.out
        rw [if_pos hd] at this
        exact this
      obtain ⟨m, hm⟩ : ∃ m : Nat, n % 2000 = (m : Int) := ⟨(n % 2000).toNat, by omega⟩
      have ht : Int.tmod n 2000 = (m : Int) := by rw [← hm]; exact Int.tmod_eq_emod_of_nonneg hn.1
      rw [hm, Int.toNat_natCast] at HE2
      have hmk := made0 m (by omega)
      have wn : IntKind.i64.wrap n = n := IntWalk.i64_in _ (by omega)
      have wm : IntKind.i64.wrap (m : Int) = (m : Int) := IntWalk.i64_in _ (by omega)
      clear HE
      go_wp2_with fail
      have hb5 : Below W.drew.heap.size W.drew (W.drew.alloc (.cells (Bs (List.replicate m 0)).toArray 5)) := (Below.refl _ _).alloc (Nat.le_refl _) _
      have hs5 : (W.drew.alloc (.cells (Bs (List.replicate m 0)).toArray 5)).heap.size = w.heap.size + 1 + 1 + 1 + 1 := by simp [hs3]
      have hz := own_block_bytes (l := List.replicate m 0) (heap_alloc_new W.drew (.cells (Bs (List.replicate m 0)).toArray 5)) (Nat.le_refl W.drew.heap.size) (by simp [maxLen]; omega)
      rw [List.length_replicate] at hz
      have hbd : Below w.heap.size w W.drew := HB.out.drew
      have hsd : W.drew.heap.size = w.heap.size + 1 + 1 + 1 := hs3
      have HB5 := Lib.hid (hbd.trans (hb5.mono (by omega)))
      obtain ⟨o, cap, w6, hr', ho, hg, -, -⟩ := append_two hz (HR.out.below HB5.out) (by simp; omega) (by omega) 22
      rw [List.length_replicate] at hr' ho
      have hb6 : Below W.drew.heap.size (W.drew.alloc (.cells (Bs (List.replicate m 0)).toArray 5)) w6 := (Below.refl _ _).grown hg (by omega) (by intro k hk; simp [Value.ownBlock] at hk; omega)
      have HB6 := Lib.hid (HB5.out.trans (hb6.mono (by omega)))
      have hs6 := hg.size
      rw [hsd] at hr' hz ho hb6
      have ho6 : Own w6 (w.heap.size + 1 + 1 + 1) (.slice o (m + l.length) cap) (nz m l) := ho
      have HO6 := Lib.hid ho6
      have hl6 := hb6.trans (Below.refl _ _)
      have a5' := cell_alloc (show W.drew.cell? ⟨w.heap.size, 5, none⟩ = _ from a5) (.cells (Bs (List.replicate m 0)).toArray 5)
      have x2' := cell_alloc (show W.drew.cell? ⟨w.heap.size + 1 + 1, 2, none⟩ = _ from x2) (.cells (Bs (List.replicate m 0)).toArray 5)
      have q5 := (hb6.cell (p := ⟨w.heap.size, 5, none⟩) (by show w.heap.size < _; omega)).trans a5'
      have q2 := (hb6.cell (p := ⟨w.heap.size + 1 + 1, 2, none⟩) (by show w.heap.size + 1 + 1 < _; omega)).trans x2'
      have N1 := (hb6.block (w.heap.size + 1) (by omega)).trans ((hb5.block _ (by omega)).trans (show W.drew.heap[w.heap.size + 1]? = _ from HN1.out))
      have N2 := (hb6.block (w.heap.size + 1 + 1) (by omega)).trans ((hb5.block _ (by omega)).trans (show W.drew.heap[w.heap.size + 1 + 1]? = _ from HN2.out))
      clear hz hg hb5 hb6 hbd ho ho6 hl6
      obtain ⟨y0, y1, y2, e0, e1, e2, el⟩ := kept3 N2
      obtain ⟨t0, t1, t2, u0, u1, u2, tl⟩ := kept3 N1
      have hne : (Value.slice o (m + l.length) cap).ownBlock ≠ some (w.heap.size + 1 + 1) := fun e => by have := (HO6.out.lt _ e).1; omega
      have hne1 : (Value.slice o (m + l.length) cap).ownBlock ≠ some (w.heap.size + 1) := fun e => by have := (HO6.out.lt _ e).1; omega
      have HNE := Lib.hid hne
      have HNE1 := Lib.hid hne1
      clear hne hne1 N1 N2 z0 z1 z2 f0 f1 f2 zl q5 a5'
      go_region_law ((refine step_append_known rfl (.tmp 31) (.tmp 33) 22 22 rfl _ _ _ rfl rfl hr' ?_))
      all_goals
        go_wp2_with fail
        refine bodyPost_ret (v := snV ⟨q, tm, nz m l⟩ (.slice o (m + l.length) cap)) (by simp [results, Try.results21, go_sem, t0, t1, t2, snV]) rfl ?_
        exact ⟨_, by rw [HE2.out], (((HB6.out.setCell (p := ⟨w.heap.size + 1 + 1, 2, none⟩) (by show w.heap.size ≤ w.heap.size + 1 + 1; omega) _).setCell (p := ⟨w.heap.size + 1, 0, none⟩) (by simp) _).setCell (p := ⟨w.heap.size + 1, 1, none⟩) (by simp) _).setCell (p := ⟨w.heap.size + 1, 2, none⟩) (by simp) _, .inr (by
          rw [HE2.out]
          exact ownsRow_setCell_other (ownsRow_setCell_other (ownsRow_setCell_other (ownsRow_setCell_other (own_base HO6.out (by omega : w.heap.size ≤ w.heap.size + 1 + 1 + 1)) HNE.out _) HNE1.out _) HNE1.out _) HNE1.out _)⟩
    · have hd2 : ¬ (128 ≤ near) := hd
      have HE2 : Hid (snapS ⟨k, ⟨ix, tm, l⟩, po, pc, near, n, cv, cuts⟩ last = ⟨q, tm, l⟩) := by
        have := HE.out
        rw [if_neg hd] at this
        exact this
      clear HE
      go_wp2_with fail
      refine bodyPost_ret (v := snV ⟨q, tm, l⟩ (.slice po l.length pc)) (by simp [results, Try.results21, go_sem, z0, z1, z2, snV]) rfl ?_
      refine ⟨_, by rw [HE2.out], ((HB.out.setCell (p := ⟨w.heap.size + 1, 0, none⟩) (by simp) _).setCell (p := ⟨w.heap.size + 1, 1, none⟩) (by simp) _).setCell (p := ⟨w.heap.size + 1, 2, none⟩) (by simp) _, .inl ⟨rfl, by rw [HE2.out]⟩⟩
  · have HE : Hid (snapS ⟨k, ⟨ix, tm, l⟩, po, pc, near, n, cv, cuts⟩ last = ⟨ix, tm, if 128 ≤ near then nz (n % 2000).toNat l else l⟩) := by
      have e : snapS ⟨k, ⟨ix, tm, l⟩, po, pc, near, n, cv, cuts⟩ last = ⟨ix, tm, if 128 ≤ near then nz (n % 2000).toNat l else l⟩ := by
        unfold snapS
        dsimp only
        rw [hr, if_neg (by omega)]
      exact e
    have c0 : (0 : Int) < (r : Int) ∨ ¬ (0 : Int) < (r : Int) := by omega
    have c3 : (0 : Int) < (r : Int) → decide (L < 1152921504606846976) = false := by intro h; simp; omega
    rcases c0 with c0 | c0
    · have c4 := c3 c0
      clear hc c3 hlast hL
      go_enter Try.func21, Try.ntmps21
      go_upto_region 4 with fail
      have hb : Below w.heap.size w (((w.alloc (.cells #[.int .u8 k, .int .u64 (ix : Int), .int .u64 (tm : Int), .slice po l.length pc, .int .u8 near, .int .u16 n, cv] 58)).alloc (.cells #[.int .u64 0, .int .u64 0, .slice none 0 0] 55)).alloc (.cells #[.int .u64 (ix : Int), .int .u64 (tm : Int), .slice po l.length pc] 55)) := (((Below.refl _ _).alloc (Nat.le_refl _) _).alloc (by simp) _).alloc (by simp; omega) _
      have hs3 : (((w.alloc (.cells #[.int .u8 k, .int .u64 (ix : Int), .int .u64 (tm : Int), .slice po l.length pc, .int .u8 near, .int .u16 n, cv] 58)).alloc (.cells #[.int .u64 0, .int .u64 0, .slice none 0 0] 55)).alloc (.cells #[.int .u64 (ix : Int), .int .u64 (tm : Int), .slice po l.length pc] 55)).heap.size = w.heap.size + 1 + 1 + 1 := by simp
      have hn0 : (((w.alloc (.cells #[.int .u8 k, .int .u64 (ix : Int), .int .u64 (tm : Int), .slice po l.length pc, .int .u8 near, .int .u16 n, cv] 58)).alloc (.cells #[.int .u64 0, .int .u64 0, .slice none 0 0] 55)).alloc (.cells #[.int .u64 (ix : Int), .int .u64 (tm : Int), .slice po l.length pc] 55)).heap[w.heap.size]? = some (.cells #[.int .u8 k, .int .u64 (ix : Int), .int .u64 (tm : Int), .slice po l.length pc, .int .u8 near, .int .u16 n, cv] 58 (0, 0)) := by
        rw [Below.heap_alloc _ _ _ (by simp; omega), Below.heap_alloc _ _ _ (by simp)]; exact heap_alloc_new _ _
      have hn1 : (((w.alloc (.cells #[.int .u8 k, .int .u64 (ix : Int), .int .u64 (tm : Int), .slice po l.length pc, .int .u8 near, .int .u16 n, cv] 58)).alloc (.cells #[.int .u64 0, .int .u64 0, .slice none 0 0] 55)).alloc (.cells #[.int .u64 (ix : Int), .int .u64 (tm : Int), .slice po l.length pc] 55)).heap[w.heap.size + 1]? = some (.cells #[.int .u64 0, .int .u64 0, .slice none 0 0] 55 (0, 0)) := by
        rw [Below.heap_alloc _ _ _ (by simp)]
        have := heap_alloc_new (w.alloc (.cells #[.int .u8 k, .int .u64 (ix : Int), .int .u64 (tm : Int), .slice po l.length pc, .int .u8 near, .int .u16 n, cv] 58)) (.cells #[.int .u64 0, .int .u64 0, .slice none 0 0] 55)
        simpa using this
      have hn2 : (((w.alloc (.cells #[.int .u8 k, .int .u64 (ix : Int), .int .u64 (tm : Int), .slice po l.length pc, .int .u8 near, .int .u16 n, cv] 58)).alloc (.cells #[.int .u64 0, .int .u64 0, .slice none 0 0] 55)).alloc (.cells #[.int .u64 (ix : Int), .int .u64 (tm : Int), .slice po l.length pc] 55)).heap[w.heap.size + 1 + 1]? = some (.cells #[.int .u64 (ix : Int), .int .u64 (tm : Int), .slice po l.length pc] 55 (0, 0)) := by
        have := heap_alloc_new ((w.alloc (.cells #[.int .u8 k, .int .u64 (ix : Int), .int .u64 (tm : Int), .slice po l.length pc, .int .u8 near, .int .u16 n, cv] 58)).alloc (.cells #[.int .u64 0, .int .u64 0, .slice none 0 0] 55)) (.cells #[.int .u64 (ix : Int), .int .u64 (tm : Int), .slice po l.length pc] 55)
        simpa using this
      generalize (((w.alloc (.cells #[.int .u8 k, .int .u64 (ix : Int), .int .u64 (tm : Int), .slice po l.length pc, .int .u8 near, .int .u16 n, cv] 58)).alloc (.cells #[.int .u64 0, .int .u64 0, .slice none 0 0] 55)).alloc (.cells #[.int .u64 (ix : Int), .int .u64 (tm : Int), .slice po l.length pc] 55)) = W at *
      obtain ⟨z0, z1, z2, f0, f1, f2, zl⟩ := kept3 hn1
      obtain ⟨x0, x1, x2, g0, g1, g2, xl⟩ := kept3 hn2
      have a4 := cellk (i := 4) hn0 rfl
      have a5 := cellk (i := 5) hn0 rfl
      have a4 : W.cell? ⟨w.heap.size, 4, none⟩ = some (.int .u8 near) := a4
      have a5 : W.cell? ⟨w.heap.size, 5, none⟩ = some (.int .u16 n) := a5
      have HB := Lib.hid hb
      have HN1 := Lib.hid hn1
      have HN2 := Lib.hid hn2
      clear hb hn0 hn1 hn2
      by_cases hd : 128 ≤ near
      · have HE2 : Hid (snapS ⟨k, ⟨ix, tm, l⟩, po, pc, near, n, cv, cuts⟩ last = ⟨ix, tm, nz (n % 2000).toNat l⟩) := by
          have := HE.out
          rw [if_pos hd] at this
          exact this
        obtain ⟨m, hm⟩ : ∃ m : Nat, n % 2000 = (m : Int) := ⟨(n % 2000).toNat, by omega⟩
        have ht : Int.tmod n 2000 = (m : Int) := by rw [← hm]; exact Int.tmod_eq_emod_of_nonneg hn.1
        rw [hm, Int.toNat_natCast] at HE2
        have hmk := made0 m (by omega)
        have wn : IntKind.i64.wrap n = n := IntWalk.i64_in _ (by omega)
        have wm : IntKind.i64.wrap (m : Int) = (m : Int) := IntWalk.i64_in _ (by omega)
        clear HE
        go_wp2_with fail
        have hb5 : Below W.drew.heap.size W.drew (W.drew.alloc (.cells (Bs (List.replicate m 0)).toArray 5)) := (Below.refl _ _).alloc (Nat.le_refl _) _
        have hs5 : (W.drew.alloc (.cells (Bs (List.replicate m 0)).toArray 5)).heap.size = w.heap.size + 1 + 1 + 1 + 1 := by simp [hs3]
        have hz := own_block_bytes (l := List.replicate m 0) (heap_alloc_new W.drew (.cells (Bs (List.replicate m 0)).toArray 5)) (Nat.le_refl W.drew.heap.size) (by simp [maxLen]; omega)
        rw [List.length_replicate] at hz
        have hbd : Below w.heap.size w W.drew := HB.out.drew
        have hsd : W.drew.heap.size = w.heap.size + 1 + 1 + 1 := hs3
        have HB5 := Lib.hid (hbd.trans (hb5.mono (by omega)))
        obtain ⟨o, cap, w6, hr', ho, hg, -, -⟩ := append_two hz (HR.out.below HB5.out) (by simp; omega) (by omega) 22
        rw [List.length_replicate] at hr' ho
        have hb6 : Below W.drew.heap.size (W.drew.alloc (.cells (Bs (List.replicate m 0)).toArray 5)) w6 := (Below.refl _ _).grown hg (by omega) (by intro k hk; simp [Value.ownBlock] at hk; omega)
        have HB6 := Lib.hid (HB5.out.trans (hb6.mono (by omega)))
        have hs6 := hg.size
        rw [hsd] at hr' hz ho hb6
        have ho6 : Own w6 (w.heap.size + 1 + 1 + 1) (.slice o (m + l.length) cap) (nz m l) := ho
        have HO6 := Lib.hid ho6
        have hl6 := hb6.trans (Below.refl _ _)
        have a5' := cell_alloc (show W.drew.cell? ⟨w.heap.size, 5, none⟩ = _ from a5) (.cells (Bs (List.replicate m 0)).toArray 5)
        have x2' := cell_alloc (show W.drew.cell? ⟨w.heap.size + 1 + 1, 2, none⟩ = _ from x2) (.cells (Bs (List.replicate m 0)).toArray 5)
        have q5 := (hb6.cell (p := ⟨w.heap.size, 5, none⟩) (by show w.heap.size < _; omega)).trans a5'
        have q2 := (hb6.cell (p := ⟨w.heap.size + 1 + 1, 2, none⟩) (by show w.heap.size + 1 + 1 < _; omega)).trans x2'
        have N1 := (hb6.block (w.heap.size + 1) (by omega)).trans ((hb5.block _ (by omega)).trans (show W.drew.heap[w.heap.size + 1]? = _ from HN1.out))
        have N2 := (hb6.block (w.heap.size + 1 + 1) (by omega)).trans ((hb5.block _ (by omega)).trans (show W.drew.heap[w.heap.size + 1 + 1]? = _ from HN2.out))
        clear hz hg hb5 hb6 hbd ho ho6 hl6
        obtain ⟨y0, y1, y2, e0, e1, e2, el⟩ := kept3 N2
        obtain ⟨t0, t1, t2, u0, u1, u2, tl⟩ := kept3 N1
        have hne : (Value.slice o (m + l.length) cap).ownBlock ≠ some (w.heap.size + 1 + 1) := fun e => by have := (HO6.out.lt _ e).1; omega
        have hne1 : (Value.slice o (m + l.length) cap).ownBlock ≠ some (w.heap.size + 1) := fun e => by have := (HO6.out.lt _ e).1; omega
        have HNE := Lib.hid hne
        have HNE1 := Lib.hid hne1
        clear hne hne1 N1 N2 z0 z1 z2 f0 f1 f2 zl q5 a5'
        go_region_law ((refine step_append_known rfl (.tmp 31) (.tmp 33) 22 22 rfl _ _ _ rfl rfl hr' ?_))
        all_goals
          go_wp2_with fail
          refine bodyPost_ret (v := snV ⟨ix, tm, nz m l⟩ (.slice o (m + l.length) cap)) (by simp [results, Try.results21, go_sem, t0, t1, t2, snV]) rfl ?_
          exact ⟨_, by rw [HE2.out], (((HB6.out.setCell (p := ⟨w.heap.size + 1 + 1, 2, none⟩) (by show w.heap.size ≤ w.heap.size + 1 + 1; omega) _).setCell (p := ⟨w.heap.size + 1, 0, none⟩) (by simp) _).setCell (p := ⟨w.heap.size + 1, 1, none⟩) (by simp) _).setCell (p := ⟨w.heap.size + 1, 2, none⟩) (by simp) _, .inr (by
            rw [HE2.out]
            exact ownsRow_setCell_other (ownsRow_setCell_other (ownsRow_setCell_other (ownsRow_setCell_other (own_base HO6.out (by omega : w.heap.size ≤ w.heap.size + 1 + 1 + 1)) HNE.out _) HNE1.out _) HNE1.out _) HNE1.out _)⟩
      · have hd2 : ¬ (128 ≤ near) := hd
        have HE2 : Hid (snapS ⟨k, ⟨ix, tm, l⟩, po, pc, near, n, cv, cuts⟩ last = ⟨ix, tm, l⟩) := by
          have := HE.out
          rw [if_neg hd] at this
          exact this
        clear HE
        go_wp2_with fail
        refine bodyPost_ret (v := snV ⟨ix, tm, l⟩ (.slice po l.length pc)) (by simp [results, Try.results21, go_sem, z0, z1, z2, snV]) rfl ?_
        refine ⟨_, by rw [HE2.out], ((HB.out.setCell (p := ⟨w.heap.size + 1, 0, none⟩) (by simp) _).setCell (p := ⟨w.heap.size + 1, 1, none⟩) (by simp) _).setCell (p := ⟨w.heap.size + 1, 2, none⟩) (by simp) _, .inl ⟨rfl, by rw [HE2.out]⟩⟩
    · clear hc c3 hlast hL
      go_enter Try.func21, Try.ntmps21
      go_upto_region 4 with fail
      have hb : Below w.heap.size w (((w.alloc (.cells #[.int .u8 k, .int .u64 (ix : Int), .int .u64 (tm : Int), .slice po l.length pc, .int .u8 near, .int .u16 n, cv] 58)).alloc (.cells #[.int .u64 0, .int .u64 0, .slice none 0 0] 55)).alloc (.cells #[.int .u64 (ix : Int), .int .u64 (tm : Int), .slice po l.length pc] 55)) := (((Below.refl _ _).alloc (Nat.le_refl _) _).alloc (by simp) _).alloc (by simp; omega) _
      have hs3 : (((w.alloc (.cells #[.int .u8 k, .int .u64 (ix : Int), .int .u64 (tm : Int), .slice po l.length pc, .int .u8 near, .int .u16 n, cv] 58)).alloc (.cells #[.int .u64 0, .int .u64 0, .slice none 0 0] 55)).alloc (.cells #[.int .u64 (ix : Int), .int .u64 (tm : Int), .slice po l.length pc] 55)).heap.size = w.heap.size + 1 + 1 + 1 := by simp
      have hn0 : (((w.alloc (.cells #[.int .u8 k, .int .u64 (ix : Int), .int .u64 (tm : Int), .slice po l.length pc, .int .u8 near, .int .u16 n, cv] 58)).alloc (.cells #[.int .u64 0, .int .u64 0, .slice none 0 0] 55)).alloc (.cells #[.int .u64 (ix : Int), .int .u64 (tm : Int), .slice po l.length pc] 55)).heap[w.heap.size]? = some (.cells #[.int .u8 k, .int .u64 (ix : Int), .int .u64 (tm : Int), .slice po l.length pc, .int .u8 near, .int .u16 n, cv] 58 (0, 0)) := by
        rw [Below.heap_alloc _ _ _ (by simp; omega), Below.heap_alloc _ _ _ (by simp)]; exact heap_alloc_new _ _
      have hn1 : (((w.alloc (.cells #[.int .u8 k, .int .u64 (ix : Int), .int .u64 (tm : Int), .slice po l.length pc, .int .u8 near, .int .u16 n, cv] 58)).alloc (.cells #[.int .u64 0, .int .u64 0, .slice none 0 0] 55)).alloc (.cells #[.int .u64 (ix : Int), .int .u64 (tm : Int), .slice po l.length pc] 55)).heap[w.heap.size + 1]? = some (.cells #[.int .u64 0, .int .u64 0, .slice none 0 0] 55 (0, 0)) := by
        rw [Below.heap_alloc _ _ _ (by simp)]
        have := heap_alloc_new (w.alloc (.cells #[.int .u8 k, .int .u64 (ix : Int), .int .u64 (tm : Int), .slice po l.length pc, .int .u8 near, .int .u16 n, cv] 58)) (.cells #[.int .u64 0, .int .u64 0, .slice none 0 0] 55)
        simpa using this
      have hn2 : (((w.alloc (.cells #[.int .u8 k, .int .u64 (ix : Int), .int .u64 (tm : Int), .slice po l.length pc, .int .u8 near, .int .u16 n, cv] 58)).alloc (.cells #[.int .u64 0, .int .u64 0, .slice none 0 0] 55)).alloc (.cells #[.int .u64 (ix : Int), .int .u64 (tm : Int), .slice po l.length pc] 55)).heap[w.heap.size + 1 + 1]? = some (.cells #[.int .u64 (ix : Int), .int .u64 (tm : Int), .slice po l.length pc] 55 (0, 0)) := by
        have := heap_alloc_new ((w.alloc (.cells #[.int .u8 k, .int .u64 (ix : Int), .int .u64 (tm : Int), .slice po l.length pc, .int .u8 near, .int .u16 n, cv] 58)).alloc (.cells #[.int .u64 0, .int .u64 0, .slice none 0 0] 55)) (.cells #[.int .u64 (ix : Int), .int .u64 (tm : Int), .slice po l.length pc] 55)
        simpa using this
      generalize (((w.alloc (.cells #[.int .u8 k, .int .u64 (ix : Int), .int .u64 (tm : Int), .slice po l.length pc, .int .u8 near, .int .u16 n, cv] 58)).alloc (.cells #[.int .u64 0, .int .u64 0, .slice none 0 0] 55)).alloc (.cells #[.int .u64 (ix : Int), .int .u64 (tm : Int), .slice po l.length pc] 55)) = W at *
      obtain ⟨z0, z1, z2, f0, f1, f2, zl⟩ := kept3 hn1
      obtain ⟨x0, x1, x2, g0, g1, g2, xl⟩ := kept3 hn2
      have a4 := cellk (i := 4) hn0 rfl
      have a5 := cellk (i := 5) hn0 rfl
      have a4 : W.cell? ⟨w.heap.size, 4, none⟩ = some (.int .u8 near) := a4
      have a5 : W.cell? ⟨w.heap.size, 5, none⟩ = some (.int .u16 n) := a5
      have HB := Lib.hid hb
      have HN1 := Lib.hid hn1
      have HN2 := Lib.hid hn2
      clear hb hn0 hn1 hn2
      by_cases hd : 128 ≤ near
      · have HE2 : Hid (snapS ⟨k, ⟨ix, tm, l⟩, po, pc, near, n, cv, cuts⟩ last = ⟨ix, tm, nz (n % 2000).toNat l⟩) := by
          have := HE.out
          rw [if_pos hd] at this
          exact this
        obtain ⟨m, hm⟩ : ∃ m : Nat, n % 2000 = (m : Int) := ⟨(n % 2000).toNat, by omega⟩
        have ht : Int.tmod n 2000 = (m : Int) := by rw [← hm]; exact Int.tmod_eq_emod_of_nonneg hn.1
        rw [hm, Int.toNat_natCast] at HE2
        have hmk := made0 m (by omega)
        have wn : IntKind.i64.wrap n = n := IntWalk.i64_in _ (by omega)
        have wm : IntKind.i64.wrap (m : Int) = (m : Int) := IntWalk.i64_in _ (by omega)
        clear HE
        go_wp2_with fail
        have hb5 : Below W.drew.heap.size W.drew (W.drew.alloc (.cells (Bs (List.replicate m 0)).toArray 5)) := (Below.refl _ _).alloc (Nat.le_refl _) _
        have hs5 : (W.drew.alloc (.cells (Bs (List.replicate m 0)).toArray 5)).heap.size = w.heap.size + 1 + 1 + 1 + 1 := by simp [hs3]
        have hz := own_block_bytes (l := List.replicate m 0) (heap_alloc_new W.drew (.cells (Bs (List.replicate m 0)).toArray 5)) (Nat.le_refl W.drew.heap.size) (by simp [maxLen]; omega)
        rw [List.length_replicate] at hz
        have hbd : Below w.heap.size w W.drew := HB.out.drew
        have hsd : W.drew.heap.size = w.heap.size + 1 + 1 + 1 := hs3
        have HB5 := Lib.hid (hbd.trans (hb5.mono (by omega)))
        obtain ⟨o, cap, w6, hr', ho, hg, -, -⟩ := append_two hz (HR.out.below HB5.out) (by simp; omega) (by omega) 22
        rw [List.length_replicate] at hr' ho
        have hb6 : Below W.drew.heap.size (W.drew.alloc (.cells (Bs (List.replicate m 0)).toArray 5)) w6 := (Below.refl _ _).grown hg (by omega) (by intro k hk; simp [Value.ownBlock] at hk; omega)
        have HB6 := Lib.hid (HB5.out.trans (hb6.mono (by omega)))
        have hs6 := hg.size
        rw [hsd] at hr' hz ho hb6
        have ho6 : Own w6 (w.heap.size + 1 + 1 + 1) (.slice o (m + l.length) cap) (nz m l) := ho
        have HO6 := Lib.hid ho6
        have hl6 := hb6.trans (Below.refl _ _)
        have a5' := cell_alloc (show W.drew.cell? ⟨w.heap.size, 5, none⟩ = _ from a5) (.cells (Bs (List.replicate m 0)).toArray 5)
        have x2' := cell_alloc (show W.drew.cell? ⟨w.heap.size + 1 + 1, 2, none⟩ = _ from x2) (.cells (Bs (List.replicate m 0)).toArray 5)
        have q5 := (hb6.cell (p := ⟨w.heap.size, 5, none⟩) (by show w.heap.size < _; omega)).trans a5'
        have q2 := (hb6.cell (p := ⟨w.heap.size + 1 + 1, 2, none⟩) (by show w.heap.size + 1 + 1 < _; omega)).trans x2'
        have N1 := (hb6.block (w.heap.size + 1) (by omega)).trans ((hb5.block _ (by omega)).trans (show W.drew.heap[w.heap.size + 1]? = _ from HN1.out))
        have N2 := (hb6.block (w.heap.size + 1 + 1) (by omega)).trans ((hb5.block _ (by omega)).trans (show W.drew.heap[w.heap.size + 1 + 1]? = _ from HN2.out))
        clear hz hg hb5 hb6 hbd ho ho6 hl6
        obtain ⟨y0, y1, y2, e0, e1, e2, el⟩ := kept3 N2
        obtain ⟨t0, t1, t2, u0, u1, u2, tl⟩ := kept3 N1
        have hne : (Value.slice o (m + l.length) cap).ownBlock ≠ some (w.heap.size + 1 + 1) := fun e => by have := (HO6.out.lt _ e).1; omega
        have hne1 : (Value.slice o (m + l.length) cap).ownBlock ≠ some (w.heap.size + 1) := fun e => by have := (HO6.out.lt _ e).1; omega
        have HNE := Lib.hid hne
        have HNE1 := Lib.hid hne1
        clear hne hne1 N1 N2 z0 z1 z2 f0 f1 f2 zl q5 a5'
        go_region_law ((refine step_append_known rfl (.tmp 31) (.tmp 33) 22 22 rfl _ _ _ rfl rfl hr' ?_))
        all_goals
          go_wp2_with fail
          refine bodyPost_ret (v := snV ⟨ix, tm, nz m l⟩ (.slice o (m + l.length) cap)) (by simp [results, Try.results21, go_sem, t0, t1, t2, snV]) rfl ?_
          exact ⟨_, by rw [HE2.out], (((HB6.out.setCell (p := ⟨w.heap.size + 1 + 1, 2, none⟩) (by show w.heap.size ≤ w.heap.size + 1 + 1; omega) _).setCell (p := ⟨w.heap.size + 1, 0, none⟩) (by simp) _).setCell (p := ⟨w.heap.size + 1, 1, none⟩) (by simp) _).setCell (p := ⟨w.heap.size + 1, 2, none⟩) (by simp) _, .inr (by
            rw [HE2.out]
            exact ownsRow_setCell_other (ownsRow_setCell_other (ownsRow_setCell_other (ownsRow_setCell_other (own_base HO6.out (by omega : w.heap.size ≤ w.heap.size + 1 + 1 + 1)) HNE.out _) HNE1.out _) HNE1.out _) HNE1.out _)⟩
      · have hd2 : ¬ (128 ≤ near) := hd
        have HE2 : Hid (snapS ⟨k, ⟨ix, tm, l⟩, po, pc, near, n, cv, cuts⟩ last = ⟨ix, tm, l⟩) := by
          have := HE.out
          rw [if_neg hd] at this
          exact this
        clear HE
        go_wp2_with fail
        refine bodyPost_ret (v := snV ⟨ix, tm, l⟩ (.slice po l.length pc)) (by simp [results, Try.results21, go_sem, z0, z1, z2, snV]) rfl ?_
        refine ⟨_, by rw [HE2.out], ((HB.out.setCell (p := ⟨w.heap.size + 1, 0, none⟩) (by simp) _).setCell (p := ⟨w.heap.size + 1, 1, none⟩) (by simp) _).setCell (p := ⟨w.heap.size + 1, 2, none⟩) (by simp) _, .inl ⟨rfl, by rw [HE2.out]⟩⟩
end Go.Proofs.Ytonahfpnlaolpaa
