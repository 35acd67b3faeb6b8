/- The reference's message of bytes: what it stands on. -/
import Derived.Test.YtdofddgodinphaaBmC
import Derived.Test.YtdofddgodinphaaOctZ
import Derived.Test.YtdofddgodinphaaLSeals
namespace Go.Proofs.Ytdofddgodinphaa
open Go.RowKit OctM

/-- What the reference's Bytes leaves. -/
structure BPost2 (b : Nat) (w w' : World) (v : Value) (l k : List UInt8) (s : Option (List UInt8)) (e : Ending) : Prop where
  ret : ∃ u, e = .returned u ∧ ∀ W, Rd W v l → Rd W u k
  st : RR w' b v l s
  kept : Kept (own1 (some ⟨b, 0, none⟩)) w w'

set_option maxHeartbeats 2000000 in
set_option maxRecDepth 100000 in
theorem rrbytes2 (b : Nat) (v : Value) (l : List UInt8) (s : Option (List UInt8)) (most : Int) (w : World) (h : RR w b v l s) (hl : l.length ≤ 140737488351232) (m0 : -9223372036854775808 ≤ most) (m1 : most ≤ 9223372036854775807) :
    Calls Try.prog 37 #[.pointer (some ⟨b, 0, none⟩), .int .i64 most] w fun e w' => BPost2 b w w' v l (bytesS s most).1 (bytesS s most).2 e := by
  have H := Lib.hid (rrupto b v l s most w h hl m0 m1)
  have hle := uptoS_le s most m1
  have hl0 : (l.length : Int) ≤ 140737488351232 := by omega
  have HB : Hid (bytesS s most = takeS (uptoS s most).2 (uptoS s most).1) := rfl
  clear h
  generalize (uptoS s most).1 = n at *
  generalize (uptoS s most).2 = r at *
  have hn0 : (0 : Int) ≤ (n : Int) := by omega
  have hn1 : (n : Int) ≤ 9223372036854775807 := by omega
  rcases r with _ | r
  · have HU : Hid (bytesS s most = ([], none)) := HB.out
    go_enter Try.func37, Try.ntmps37
    go_wp2_with fail
    refine H.out.mono ?_
    rintro e w1 ⟨rfl, hst, hk⟩
    obtain ⟨⟨a, hc, ha⟩, hr⟩ := hst
    obtain rfl : a = -1 := by
      rcases ha with ⟨_, ha⟩ | ⟨_, _, _, ha⟩
      · exact ha
      · cases ha
    have R := Lib.hid (rr_reset (s := none) ⟨⟨_, hc, .inl ⟨rfl, rfl⟩⟩, hr⟩)
    have R0 := Lib.hid (RR.mk (s := none) ⟨_, hc, .inl ⟨rfl, rfl⟩⟩ hr)
    have c1 := cell1_of_two hc
    have f1 := free_of_two hc 1
    clear hc hr ha
    go_wp2_with fail
    go_region
    go_wp2_with fail
    go_ret
    rw [HU.out]
    have R2 := rr_reset (R0.out.drew)
    exact ⟨⟨_, rfl, fun _ _ => .inl ⟨rfl, rfl⟩⟩, by first | exact R2.1 | exact R.out.1.drew, by first | exact hk.trans (R.out.2.drew) | exact hk.trans ((Kept.refl _ _).drew.trans R2.2)⟩
  · go_enter Try.func37, Try.ntmps37
    go_wp2_with fail
    refine H.out.mono ?_
    rintro e w1 ⟨rfl, hst, hk⟩
    have HST := Lib.hid hst
    obtain ⟨⟨a, hc, ha⟩, hr⟩ := hst
    obtain ⟨k, rfl, hkl, hrk⟩ : ∃ k : Nat, a = (k : Int) ∧ k ≤ l.length ∧ r = l.drop k := by
      rcases ha with ⟨ha, _⟩ | ⟨k, ha, hkl, hr⟩
      · cases ha
      · injection hr with hr
        exact ⟨k, ha, hkl, hr⟩
    have c0 := cell0_of_two hc
    have c1 := cell1_of_two hc
    have f1 := free_of_two hc 1
    have hlen := lenB' hr.rd
    have HRD := Lib.hid hr.rd
    have hk0 : decide ((k : Int) < 0) = false := by simp
    have hk0' : (0 : Int) ≤ (k : Int) := by omega
    have e1 : Hid (IntKind.i64.wrap ((l.length : Int) - (k : Int)) = (l.length : Int) - (k : Int)) := IntWalk.i64_in _ (by omega)
    have HK := Lib.hid hk
    by_cases hfar : l.length - k < n
    · have HU : Hid (bytesS s most = ([], none)) := by
        show bytesS s most = _
        rw [HB.out, hrk]
        simp [takeS]
        omega
      have hgt : decide ((l.length : Int) - (k : Int) < (n : Int)) = true := by simp; omega
      clear hc hr ha hrk hk
      go_wp2_with fail
      have p1 := e1.out
      go_quiet (fail)
      clear p1
      go_wp2_with fail
      go_ret
      rw [HU.out]
      exact ⟨⟨_, rfl, fun _ _ => .inl ⟨rfl, rfl⟩⟩, (rr_reset (rr_drewN HST.out _)).1, HK.out.trans ((kept_drewN _ _ _).trans (rr_reset (rr_drewN HST.out _)).2)⟩
    · obtain ⟨SV, hsv, hrd⟩ := cutB hr.rd k n (by omega)
      have HU : Hid (bytesS s most = ((l.drop k).take n, some (l.drop (k + n)))) := by
        show bytesS s most = _
        rw [HB.out, hrk, takeS_le (by rw [List.length_drop]; omega), List.drop_drop]
      have hgt : decide ((l.length : Int) - (k : Int) < (n : Int)) = false := by simp; omega
      have HSV := Lib.hid hrd
      have e2 : Hid (IntKind.i64.wrap ((k : Int) + (n : Int)) = (k : Int) + (n : Int)) := IntWalk.i64_in _ (by omega)
      have hkn : (k : Int) + (n : Int) ≤ 140737488351232 := by omega
      have hkn0 : k + n ≤ l.length := by omega
      clear hc hr ha hrk hk hrd
      go_wp2_with fail
      have p1 := e1.out
      go_quiet (fail)
      clear p1
      go_wp2_with fail
      have p2 := e2.out
      go_quiet (fail)
      clear p2
      go_wp2_with fail
      go_ret
      rw [HU.out]
      have R2 := fun m : Nat => rr_move (rr_drewN HST.out m) (k + n) hkn0
      simp only [Int.natCast_add] at R2
      exact ⟨⟨SV, rfl, HSV.out⟩, (R2 _).1, HK.out.trans ((kept_drewN _ _ _).trans (R2 _).2)⟩

theorem rr_init {w W : World} {x : Value} {l : List UInt8} {b : Nat} (h : Rd w x l) (hb : w.heap.size ≤ b) (hc : W.heap[b]? = some (.cells #[x, .int .i64 0] 76 (0, 0))) (hbel : Below w.heap.size w W) : RR W b x l (some l) := by
  refine ⟨⟨0, hc, .inr ⟨0, rfl, Nat.zero_le _, by simp⟩⟩, ?_⟩
  rcases h with ⟨rfl, rfl⟩ | ⟨a, c, rfl, hl, hm, hcs⟩
  · exact .inl (.inl ⟨rfl, rfl⟩)
  · rcases l with _ | ⟨y, t⟩
    · exact .inr ⟨rfl, a, c, rfl, hm⟩
    · obtain ⟨g, off, spot⟩ := a
      have h0 := hcs 0 y rfl
      obtain rfl : spot = none := by simpa [Addr.add] using World.cell?_spot h0
      have hg := World.block_lt_of_cell? w _ h0
      simp only [add_none] at hg
      refine .inl (.inr ⟨g, off, c, rfl, ?_, hl, hm, fun j u hu => ?_⟩)
      · intro a ha
        cases ha
        show b ≠ g
        omega
      · have := (hbel.cell (World.block_lt_of_cell? w _ (hcs j u hu))).trans (hcs j u hu)
        rw [add_none] at this
        exact this

theorem RR.keep {S : Nat → Prop} {w w' : World} {b : Nat} {v : Value} {l : List UInt8} {s : Option (List UInt8)} (h : RR w b v l s) (hk : Kept S w w') (hb : ¬ S b) (hv : l ≠ [] → ∀ g, v.ownBlock = some g → ¬ S g) : RR w' b v l s := by
  obtain ⟨⟨a, hc, ha⟩, hr⟩ := h
  refine ⟨⟨a, (hk.block b (lt_of_block hc) hb).trans hc, ha⟩, ?_⟩
  rcases hr with (h | ⟨g, off, c, rfl, ho, hl, hm, hcs⟩) | h
  · exact .inl (.inl h)
  · refine .inl (.inr ⟨g, off, c, rfl, ho, hl, hm, fun j u hu => ?_⟩)
    exact (World.cell?_of_block (w := w) (a := ⟨g, off + j, none⟩) (hk.block g (World.block_lt_of_cell? w _ (hcs j u hu)) (hv (by intro e; rw [e] at hu; simp at hu) g rfl))).trans (hcs j u hu)
  · exact .inr h
theorem RR.below {w w' : World} {b : Nat} {v : Value} {l : List UInt8} {s : Option (List UInt8)} (h : RR w b v l s) (hb : Below w.heap.size w w') : RR w' b v l s :=
  h.keep (kept_of_below (S := fun _ => False) hb) (fun h => h) (fun _ _ _ h => h)

/-- The reference at work on a message: its reader, its message, the result's block. -/
structure RM (w w' : World) (rb mb : Nat) (v : Value) (p : List UInt8) (s : Option (List UInt8)) (cs : List Value) : Prop where
  rr : RR w' rb v p s
  mc : w'.heap[mb]? = some (.cells cs.toArray 35 (0, 0))
  rc : w'.heap[w.heap.size]? = some (.cells (mgC mg0 (.slice none 0 0) (.slice none 0 0)).toArray 35 (0, 0))
  bel : Below w.heap.size w w'
  lo : w.heap.size < rb
  hi : rb < mb
  vb : p ≠ [] → ∀ g, v.ownBlock = some g → g < rb

theorem RM.up {S : Nat → Prop} {w w1 w2 : World} {rb mb : Nat} {v : Value} {p : List UInt8} {s : Option (List UInt8)} {cs : List Value} (h : RM w w1 rb mb v p s cs) (hk : Kept S w1 w2) (hS : ∀ k, S k → mb < k) : RM w w2 rb mb v p s cs := by
  have h1 := h.lo
  have h2 := h.hi
  exact ⟨h.rr.keep hk (fun h' => by have := hS _ h'; omega) (fun hp g hg h' => by have := h.vb hp g hg; have := hS _ h'; omega), (hk.block _ (lt_of_block h.mc) (fun h' => by have := hS _ h'; omega)).trans h.mc, (hk.block _ (lt_of_block h.rc) (fun h' => by have := hS _ h'; omega)).trans h.rc, h.bel.trans (hk.below h.bel.size (fun k hk' => by have := hS _ hk'; omega)), h1, h2, h.vb⟩
theorem RM.call {w w1 w2 : World} {rb mb : Nat} {v : Value} {p : List UInt8} {s t : Option (List UInt8)} {cs : List Value} (h : RM w w1 rb mb v p s cs) (hk : Kept (own1 (some ⟨rb, 0, none⟩)) w1 w2) (hr : RR w2 rb v p t) : RM w w2 rb mb v p t cs := by
  have h1 := h.lo
  have h2 := h.hi
  have hno : ∀ k, k ≠ rb → ¬ own1 (some ⟨rb, 0, none⟩) k := by
    rintro k hk ⟨a, ha, hb⟩
    injection ha with ha
    subst ha
    exact hk hb.symm
  exact ⟨hr, (hk.block _ (lt_of_block h.mc) (hno _ (by omega))).trans h.mc, (hk.block _ (lt_of_block h.rc) (hno _ (by omega))).trans h.rc, h.bel.trans (hk.below h.bel.size (by rintro k ⟨a, ha, rfl⟩; injection ha with ha; subst ha; show w.heap.size ≤ rb; omega)), h1, h2, h.vb⟩
theorem RM.set {w w1 : World} {rb mb : Nat} {v : Value} {p : List UInt8} {s : Option (List UInt8)} {cs : List Value} (h : RM w w1 rb mb v p s cs) (i : Nat) (u : Value) : RM w (w1.setCell ⟨mb, i, none⟩ u) rb mb v p s (cs.set i u) := by
  have h1 := h.lo
  have h2 := h.hi
  have hk : Kept (fun k => k = mb) w1 (w1.setCell ⟨mb, i, none⟩ u) := (Kept.refl (fun k => k = mb) w1).setCell (p := ⟨mb, i, none⟩) (.inl rfl) _
  refine ⟨h.rr.keep hk (by omega) (fun hp g hg e => by have := h.vb hp g hg; omega), ?_, (hk.block _ (lt_of_block h.rc) (by omega)).trans h.rc, h.bel.trans (hk.below h.bel.size (fun k hk' => by omega)), h1, h2, h.vb⟩
  have := set_block (i := i) (u := u) h.mc
  rw [List.setIfInBounds_toArray] at this
  exact this
theorem RM.cell {w w1 : World} {rb mb : Nat} {v : Value} {p : List UInt8} {s : Option (List UInt8)} {cs : List Value} (h : RM w w1 rb mb v p s cs) {i : Nat} {u : Value} (hu : cs[i]? = some u) : w1.cell? ⟨mb, i, none⟩ = some u := cellk h.mc (by simpa using hu)

theorem append_row {w : World} {base : Nat} {ps : List (En × Value)} {l : Value} (q : En × Value) (h : w.ownsRow base 29 4 l ps.length (CsE ps)) (hq : ∃ o c, q.2 = .slice o q.1.cl.length c) (hn : ps.length ≤ 65536) (hbase : base ≤ w.heap.size) :
    ∃ o c w2, (Builtin.append_ #[23, 23] 23 #[l, .slice (some ⟨w.heap.size, 0, none⟩) 1 1]).run Try.prog (w.alloc (.cells (cE q).toArray 29)) = .ok (.slice o (ps.length + 1) c) w2 ∧ w2.ownsRow base 29 4 (.slice o (ps.length + 1) c) (ps ++ [q]).length (CsE (ps ++ [q])) ∧ Kept (fun k => l.ownBlock = some k) w w2 := by
  obtain ⟨oq, cq, hqs⟩ := hq
  have hba : Below w.heap.size w (w.alloc (.cells (cE q).toArray 29)) := (Below.refl _ _).alloc (Nat.le_refl _) _
  have hl2 := own_kept h (kept_of_below (S := fun _ => False) hba) (fun _ _ h => h)
  obtain ⟨i0, hi0, hz0, hz1, hz2⟩ := info_parts enInfo
  have hne : ∀ j u, (cE q)[j]? = some u → (w.alloc (.cells (cE q).toArray 29)).cell? ((⟨w.heap.size, 0, none⟩ : Addr).add j) = some u := by
    intro j u hj
    exact World.news_of_block (w := w.alloc (.cells (cE q).toArray 29)) (heap_alloc_new w _) j u (by simpa using hj)
  obtain ⟨v', w2, hr, h2, h3, _, h5⟩ := run_append_own_at (P := Try.prog) (w.alloc (.cells (cE q).toArray 29)) base 23 23 29 i0 _ 4 48 Try.underlying23 hi0 hz0 hz1 hz2 rfl (by decide) l ps.length (CsE ps) hl2 ⟨w.heap.size, 0, none⟩ 1 1 (cE q)
    rfl hne (by
      intro u hu
      simp only [cE, List.mem_cons, List.not_mem_nil, or_false] at hu
      rcases hu with rfl | rfl | rfl | rfl
      · rfl
      · rfl
      · rfl
      · rw [hqs]; rfl) (by unfold maxLen; omega) (by omega) (by simp; omega)
  obtain ⟨o, c, rfl⟩ := own_slice' h2
  have hk : Kept (fun k => l.ownBlock = some k) w w2 := ((kept_of_below hba).weak (T := fun k => l.ownBlock = some k) (fun _ _ hk => hk)).grown h3 (fun k hk => .inl hk)
  refine ⟨o, c, w2, hr, ?_, hk⟩
  rw [show CsE (ps ++ [q]) = CsE ps ++ cE q by simp [CsE], List.length_append]
  exact h2
end Go.Proofs.Ytdofddgodinphaa
