/- What is handed in beside a store; the document's example (awake). -/
import Derived.Test.YtonahfpnlaolpaaStoL
namespace Go.Proofs.Ytonahfpnlaolpaa
open Go.RowKit OctM

/-- Bytes that stay as they are whatever the store's own blocks become. -/
def Hx (R : Nat → Prop) (w : World) (v : Value) (l : List UInt8) : Prop := ∀ w', Kept R w w' → Rd w' v l

theorem Hx.rd {R : Nat → Prop} {w : World} {v : Value} {l : List UInt8} (h : Hx R w v l) : Rd w v l := h w (Kept.refl _ _)
theorem Hx.low {R : Nat → Prop} {w0 w : World} {v : Value} {l : List UInt8} (h : Rd w0 v l) (hb : Below w0.heap.size w0 w) (hR : ∀ k, R k → w0.heap.size ≤ k) : Hx R w v l := fun w' hk =>
  h.same fun p hp => (World.cell?_of_block (hk.block p.block (Nat.lt_of_lt_of_le hp hb.size) (fun e => by have := hR _ e; omega))).trans (hb.cell hp)
theorem Hx.own {R : Nat → Prop} {w : World} {base : Nat} {v : Value} {l : List UInt8} (h : Own w base v l) (hR : ∀ g, v.ownBlock = some g → ¬ R g) : Hx R w v l := fun _ hk => Rd.of_own (own_kept h hk hR)
theorem Hx.kept {R : Nat → Prop} {w w' : World} {v : Value} {l : List UInt8} (h : Hx R w v l) (hk : Kept R w w') : Hx (Fr R w w') w' v l := fun w'' hk2 =>
  h w'' (hk.step hk2 (fun k hk => by rcases hk with hk | hk; exact .inl hk; exact .inr hk.1))
theorem Hx.below {R : Nat → Prop} {w w' : World} {v : Value} {l : List UInt8} (h : Hx R w v l) (hb : Below w.heap.size w w') : Hx R w' v l := fun w'' hk2 => h w'' ((kept_of_below hb).trans hk2)
theorem Hx.block {R : Nat → Prop} {w : World} {b : Nat} {cs : Array Value} {t : TypeId} {fr : Nat × Nat} {l : List UInt8} (hb : w.heap[b]? = some (.cells cs t fr)) (hcs : cs.toList = Bs l) (hm : l.length ≤ 1000) (hR : ¬ R b) : Hx R w (.slice (some ⟨b, 0, none⟩) l.length l.length) l := fun _ hk =>
  Rd.of_block ((hk.block b (lt_of_block hb) hR).trans hb) hcs hm
theorem Hx.nil (R : Nat → Prop) (w : World) : Hx R w (.slice none 0 0) [] := fun _ _ => .inl ⟨rfl, rfl⟩

theorem SAt.lt {w : World} {R : Nat → Prop} {St D T : Nat} {s : Ss} (h : SAt w R St D T s) : ∀ k, R k → k < w.heap.size := by
  obtain ⟨X, v, h⟩ := h; exact h.lt

theorem pcs_le (n : Nat) (h : n ≤ 1048576) : pcs n ≤ 2098 := by unfold pcs; omega
theorem save_ops (most : Nat) (s : Ss) (n : Sn) (h : s.d.most = most) (hm : most ≤ 1048576) : (saveS s n).2.d.ops ≤ s.d.ops + 2100 := by
  unfold saveS
  split
  · simp
  split
  · simp
  · next hf =>
    have h1 := wrS_ops s.d s.sp (snB n)
    have h2 := pcs_le (snB n).length (by omega)
    split <;> (simp only; omega)

/-- A save that must be done. -/
theorem save_done {most : Nat} {s : Ss} {n : Sn} (h : SG most s) (hm : most ≤ 1048576) (h1 : n.ix < 18446744073709551616) (h2 : n.tm < 18446744073709551616) (hix : s.sn.ix < n.ix) (hlen : n.dat.length + 31 ≤ most) (hf : s.d.fuse = 0) :
    ∃ s', saveS s n = (0, s') ∧ SG most s' ∧ s'.sn = n ∧ s'.d.fuse = 0 ∧ s'.d.ops ≤ s.d.ops + 2100 := by
  have hops := save_ops most s n h.most hm
  have hb := (snB_bound n).2
  cases save_cases most s n h hm h1 h2 with
  | stale a => omega
  | full _ a => omega
  | done _ _ c g e f _ =>
    generalize saveS s n = r at *
    obtain ⟨r1, r2⟩ := r
    dsimp only at c g e f hops
    subst c
    exact ⟨r2, rfl, g, e, f hf, hops⟩
  | cut _ _ _ c => exact absurd hf c

theorem save_ok {most : Nat} (n : Sn) (x : Value) (w : World) {R : Nat → Prop} {St D T : Nat} {s : Ss} (h : SAt w R St D T s) (hg : SG most s) (hm : most ≤ 1048576) (hx : Hx R w x n.dat) (h1 : n.ix < 18446744073709551616) (h2 : n.tm < 18446744073709551616) (hix : s.sn.ix < n.ix) (hlen : n.dat.length + 31 ≤ most) (hf : s.d.fuse = 0) (hops : s.d.ops ≤ 900000) :
    Calls Try.prog 22 #[.pointer (some ⟨St, 0, none⟩), snV n x] w fun e w' => ∃ s', e = .returned (.int .i64 0) ∧ SAt w' (Fr R w w') St D T s' ∧ SG most s' ∧ s'.sn = n ∧ s'.d.fuse = 0 ∧ s'.d.ops ≤ s.d.ops + 2100 ∧ Kept R w w' := by
  obtain ⟨s', e, g1, g2, g3, g4⟩ := save_done hg hm h1 h2 hix hlen hf
  refine (save_any n x w h hx h1 h2 (by omega) hops).mono fun e' w' hp => ?_
  rw [e] at hp
  exact ⟨s', hp.1, hp.2.1, g1, g2, g3, g4, hp.2.2⟩

theorem save_stale (n : Sn) (x : Value) (w : World) {R : Nat → Prop} {St D T : Nat} {s : Ss} (h : SAt w R St D T s) (hx : Hx R w x n.dat) (h1 : n.ix < 18446744073709551616) (h2 : n.tm < 18446744073709551616) (hix : n.ix ≤ s.sn.ix) (hlen : n.dat.length ≤ 100000000) (hops : s.d.ops ≤ 900000) :
    Calls Try.prog 22 #[.pointer (some ⟨St, 0, none⟩), snV n x] w fun e w' => e = .returned (.int .i64 16) ∧ SAt w' (Fr R w w') St D T s ∧ Kept R w w' := by
  have e : saveS s n = (16, s) := if_pos hix
  refine (save_any n x w h hx h1 h2 hlen hops).mono fun e' w' hp => ?_
  rw [e] at hp
  exact hp

theorem Fr.ge {R : Nat → Prop} {w w' : World} {B : Nat} (h : ∀ k, R k → B ≤ k) (hB : B ≤ w.heap.size) : ∀ k, Fr R w w' k → B ≤ k := fun k hk => by
  rcases hk with hk | hk
  · exact h k hk
  · omega

theorem field0 (W : World) (ix tm : Int) (o : Option Addr) (n c : Nat) : (Instr.field 55 (.agg #[.int .u64 ix, .int .u64 tm, .slice o n c]) 0).run Try.prog W = .ok (.int .u64 ix) W := by kernel_rfl
theorem field2 (W : World) (ix tm : Int) (o : Option Addr) (n c : Nat) : (Instr.field 55 (.agg #[.int .u64 ix, .int .u64 tm, .slice o n c]) 2).run Try.prog W = .ok (.slice o n c) W := by kernel_rfl

set_option maxHeartbeats 8000000 in
set_option maxRecDepth 100000 in
theorem awake_any (w : World) : Calls Try.prog 19 #[] w fun e w' => e = .returned (.bool true) ∧ Below w.heap.size w w' := by
  have kc := fun (w : World) (C : Array Value) (n c : Nat) => Lib.run_convert_bytes_const (P := Try.prog) w 22 5 C n c Try.underlying22 Try.underlying5
  have kf := field0
  go_enter Try.func19, Try.ntmps19
  go_wp2_with fail
  refine (sopen_any 2000 w (by omega) (by omega)).mono ?_
  rintro e w1 ⟨D, T, St, rfl, h1, hb1, -⟩
  have H2 := Lib.hid (snap_any w1 h1)
  have HA1 := Lib.hid h1
  have HB1 := Lib.hid hb1
  clear h1 hb1
  go_wp2_with fail
  refine H2.out.mono ?_
  rintro e w2 ⟨v2, rfl, ho2, hb2⟩
  have HB2 := Lib.hid (HB1.out.trans (hb2.mono HB1.out.size))
  have HA2 := Lib.hid (HA1.out.below hb2)
  obtain ⟨o2, c2, rfl, -, -⟩ := own_slice ho2
  clear ho2 hb2 HA1 H2
  unfold snV zs
  go_wp2_with fail
  have hge : ∀ k, w.heap.size ≤ k ∧ k < w1.heap.size → w.heap.size ≤ k := fun k hk => hk.1
  generalize hR : (fun k => w.heap.size ≤ k ∧ k < w1.heap.size) = R at *
  have hge : ∀ k, R k → w.heap.size ≤ k := by subst hR; exact fun k hk => hk.1
  clear hR
  have hs2 := HB2.out.size
  have hb3 : Below w2.heap.size w2 (w2.alloc (.cells #[.int .u8 97] 5 (1, 2))) := (Below.refl _ _).alloc (Nat.le_refl _) _
  have hx3 : Hx R (w2.alloc (.cells #[.int .u8 97] 5 (1, 2))) (.slice (some ⟨w2.heap.size, 0, none⟩) 1 1) [97] := Hx.block (l := [97]) (heap_alloc_new w2 _) rfl (by simp) (fun h => by have := HA2.out.lt _ h; omega)
  have HA3 := Lib.hid (HA2.out.below hb3)
  have HB3 := Lib.hid (HB2.out.trans (hb3.mono hs2))
  generalize hw3 : w2.alloc (.cells #[.int .u8 97] 5 (1, 2)) = w3 at *
  refine (save_ok ⟨3, 0, [97]⟩ _ w3 HA3.out (sg_new 2000) (by omega) hx3 (by decide) (by decide) (by show 0 < 3; omega) (by simp) rfl (by show 0 ≤ 900000; omega)).mono ?_
  rintro e w4 ⟨s4, rfl, ha4, hg4, hn4, hf4, ho4, hk4⟩
  have hs3 := HB3.out.size
  have HB4 := Lib.hid (HB3.out.trans (hk4.below hs3 hge))
  have hge4 := Fr.ge (w' := w4) hge hs3
  have ho4' : s4.d.ops ≤ 3000 := Nat.le_trans ho4 (by show 0 + 2100 ≤ 3000; omega)
  generalize Fr R w3 w4 = R4 at *
  have H5 := Lib.hid (save_stale ⟨3, 0, []⟩ (.slice none 0 0) w4 ha4 (Hx.nil _ _) (by decide) (by decide) (by rw [hn4]; exact Nat.le_refl _) (by simp) (by omega))
  have HG4 := Lib.hid hg4
  clear ha4 hg4 hf4 ho4 hk4 hx3 hb3 hs3
  unfold snV at H5
  go_wp2_with fail
  refine H5.out.mono ?_
  rintro e w5 ⟨rfl, ha5, hk5⟩
  have hs4 := HB4.out.size
  have HB5 := Lib.hid (HB4.out.trans (hk5.below hs4 hge4))
  have H6 := Lib.hid (snap_any w5 ha5)
  clear ha5 hk5 H5
  go_wp2_with fail
  refine H6.out.mono ?_
  rintro e w6 ⟨v6, rfl, ho6, hb6⟩
  have HB6 := Lib.hid (HB5.out.trans (hb6.mono HB5.out.size))
  have hb7 : Below w6.heap.size w6 (w6.alloc (.cells #[.int .u8 97] 5 (1, 2))) := (Below.refl _ _).alloc (Nat.le_refl _) _
  rw [hn4] at ho6
  have H7 := Lib.hid (same_any ⟨3, 0, [97]⟩ ⟨3, 0, [97]⟩ v6 (.slice (some ⟨w6.heap.size, 0, none⟩) 1 1) (w6.alloc (.cells #[.int .u8 97] 5 (1, 2))) ((Rd.of_own ho6).below hb7) (Rd.of_block (l := [97]) (heap_alloc_new w6 _) rfl (by simp)))
  have HB7 := Lib.hid (HB6.out.trans (hb7.mono HB6.out.size))
  rw [hn4]
  rw [sameB_self] at H7
  unfold snV at *
  clear ho6 hb6 hb7 H6
  go_wp2_with fail
  refine H7.out.mono ?_
  rintro e w8 ⟨rfl, hb8⟩
  have HB8 := Lib.hid (HB7.out.trans (hb8.mono HB7.out.size))
  clear hb8 H7
  go_wp2_with fail
  go_ret
  exact ⟨rfl, HB8.out⟩
end Go.Proofs.Ytonahfpnlaolpaa
