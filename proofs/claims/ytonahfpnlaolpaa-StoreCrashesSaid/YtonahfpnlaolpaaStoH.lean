/- A store in memory; Snap, Save. -/
import Derived.Test.YtonahfpnlaolpaaStoG
namespace Go.Proofs.Ytonahfpnlaolpaa
open Go.RowKit OctM

/-- A store: its drum, the track that counts, the other one, its snapshot. -/
structure Ss where
  d : Dr
  now : Nat
  sp : Nat
  sn : Sn

def saveS (s : Ss) (n : Sn) : Int × Ss :=
  if n.ix ≤ s.sn.ix then (16, s) else if s.d.most < (snB n).length then (13, s) else
    if (wrS s.d s.sp (snB n)).1 ≠ 0 then ((wrS s.d s.sp (snB n)).1, { s with d := (wrS s.d s.sp (snB n)).2 }) else (0, ⟨(wrS s.d s.sp (snB n)).2, s.sp, s.now, n⟩)

/-- A store in memory: at St; X: its drum's blocks; v: its snapshot's bytes; R: all its blocks. -/
structure SAx (w : World) (R X : Nat → Prop) (v : Value) (St D T : Nat) (s : Ss) : Prop where
  dt : Dt w X D T s.d
  cell : w.heap[St]? = some (.cells #[.pointer (some ⟨D, 0, none⟩), .int .i64 (s.now : Int), .int .i64 (s.sp : Int), .int .u64 (s.sn.ix : Int), .int .u64 (s.sn.tm : Int), v] 96 (0, 0))
  own : Own w 0 v s.sn.dat
  sX : ∀ k, X k → R k
  rSt : R St
  nSt : ¬ X St
  rv : ∀ g, v.ownBlock = some g → R g ∧ ¬ X g ∧ g ≠ St
  lt : ∀ k, R k → k < w.heap.size
  fits : Fits s.sn
  lim : s.now ≤ 1000 ∧ s.sp ≤ 1000

def SAt (w : World) (R : Nat → Prop) (St D T : Nat) (s : Ss) : Prop := ∃ X v, SAx w R X v St D T s

theorem SAt.block {w w' : World} {R R' : Nat → Prop} {St D T : Nat} {s : Ss} (h : SAt w R St D T s) (hk : ∀ g, R g → w'.heap[g]? = w.heap[g]?) (_hs : w.heap.size ≤ w'.heap.size) (hR : ∀ k, R k → R' k) (hl : ∀ k, R' k → k < w'.heap.size) : SAt w' R' St D T s := by
  obtain ⟨X, v, h⟩ := h
  exact ⟨X, v, h.dt.block (fun g hg _ => hk g (h.sX g hg)) (fun _ h => h), (hk St h.rSt).trans h.cell, own_block h.own (fun g hg => hk g (h.rv g hg).1), fun k hk => hR k (h.sX k hk), hR _ h.rSt, h.nSt, fun g hg => ⟨hR g (h.rv g hg).1, (h.rv g hg).2⟩, hl, h.fits, h.lim⟩

theorem SAt.below {w w' : World} {R : Nat → Prop} {St D T : Nat} {s : Ss} (h : SAt w R St D T s) (hb : Below w.heap.size w w') : SAt w' R St D T s := by
  have hl : ∀ k, R k → k < w.heap.size := by obtain ⟨X, v, h⟩ := h; exact h.lt
  exact h.block (fun g hg => hb.block g (hl g hg)) hb.size (fun _ h => h) (fun k hk => by have := hl k hk; have := hb.size; omega)

theorem six {W : World} {b : Nat} {x0 x1 x2 x3 x4 x5 : Value} {t : TypeId} (h : W.heap[b]? = some (.cells #[x0, x1, x2, x3, x4, x5] t (0, 0))) :
    W.cell? ⟨b, 0, none⟩ = some x0 ∧ W.cell? ⟨b, 1, none⟩ = some x1 ∧ W.cell? ⟨b, 2, none⟩ = some x2 ∧ W.cell? ⟨b, 3, none⟩ = some x3 ∧ W.cell? ⟨b, 4, none⟩ = some x4 ∧ W.cell? ⟨b, 5, none⟩ = some x5 ∧ b < W.heap.size :=
  ⟨cellk h rfl, cellk h rfl, cellk h rfl, cellk h rfl, cellk h rfl, cellk h rfl, lt_of_block h⟩

set_option maxHeartbeats 4000000 in
set_option maxRecDepth 100000 in
theorem snap_any (w : World) {R : Nat → Prop} {St D T : Nat} {s : Ss} (h : SAt w R St D T s) : Calls Try.prog 26 #[.pointer (some ⟨St, 0, none⟩)] w (SnP w s.sn) := by
  obtain ⟨X, v, h⟩ := h
  obtain ⟨o, c, rfl, -, -⟩ := own_slice h.own
  have hb0 : Below w.heap.size w (w.alloc (.cells #[.int .u64 0, .int .u64 0, .slice none 0 0] 55)) := (Below.refl _ _).alloc (Nat.le_refl _) _
  have hz0 := heap_alloc_new w (.cells #[.int .u64 0, .int .u64 0, .slice none 0 0] 55)
  obtain ⟨-, -, -, c3, c4, c5, hl⟩ := six ((hb0.block St (lt_of_block h.cell)).trans h.cell)
  have hlen := h.fits.dat
  have H1 := Lib.hid (sfresh_any s.sn (.slice o s.sn.dat.length c) _ ((Rd.of_own h.own).below hb0) (by omega))
  have HB0 := Lib.hid hb0
  have HZ0 := Lib.hid hz0
  have hsz0 : (w.alloc (.cells #[.int .u64 0, .int .u64 0, .slice none 0 0] 55)).heap.size = w.heap.size + 1 := by simp
  unfold snV at H1
  clear h hb0 hz0
  go_enter Try.func26, Try.ntmps26
  go_upto_region 1 with fail
  generalize w.alloc (.cells #[.int .u64 0, .int .u64 0, .slice none 0 0] 55) = W at *
  go_wp2_with fail
  refine H1.out.mono ?_
  rintro e w1 ⟨v1, rfl, ho1, hb1⟩
  obtain ⟨o1, c1, rfl, -, -⟩ := own_slice ho1
  have HB1 := Lib.hid (HB0.out.trans (hb1.mono (by omega)))
  have hz1 := (hb1.block w.heap.size (by omega)).trans HZ0.out
  obtain ⟨z0, z1, z2, f0, f1, f2, zl⟩ := kept3 hz1
  have hne : (Value.slice o1 s.sn.dat.length c1).ownBlock ≠ some w.heap.size := fun e => by have := (ho1.lt _ e).1; omega
  have hown := ownsRow_setCell_other (ownsRow_setCell_other (ownsRow_setCell_other (own_base ho1 (by omega : w.heap.size ≤ W.heap.size)) hne (.int .u64 (s.sn.ix : Int)) (a := ⟨w.heap.size, 0, none⟩)) hne (.int .u64 (s.sn.tm : Int)) (a := ⟨w.heap.size, 1, none⟩)) hne (.slice o1 s.sn.dat.length c1) (a := ⟨w.heap.size, 2, none⟩)
  have HO := Lib.hid hown
  clear hz1 hb1 ho1 hown
  unfold snV
  go_wp2_with fail
  refine bodyPost_ret (v := snV s.sn (.slice o1 s.sn.dat.length c1)) (by simp [results, Try.results26, go_sem, z0, z1, z2, snV]) rfl ?_
  refine ⟨_, rfl, HO.out, ((HB1.out.setCell (p := ⟨w.heap.size, 0, none⟩) (Nat.le_refl _) _).setCell (p := ⟨w.heap.size, 1, none⟩) (Nat.le_refl _) _).setCell (p := ⟨w.heap.size, 2, none⟩) (Nat.le_refl _) _⟩
end Go.Proofs.Ytonahfpnlaolpaa
