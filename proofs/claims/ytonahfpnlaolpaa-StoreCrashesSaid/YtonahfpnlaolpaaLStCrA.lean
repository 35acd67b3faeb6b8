/- StoreCrashes: what holds at a round's head, and beside the boxes. -/
import Derived.Test.YtonahfpnlaolpaaLStPlays
namespace Go.Proofs.Ytonahfpnlaolpaa
open Go.RowKit OctM

/-- At a round's head: the store at work, and the law's own snapshot in the box b5. -/
structure CL (w w1 : World) (D T b5 m St : Nat) (R : Nat → Prop) (s : Ss) (vo : Option Addr) (vc : Nat) (W : World) : Prop where
  at_ : SAt W R St D T s
  sg : SG 20000 s
  ops : s.d.ops ≤ 3000 * (m + 1)
  box : W.heap[b5]? = some (.cells #[.int .u64 (s.sn.ix : Int), .int .u64 (s.sn.tm : Int), .slice vo s.sn.dat.length vc] 55 (0, 0))
  hx : Hx (fun k => R k ∨ k = b5) W (.slice vo s.sn.dat.length vc) s.sn.dat
  nb : ¬ R b5
  ge : ∀ k, R k → w1.heap.size ≤ k
  bel : Below w.heap.size w W
  b5ge : w1.heap.size ≤ b5
  low : w1.heap.size ≤ W.heap.size

theorem CL.below {w w1 W W' : World} {D T b5 m St : Nat} {R : Nat → Prop} {s : Ss} {vo : Option Addr} {vc : Nat} (h : CL w w1 D T b5 m St R s vo vc W) (hw : w.heap.size ≤ w1.heap.size) (hb : Below W.heap.size W W') : CL w w1 D T b5 m St R s vo vc W' :=
  ⟨h.at_.below hb, h.sg, h.ops, (hb.block b5 (lt_of_block h.box)).trans h.box, h.hx.below hb, h.nb, h.ge, h.bel.trans (hb.mono (by have := h.low; omega)), h.b5ge, Nat.le_trans h.low hb.size⟩
theorem CL.drew {w w1 W : World} {D T b5 m St : Nat} {R : Nat → Prop} {s : Ss} {vo : Option Addr} {vc : Nat} (h : CL w w1 D T b5 m St R s vo vc W) (hw : w.heap.size ≤ w1.heap.size) : CL w w1 D T b5 m St R s vo vc W.drew := h.below hw (kept_draw W)
theorem CL.more {w w1 W : World} {D T b5 m m' St : Nat} {R : Nat → Prop} {s : Ss} {vo : Option Addr} {vc : Nat} (h : CL w w1 D T b5 m St R s vo vc W) (hm : m ≤ m') : CL w w1 D T b5 m' St R s vo vc W :=
  ⟨h.at_, h.sg, Nat.le_trans h.ops (by omega), h.box, h.hx, h.nb, h.ge, h.bel, h.b5ge, h.low⟩

theorem CL.new {w w1 W W' : World} {D T b5 m St St' : Nat} {R : Nat → Prop} {s s' : Ss} {vo : Option Addr} {vc : Nat} (h : CL w w1 D T b5 m St R s vo vc W) (hw : w.heap.size ≤ w1.heap.size) (ha : SAt W' (Fr R W W') St' D T s') (hk : Kept R W W')
    (hsn : s'.sn = s.sn) (hg : SG 20000 s') (ho : s'.d.ops ≤ s.d.ops) : CL w w1 D T b5 m St' (Fr R W W') s' vo vc W' := by
  have hs := hk.size
  have hb := lt_of_block h.box
  have hl := h.low
  exact ⟨ha, hg, Nat.le_trans ho h.ops, by rw [hsn]; exact (hk.block b5 hb h.nb).trans h.box, by rw [hsn]; exact (h.hx.kept (hk.weak fun k _ hk => .inl hk)).sub (fun k hk => by rcases hk with (hk | hk) | hk; exact .inl (.inl hk); exact .inr hk; exact .inl (.inr hk)), Fr.out h.nb hb, Fr.ge h.ge hl, h.bel.trans (hk.below (by omega) (fun k hk => by have := h.ge k hk; omega)), h.b5ge, by omega⟩

/-- The law's snapshot set anew, the store as it is. -/
theorem CL.set {w w1 W' : World} {D T b5 m St : Nat} {R : Nat → Prop} {s' : Ss} {vo' : Option Addr} {vc' : Nat} (ha : SAt W' R St D T s') (hg : SG 20000 s') (ho : s'.d.ops ≤ 3000 * (m + 1)) (hnb : ¬ R b5) (hge : ∀ k, R k → w1.heap.size ≤ k) (hbel : Below w.heap.size w W') (hb5 : w1.heap.size ≤ b5) (hlow : w1.heap.size ≤ W'.heap.size) (hw : w.heap.size ≤ w1.heap.size)
    {x0 x1 x2 : Value} (hbx : W'.heap[b5]? = some (.cells #[x0, x1, x2] 55 (0, 0))) (hx : Hx (fun k => R k ∨ k = b5) W' (.slice vo' s'.sn.dat.length vc') s'.sn.dat) :
    CL w w1 D T b5 m St R s' vo' vc' (((W'.setCell ⟨b5, 0, none⟩ (.int .u64 (s'.sn.ix : Int))).setCell ⟨b5, 1, none⟩ (.int .u64 (s'.sn.tm : Int))).setCell ⟨b5, 2, none⟩ (.slice vo' s'.sn.dat.length vc')) := by
  have hsz : (((W'.setCell ⟨b5, 0, none⟩ (.int .u64 (s'.sn.ix : Int))).setCell ⟨b5, 1, none⟩ (.int .u64 (s'.sn.tm : Int))).setCell ⟨b5, 2, none⟩ (.slice vo' s'.sn.dat.length vc')).heap.size = W'.heap.size := by simp [World.setCell]
  refine ⟨((ha.beside hnb 0 _).beside hnb 1 _).beside hnb 2 _, hg, ho, ?_, ?_, hnb, hge, ((hbel.setCell (p := ⟨b5, 0, none⟩) (by show w.heap.size ≤ b5; omega) _).setCell (p := ⟨b5, 1, none⟩) (by show w.heap.size ≤ b5; omega) _).setCell (p := ⟨b5, 2, none⟩) (by show w.heap.size ≤ b5; omega) _, hb5, by rw [hsz]; omega⟩
  · simp [World.setCell, Array.getElem?_modify, hbx]
  · intro w3 hk3
    refine hx w3 ((((Kept.refl (fun k => k = b5) W').setCell (p := ⟨b5, 0, none⟩) (.inl rfl) _).setCell (p := ⟨b5, 1, none⟩) (.inl rfl) _).setCell (p := ⟨b5, 2, none⟩) (.inl rfl) _ |>.weak (T := fun k => R k ∨ k = b5) (fun k _ hk => .inr hk) |>.trans hk3)

/-- Behind a call: the boxes b5 (the last one that was saved), b8 (the one whose saving was cut), the act. -/
structure TL (w w1 : World) (D T b5 b8 ba St : Nat) (R : Nat → Prop) (s' : Ss) (s0 n0 : Sn) (vo : Option Addr) (vc : Nat) (vo8 : Option Addr) (vc8 : Nat) (ac : Array Value) (W : World) : Prop where
  at_ : SAt W R St D T s'
  box5 : W.heap[b5]? = some (.cells #[.int .u64 (s0.ix : Int), .int .u64 (s0.tm : Int), .slice vo s0.dat.length vc] 55 (0, 0))
  hx5 : Hx (fun k => R k ∨ k = b5) W (.slice vo s0.dat.length vc) s0.dat
  box8 : W.heap[b8]? = some (.cells #[.int .u64 (n0.ix : Int), .int .u64 (n0.tm : Int), .slice vo8 n0.dat.length vc8] 55 (0, 0))
  hx8 : Hx (fun k => R k ∨ k = b5) W (.slice vo8 n0.dat.length vc8) n0.dat
  act : W.heap[ba]? = some (.cells ac 58 (0, 0))
  nb5 : ¬ R b5
  nb8 : ¬ R b8
  nba : ¬ R ba
  ge : ∀ k, R k → w1.heap.size ≤ k
  bel : Below w.heap.size w W
  b5ge : w1.heap.size ≤ b5
  low : w1.heap.size ≤ W.heap.size

theorem TL.new {w w1 W W' : World} {D T b5 b8 ba St St' : Nat} {R : Nat → Prop} {s' s2 : Ss} {s0 n0 : Sn} {vo vo8 : Option Addr} {vc vc8 : Nat} {ac : Array Value} (h : TL w w1 D T b5 b8 ba St R s' s0 n0 vo vc vo8 vc8 ac W) (hw : w.heap.size ≤ w1.heap.size) (ha : SAt W' (Fr R W W') St' D T s2) (hk : Kept R W W') :
    TL w w1 D T b5 b8 ba St' (Fr R W W') s2 s0 n0 vo vc vo8 vc8 ac W' := by
  have hs := hk.size
  have hl := h.low
  have hsub : ∀ k, (Fr R W W' k ∨ k = b5) → Fr (fun k => R k ∨ k = b5) W W' k := fun k hk => by
    rcases hk with (hk | hk) | hk
    · exact .inl (.inl hk)
    · exact .inr hk
    · exact .inl (.inr hk)
  exact ⟨ha, (hk.block b5 (lt_of_block h.box5) h.nb5).trans h.box5, (h.hx5.kept (hk.weak fun k _ hk => .inl hk)).sub hsub, (hk.block b8 (lt_of_block h.box8) h.nb8).trans h.box8, (h.hx8.kept (hk.weak fun k _ hk => .inl hk)).sub hsub, (hk.block ba (lt_of_block h.act) h.nba).trans h.act,
    Fr.out h.nb5 (lt_of_block h.box5), Fr.out h.nb8 (lt_of_block h.box8), Fr.out h.nba (lt_of_block h.act), Fr.ge h.ge hl, h.bel.trans (hk.below (by omega) (fun k hk => by have := h.ge k hk; omega)), h.b5ge, by omega⟩

theorem TL.below {w w1 W W' : World} {D T b5 b8 ba St : Nat} {R : Nat → Prop} {s' : Ss} {s0 n0 : Sn} {vo vo8 : Option Addr} {vc vc8 : Nat} {ac : Array Value} (h : TL w w1 D T b5 b8 ba St R s' s0 n0 vo vc vo8 vc8 ac W) (hw : w.heap.size ≤ w1.heap.size) (hb : Below W.heap.size W W') :
    TL w w1 D T b5 b8 ba St R s' s0 n0 vo vc vo8 vc8 ac W' :=
  ⟨h.at_.below hb, (hb.block b5 (lt_of_block h.box5)).trans h.box5, h.hx5.below hb, (hb.block b8 (lt_of_block h.box8)).trans h.box8, h.hx8.below hb, (hb.block ba (lt_of_block h.act)).trans h.act, h.nb5, h.nb8, h.nba, h.ge, h.bel.trans (hb.mono (by have := h.low; omega)), h.b5ge, Nat.le_trans h.low hb.size⟩

theorem set3_kept (W : World) (b : Nat) (x y z : Value) : Kept (fun k => k = b) W (((W.setCell ⟨b, 0, none⟩ x).setCell ⟨b, 1, none⟩ y).setCell ⟨b, 2, none⟩ z) :=
  ((((Kept.refl (fun k => k = b) W).setCell (p := ⟨b, 0, none⟩) (.inl rfl) _).setCell (p := ⟨b, 1, none⟩) (.inl rfl) _).setCell (p := ⟨b, 2, none⟩) (.inl rfl) _)
theorem set3_other (W : World) {b c : Nat} (x y z : Value) (h : c ≠ b) : (((W.setCell ⟨b, 0, none⟩ x).setCell ⟨b, 1, none⟩ y).setCell ⟨b, 2, none⟩ z).heap[c]? = W.heap[c]? := (heap_setCell_other _ _ _ _ h).trans ((heap_setCell_other _ _ _ _ h).trans (heap_setCell_other _ _ _ _ h))
theorem set3_box {W : World} {b : Nat} {x0 x1 x2 : Value} {t : TypeId} {fr : Nat × Nat} (x y z : Value) (h : W.heap[b]? = some (.cells #[x0, x1, x2] t fr)) : (((W.setCell ⟨b, 0, none⟩ x).setCell ⟨b, 1, none⟩ y).setCell ⟨b, 2, none⟩ z).heap[b]? = some (.cells #[x, y, z] t fr) := by
  simp [World.setCell, Array.getElem?_modify, h]
theorem set3_size (W : World) (b : Nat) (x y z : Value) : (((W.setCell ⟨b, 0, none⟩ x).setCell ⟨b, 1, none⟩ y).setCell ⟨b, 2, none⟩ z).heap.size = W.heap.size := by simp [World.setCell]
theorem set3_below {w W : World} {b : Nat} (x y z : Value) (h : Below w.heap.size w W) (hb : w.heap.size ≤ b) : Below w.heap.size w (((W.setCell ⟨b, 0, none⟩ x).setCell ⟨b, 1, none⟩ y).setCell ⟨b, 2, none⟩ z) :=
  ((h.setCell (p := ⟨b, 0, none⟩) hb _).setCell (p := ⟨b, 1, none⟩) hb _).setCell (p := ⟨b, 2, none⟩) hb _

/-- A block that was made behind it is no block of the argument's. -/
theorem Hx.add {P : Nat → Prop} {w w' : World} {v : Value} {l : List UInt8} {b : Nat} (h : Hx P w v l) (hb : Below w.heap.size w w') (hbn : w.heap.size ≤ b) : Hx (fun k => P k ∨ k = b) w' v l := fun w3 hk =>
  h w3 (Kept.step (kept_of_below hb) hk fun k hk => by
    rcases hk with hk | rfl
    · exact .inl hk
    · exact .inr hbn)
theorem Hx.past {P : Nat → Prop} {w w' : World} {v : Value} {l : List UInt8} {b : Nat} (h : Hx (fun k => P k ∨ k = b) w v l) (hk : Kept (fun k => k = b) w w') : Hx P w' v l := fun w3 hk3 =>
  h w3 (Kept.step (hk.weak fun _k _ hk => .inr hk) hk3 fun _k hk => .inl (.inl hk))
theorem Hx.fr2 {R : Nat → Prop} {w w' : World} {v : Value} {l : List UInt8} {b c : Nat} (h : Hx (fun k => (R k ∨ k = b) ∨ k = c) w v l) (hk : Kept R w w') : Hx (fun k => (Fr R w w' k ∨ k = b) ∨ k = c) w' v l :=
  (h.kept (hk.weak fun k _ hk => .inl (.inl hk))).sub fun k hk => by
    rcases hk with ((hk | hk) | hk) | hk
    · exact .inl (.inl (.inl hk))
    · exact .inr hk
    · exact .inl (.inl (.inr hk))
    · exact .inl (.inr hk)

theorem TL.of {w w1 W : World} {D T b5 b8 ba m St : Nat} {R : Nat → Prop} {s : Ss} {n0 : Sn} {vo vo8 : Option Addr} {vc vc8 : Nat} {ac : Array Value} (h : CL w w1 D T b5 m St R s vo vc W)
    (h8 : W.heap[b8]? = some (.cells #[.int .u64 (n0.ix : Int), .int .u64 (n0.tm : Int), .slice vo8 n0.dat.length vc8] 55 (0, 0))) (hx8 : Hx (fun k => R k ∨ k = b5) W (.slice vo8 n0.dat.length vc8) n0.dat) (hac : W.heap[ba]? = some (.cells ac 58 (0, 0))) (nb8 : ¬ R b8) (nba : ¬ R ba) :
    TL w w1 D T b5 b8 ba St R s s.sn n0 vo vc vo8 vc8 ac W := ⟨h.at_, h.box, h.hx, h8, hx8, hac, h.nb, nb8, nba, h.ge, h.bel, h.b5ge, h.low⟩

/-- The snapshot that is being saved, laid into the box b8. -/
theorem TL.cut {w w1 W : World} {D T b5 b8 ba St : Nat} {R : Nat → Prop} {s' : Ss} {s0 n0 : Sn} {vo vo8 : Option Addr} {vc vc8 : Nat} {ac : Array Value} (hw : w.heap.size ≤ w1.heap.size) (ha : SAt W R St D T s')
    (h5 : W.heap[b5]? = some (.cells #[.int .u64 (s0.ix : Int), .int .u64 (s0.tm : Int), .slice vo s0.dat.length vc] 55 (0, 0))) (hx5 : Hx (fun k => (R k ∨ k = b5) ∨ k = b8) W (.slice vo s0.dat.length vc) s0.dat)
    {x0 x1 x2 : Value} (h8 : W.heap[b8]? = some (.cells #[x0, x1, x2] 55 (0, 0))) (hx8 : Hx (fun k => (R k ∨ k = b5) ∨ k = b8) W (.slice vo8 n0.dat.length vc8) n0.dat) (hac : W.heap[ba]? = some (.cells ac 58 (0, 0)))
    (nb5 : ¬ R b5) (nb8 : ¬ R b8) (nba : ¬ R ba) (n58 : b5 ≠ b8) (na8 : ba ≠ b8) (hge : ∀ k, R k → w1.heap.size ≤ k) (hbel : Below w.heap.size w W) (hb5 : w1.heap.size ≤ b5) (hb8 : w1.heap.size ≤ b8) (hlow : w1.heap.size ≤ W.heap.size) :
    TL w w1 D T b5 b8 ba St R s' s0 n0 vo vc vo8 vc8 ac (((W.setCell ⟨b8, 0, none⟩ (.int .u64 (n0.ix : Int))).setCell ⟨b8, 1, none⟩ (.int .u64 (n0.tm : Int))).setCell ⟨b8, 2, none⟩ (.slice vo8 n0.dat.length vc8)) :=
  ⟨((ha.beside nb8 0 _).beside nb8 1 _).beside nb8 2 _, (set3_other W _ _ _ n58).trans h5, hx5.past (set3_kept _ _ _ _ _), set3_box _ _ _ h8, hx8.past (set3_kept _ _ _ _ _), (set3_other W _ _ _ na8).trans hac, nb5, nb8, nba, hge, set3_below _ _ _ hbel (by omega), hb5, by rw [set3_size]; exact hlow⟩

theorem opened_fuse (d : Dr) (k : Nat) : opened { d with fuse := k } = { opened d with d := { d with fuse := k } } := by
  unfold opened
  dsimp only
  split <;> rfl
theorem opened_d (d : Dr) : (opened d).d = d := by
  unfold opened
  split <;> rfl
theorem SG.armed {most : Nat} {s : Ss} (h : SG most s) (k : Nat) : SG most { s with d := { s.d with fuse := k } } := ⟨h.n, h.most, h.off, h.ns, h.set, h.rd, h.less, h.fits⟩

/-- After any fall, the store that is opened is at rest, and has one of the two. -/
def Falls (s' : Ss) (s0 n0 : Sn) : Prop := ∀ cuts, SG 20000 (opened (restartS s'.d cuts)) ∧ ((opened (restartS s'.d cuts)).sn = s0 ∨ (opened (restartS s'.d cuts)).sn = n0)
theorem Falls.of (s : Ss) (h : SG 20000 s) : Falls s s.sn s.sn := fun cuts => by
  obtain ⟨-, -, e, g⟩ := h.restart cuts
  rw [e]
  exact ⟨g, .inl rfl⟩
theorem restart_ops (d : Dr) (cuts : List Int) : (restartS d cuts).ops = d.ops := rfl

end Go.Proofs.Ytonahfpnlaolpaa
