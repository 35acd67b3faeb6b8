/- A state copied. -/
import Derived.Test.YtjbailnnaigjbaaBalB
import Derived.Deep.Cut
import Derived.Deep.CutBlock
import Derived.Deep.DeepCutAuto
import Derived.Deep.RegionLaw
import Derived.Deep.RegionHeld3
import Derived.OrdersHeld
import Derived.BigRegion
namespace Go.Proofs.Ytjbailnnaigjbaa
open Go.RowKit OctM

/-- The plain numbers of a state. -/
structure Sc where
  n : Int
  s : Int
  k : Int
  tm : Nat
  vt : Int
  bs : Nat
  bt : Nat
  cm : Nat
  rl : Nat
  ld : Int
  lf : Int

/-- A state's cells. -/
def stC (p : Sc) (d l v n m : Value) : List Value := [.int .i64 p.n, .int .i64 p.s, .int .i64 p.k, .int .u64 (p.tm : Int), .int .i64 p.vt, .int .u64 (p.bs : Int), .int .u64 (p.bt : Int), d, l, .int .u64 (p.cm : Int), .int .u8 (p.rl : Int), .int .i64 p.ld, .int .i64 p.lf, v, n, m]
def stV (p : Sc) (d l v n m : Value) : Value := .agg (stC p d l v n m).toArray

/-- A state of nothing. -/
def zsC : List Value := [.int .i64 0, .int .i64 0, .int .i64 0, .int .u64 0, .int .i64 0, .int .u64 0, .int .u64 0, .slice none 0 0, .slice none 0 0, .int .u64 0, .int .u8 0, .int .i64 0, .int .i64 0, .slice none 0 0, .slice none 0 0, .slice none 0 0]

theorem row_kept (W : World) (b : Nat) (cs : Array Value) : Kept (fun g => g = b) W (W.setRow b cs) :=
  ⟨rfl, rfl, rfl, by simp, fun k _ hk => setRow_other W b k cs hk⟩

/-- What a state's slices are: rows of the call's own. -/
structure StO (w : World) (base : Nat) (D : List UInt8) (ps : List (En × Value)) (vs ns ms : List Value) (d l v n m : Value) : Prop where
  hd : Own w base d D
  hl : OwnL w base l ps
  hv : w.ownsRow base 4 1 v vs.length vs
  hn : w.ownsRow base 32 1 n ns.length ns
  hm : w.ownsRow base 32 1 m ms.length ms
  nm : ∀ g, n.ownBlock = some g → m.ownBlock ≠ some g

theorem StO.kept {S : Nat → Prop} {w w' : World} {base : Nat} {D : List UInt8} {ps : List (En × Value)} {vs ns ms : List Value} {d l v n m : Value} (h : StO w base D ps vs ns ms d l v n m) (hk : Kept S w w') (hS : ∀ k, base ≤ k → ¬ S k) : StO w' base D ps vs ns ms d l v n m :=
  ⟨own_kept h.hd hk (fun g hg => hS g (h.hd.lt g hg).1), h.hl.kept hk (fun g hg => hS g (h.hl.row.lt g hg).1) (fun p hp g hg => hS g ((h.hl.cells p hp).lt g hg).1), own_kept h.hv hk (fun g hg => hS g (h.hv.lt g hg).1), own_kept h.hn hk (fun g hg => hS g (h.hn.lt g hg).1), own_kept h.hm hk (fun g hg => hS g (h.hm.lt g hg).1), h.nm⟩
theorem StO.base {w : World} {base b : Nat} {D : List UInt8} {ps : List (En × Value)} {vs ns ms : List Value} {d l v n m : Value} (h : StO w base D ps vs ns ms d l v n m) (hb : b ≤ base) : StO w b D ps vs ns ms d l v n m :=
  ⟨own_base h.hd hb, h.hl.base hb, own_base h.hv hb, own_base h.hn hb, own_base h.hm hb, h.nm⟩
theorem StO.below {w w' : World} {base : Nat} {D : List UInt8} {ps : List (En × Value)} {vs ns ms : List Value} {d l v n m : Value} (h : StO w base D ps vs ns ms d l v n m) (hb : Below w.heap.size w w') : StO w' base D ps vs ns ms d l v n m :=
  h.kept (kept_of_below (S := fun _ => False) hb) (fun _ _ h => h)

/-- Copy at work: its box, the result's block. -/
structure CpI (w W : World) (cs : List Value) : Prop where
  box : W.heap[w.heap.size]? = some (.cells cs.toArray 41 (0, 0))
  res : W.heap[w.heap.size + 1]? = some (.cells zsC.toArray 41 (0, 0))
  bel : Below w.heap.size w W
theorem CpI.step {w W W1 : World} {cs : List Value} (h : CpI w W cs) (hb : Below W.heap.size W W1) (i : Nat) (u : Value) : CpI w (W1.setCell ⟨w.heap.size, i, none⟩ u) (cs.set i u) := by
  refine ⟨?_, ?_, (h.bel.trans (hb.mono h.bel.size)).setCell (p := ⟨w.heap.size, i, none⟩) (Nat.le_refl _) _⟩
  · have := set_block (i := i) (u := u) ((hb.block _ (lt_of_block h.box)).trans h.box)
    rw [List.setIfInBounds_toArray] at this
    exact this
  · rw [Below.heap_setCell _ _ _ _ (by simp)]
    exact (hb.block _ (lt_of_block h.res)).trans h.res
theorem CpI.facts {w W : World} {cs : List Value} (h : CpI w W cs) (i : Nat) (u : Value) (hu : cs[i]? = some u) : W.cell? ⟨w.heap.size, i, none⟩ = some u ∧ W.frozen? ⟨w.heap.size, i, none⟩ = false ∧ w.heap.size < W.heap.size :=
  ⟨cellk h.box (by simpa using hu), free_of h.box i, lt_of_block h.box⟩
theorem CpI.next {w W W1 : World} {cs : List Value} (h : CpI w W cs) (hb : Below W.heap.size W W1) (i : Nat) (u : Value) (hu : cs[i]? = some u) : W1.cell? ⟨w.heap.size, i, none⟩ = some u ∧ W1.frozen? ⟨w.heap.size, i, none⟩ = false ∧ w.heap.size < W1.heap.size := by
  have h2 := (hb.block _ (lt_of_block h.box)).trans h.box
  exact ⟨cellk h2 (by simpa using hu), free_of h2 i, lt_of_block h2⟩

set_option maxHeartbeats 8000000 in
set_option maxRecDepth 100000 in
theorem copy_any (p : Sc) (base : Nat) (D : List UInt8) (ps : List (En × Value)) (vs ns ms : List Value) (d l v n m : Value) (w : World) (h : StO w base D ps vs ns ms d l v n m) (hD : D.length ≤ 1048576) (hok : ∀ p ∈ ps, p.1.cl.length ≤ 4000) (hl : ps.length ≤ 1000)
    (hvl : vs.length ≤ 1000) (hnl : ns.length ≤ 1000) (hml : ms.length ≤ 1000) (hv1 : ∀ u ∈ vs, u.oneCell' = true) (hn1 : ∀ u ∈ ns, u.oneCell' = true) (hm1 : ∀ u ∈ ms, u.oneCell' = true) :
    Calls Try.prog 40 #[stV p d l v n m] w fun e w' => ∃ d' l' v' n' m' qs, e = .returned (stV p d' l' v' n' m') ∧ qs.map Prod.fst = ps.map Prod.fst ∧ StO w' w.heap.size D qs vs ns ms d' l' v' n' m' ∧ Below w.heap.size w w' := by
  obtain ⟨od, cd, rfl⟩ := own_slice' h.hd
  obtain ⟨ol, cl, rfl⟩ := own_slice' h.hl.row
  obtain ⟨ov, cv, rfl⟩ := own_slice' h.hv
  obtain ⟨on, cn, rfl⟩ := own_slice' h.hn
  obtain ⟨om, cm, rfl⟩ := own_slice' h.hm
  have H := Lib.hid h
  have HP := Lib.hid (And.intro hok (And.intro hv1 (And.intro hn1 hm1)))
  clear h hok hv1 hn1 hm1
  unfold stV stC
  go_enter Try.func40, Try.ntmps40
  go_upto_region 1 with fail
  obtain ⟨W, hW⟩ : ∃ W, ((w.alloc (.cells (stC p (.slice od D.length cd) (.slice ol ps.length cl) (.slice ov vs.length cv) (.slice on ns.length cn) (.slice om ms.length cm)).toArray 41)).alloc (.cells zsC.toArray 41)) = W := ⟨_, rfl⟩
  have h0 : CpI w W (stC p (.slice od D.length cd) (.slice ol ps.length cl) (.slice ov vs.length cv) (.slice on ns.length cn) (.slice om ms.length cm)) := by
    rw [← hW]
    refine ⟨?_, ?_, ((Below.refl _ _).alloc (Nat.le_refl _) _).alloc (by simp) _⟩
    · rw [Below.heap_alloc _ _ _ (by simp)]; exact heap_alloc_new _ _
    · have := heap_alloc_new (w.alloc (.cells (stC p (.slice od D.length cd) (.slice ol ps.length cl) (.slice ov vs.length cv) (.slice on ns.length cn) (.slice om ms.length cm)).toArray 41)) (.cells zsC.toArray 41)
      rw [World.size_alloc] at this
      exact this
  have hO := H.out.below h0.bel
  have H0 := Lib.hid h0
  have HO := Lib.hid hO
  have HC := Lib.hid (clone (.slice od D.length cd) D W (Rd.of_own hO.hd) (by omega))
  obtain ⟨x7, -, xl⟩ := h0.facts 7 _ rfl
  unfold stC zsC at hW
  rw [hW]
  clear hW h0 hO
  have hz0 : w.heap.size + 2 ≤ W.heap.size := lt_of_block H0.out.res
  go_upto_region 2 with (with_reducible refine HC.out.mono ?_; rintro e W1 ⟨d1, rfl, od1, hb1⟩; obtain ⟨od', cd', rfl⟩ := own_slice' od1; obtain ⟨y7, f7, y0⟩ := H0.out.next hb1 7 _ rfl)
  have h1' := H0.out.step hb1 7 (.slice od' D.length cd')
  obtain ⟨X1, hX1⟩ : ∃ X, W1.setCell ⟨w.heap.size, 7, none⟩ (.slice od' D.length cd') = X := ⟨_, rfl⟩
  rw [hX1] at h1' ⊢
  have H1 : Hid (CpI w X1 (stC p (.slice od' D.length cd') (.slice ol ps.length cl) (.slice ov vs.length cv) (.slice on ns.length cn) (.slice om ms.length cm))) := Lib.hid h1'
  have hz1 : W.heap.size ≤ W1.heap.size := hb1.size
  have hs1 : X1.heap.size = W1.heap.size := by rw [← hX1]; simp [World.setCell]
  have hbx1 : Below W.heap.size W W1 := hb1
  have od1 := own_kept (w' := X1) (S := fun g => g = w.heap.size) (own_base od1 (show w.heap.size + 2 ≤ W.heap.size by omega)) (by rw [← hX1]; exact (Kept.refl (fun g => g = w.heap.size) W1).setCell (p := ⟨w.heap.size, 7, none⟩) (.inl rfl) _) (fun g hg e => by have := (od1.lt g hg).1; omega)
  clear hX1 h1' hb1 hbx1 x7 y7 f7 y0 xl HC
  have hO := H.out.below H1.out.bel
  obtain ⟨x8, -, xl⟩ := H1.out.facts 8 _ rfl
  have HC := Lib.hid (copies_any base (.slice ol ps.length cl) ps X1 hO.hl HP.out.1 hl)
  clear hO
  go_upto_region 3 with (with_reducible refine HC.out.mono ?_; rintro e W2 ⟨l1, qs, rfl, hqs, ol1, hb2⟩; obtain ⟨ol', cl', rfl⟩ := own_slice' ol1.row; have hql : qs.length = ps.length := (by have := congrArg List.length hqs; simpa using this); rw [hql] at ol1 ⊢; obtain ⟨y8, f8, y0⟩ := H1.out.next hb2 8 _ rfl)
  have h2' := H1.out.step hb2 8 (.slice ol' ps.length cl')
  obtain ⟨X2, hX2⟩ : ∃ X, W2.setCell ⟨w.heap.size, 8, none⟩ (.slice ol' ps.length cl') = X := ⟨_, rfl⟩
  rw [hX2] at h2' ⊢
  have H2 : Hid (CpI w X2 (stC p (.slice od' D.length cd') (.slice ol' ps.length cl') (.slice ov vs.length cv) (.slice on ns.length cn) (.slice om ms.length cm))) := Lib.hid h2'
  have hz2 : X1.heap.size ≤ W2.heap.size := hb2.size
  have hs2 : X2.heap.size = W2.heap.size := by rw [← hX2]; simp [World.setCell]
  have hbx2 : Below X1.heap.size X1 W2 := hb2
  have od1 := own_kept (w' := X2) (S := fun g => g = w.heap.size) (own_kept od1 (kept_of_below (S := fun _ => False) hbx2) (fun _ _ h => h)) (by rw [← hX2]; exact (Kept.refl (fun g => g = w.heap.size) W2).setCell (p := ⟨w.heap.size, 8, none⟩) (.inl rfl) _) (fun g hg e => by have := (od1.lt g hg).1; omega)
  have ol1 := (OwnL.base ol1 (show w.heap.size + 2 ≤ X1.heap.size by omega)).kept (w' := X2) (S := fun g => g = w.heap.size) (by rw [← hX2]; exact (Kept.refl (fun g => g = w.heap.size) W2).setCell (p := ⟨w.heap.size, 8, none⟩) (.inl rfl) _) (fun g hg e => by have := (ol1.row.lt g hg).1; omega) (fun p hp g hg e => by have := ((ol1.cells p hp).lt g hg).1; omega)
  clear hX2 h2' hb2 hbx2 x8 y8 f8 y0 xl HC
  have hO := H.out.below H2.out.bel
  obtain ⟨x13, -, xl⟩ := H2.out.facts 13 _ rfl
  have HC := Lib.hid (clb base vs.length (.slice ov vs.length cv) vs X2 hO.hv (by omega) HP.out.2.1)
  clear hO
  go_upto_region 4 with (with_reducible refine HC.out.mono ?_; rintro e W3 ⟨v1, rfl, ov1, hb3⟩; obtain ⟨ov', cv', rfl⟩ := own_slice' ov1; obtain ⟨y13, f13, y0⟩ := H2.out.next hb3 13 _ rfl)
  have h3' := H2.out.step hb3 13 (.slice ov' vs.length cv')
  obtain ⟨X3, hX3⟩ : ∃ X, W3.setCell ⟨w.heap.size, 13, none⟩ (.slice ov' vs.length cv') = X := ⟨_, rfl⟩
  rw [hX3] at h3' ⊢
  have H3 : Hid (CpI w X3 (stC p (.slice od' D.length cd') (.slice ol' ps.length cl') (.slice ov' vs.length cv') (.slice on ns.length cn) (.slice om ms.length cm))) := Lib.hid h3'
  have hz3 : X2.heap.size ≤ W3.heap.size := hb3.size
  have hs3 : X3.heap.size = W3.heap.size := by rw [← hX3]; simp [World.setCell]
  have hbx3 : Below X2.heap.size X2 W3 := hb3
  have od1 := own_kept (w' := X3) (S := fun g => g = w.heap.size) (own_kept od1 (kept_of_below (S := fun _ => False) hbx3) (fun _ _ h => h)) (by rw [← hX3]; exact (Kept.refl (fun g => g = w.heap.size) W3).setCell (p := ⟨w.heap.size, 13, none⟩) (.inl rfl) _) (fun g hg e => by have := (od1.lt g hg).1; omega)
  have ol1 := (ol1.kept (kept_of_below (S := fun _ => False) hbx3) (fun _ _ h => h) (fun _ _ _ _ h => h)).kept (w' := X3) (S := fun g => g = w.heap.size) (by rw [← hX3]; exact (Kept.refl (fun g => g = w.heap.size) W3).setCell (p := ⟨w.heap.size, 13, none⟩) (.inl rfl) _) (fun g hg e => by have := (ol1.row.lt g hg).1; omega) (fun p hp g hg e => by have := ((ol1.cells p hp).lt g hg).1; omega)
  have ov1 := own_kept (w' := X3) (S := fun g => g = w.heap.size) (own_base ov1 (show w.heap.size + 2 ≤ X2.heap.size by omega)) (by rw [← hX3]; exact (Kept.refl (fun g => g = w.heap.size) W3).setCell (p := ⟨w.heap.size, 13, none⟩) (.inl rfl) _) (fun g hg e => by have := (ov1.lt g hg).1; omega)
  clear hX3 h3' hb3 hbx3 x13 y13 f13 y0 xl HC
  have hO := H.out.below H3.out.bel
  obtain ⟨x14, -, xl⟩ := H3.out.facts 14 _ rfl
  have HC := Lib.hid (clu base ns.length (.slice on ns.length cn) ns X3 hO.hn (by omega) HP.out.2.2.1)
  clear hO
  go_upto_region 5 with (with_reducible refine HC.out.mono ?_; rintro e W4 ⟨n1, rfl, on1, hb4⟩; obtain ⟨on', cn', rfl⟩ := own_slice' on1; obtain ⟨y14, f14, y0⟩ := H3.out.next hb4 14 _ rfl)
  have h4' := H3.out.step hb4 14 (.slice on' ns.length cn')
  obtain ⟨X4, hX4⟩ : ∃ X, W4.setCell ⟨w.heap.size, 14, none⟩ (.slice on' ns.length cn') = X := ⟨_, rfl⟩
  rw [hX4] at h4' ⊢
  have H4 : Hid (CpI w X4 (stC p (.slice od' D.length cd') (.slice ol' ps.length cl') (.slice ov' vs.length cv') (.slice on' ns.length cn') (.slice om ms.length cm))) := Lib.hid h4'
  have hz4 : X3.heap.size ≤ W4.heap.size := hb4.size
  have hs4 : X4.heap.size = W4.heap.size := by rw [← hX4]; simp [World.setCell]
  have hbx4 : Below X3.heap.size X3 W4 := hb4
  have od1 := own_kept (w' := X4) (S := fun g => g = w.heap.size) (own_kept od1 (kept_of_below (S := fun _ => False) hbx4) (fun _ _ h => h)) (by rw [← hX4]; exact (Kept.refl (fun g => g = w.heap.size) W4).setCell (p := ⟨w.heap.size, 14, none⟩) (.inl rfl) _) (fun g hg e => by have := (od1.lt g hg).1; omega)
  have ol1 := (ol1.kept (kept_of_below (S := fun _ => False) hbx4) (fun _ _ h => h) (fun _ _ _ _ h => h)).kept (w' := X4) (S := fun g => g = w.heap.size) (by rw [← hX4]; exact (Kept.refl (fun g => g = w.heap.size) W4).setCell (p := ⟨w.heap.size, 14, none⟩) (.inl rfl) _) (fun g hg e => by have := (ol1.row.lt g hg).1; omega) (fun p hp g hg e => by have := ((ol1.cells p hp).lt g hg).1; omega)
  have ov1 := own_kept (w' := X4) (S := fun g => g = w.heap.size) (own_kept ov1 (kept_of_below (S := fun _ => False) hbx4) (fun _ _ h => h)) (by rw [← hX4]; exact (Kept.refl (fun g => g = w.heap.size) W4).setCell (p := ⟨w.heap.size, 14, none⟩) (.inl rfl) _) (fun g hg e => by have := (ov1.lt g hg).1; omega)
  have hnlt : ∀ g, (Value.slice on' ns.length cn').ownBlock = some g → g < X4.heap.size := fun g hg => by have := (on1.lt g hg).2; omega
  have on1 := own_kept (w' := X4) (S := fun g => g = w.heap.size) (own_base on1 (show w.heap.size + 2 ≤ X3.heap.size by omega)) (by rw [← hX4]; exact (Kept.refl (fun g => g = w.heap.size) W4).setCell (p := ⟨w.heap.size, 14, none⟩) (.inl rfl) _) (fun g hg e => by have := (on1.lt g hg).1; omega)
  clear hX4 h4' hb4 hbx4 x14 y14 f14 y0 xl HC
  have hO := H.out.below H4.out.bel
  obtain ⟨x15, -, xl⟩ := H4.out.facts 15 _ rfl
  have HC := Lib.hid (clu base ms.length (.slice om ms.length cm) ms X4 hO.hm (by omega) HP.out.2.2.2)
  clear hO
  go_upto_region 6 with (with_reducible refine HC.out.mono ?_; rintro e W5 ⟨m1, rfl, om1, hb5⟩; obtain ⟨om', cm', rfl⟩ := own_slice' om1; obtain ⟨y15, f15, y0⟩ := H4.out.next hb5 15 _ rfl)
  have h5' := H4.out.step hb5 15 (.slice om' ms.length cm')
  obtain ⟨X5, hX5⟩ : ∃ X, W5.setCell ⟨w.heap.size, 15, none⟩ (.slice om' ms.length cm') = X := ⟨_, rfl⟩
  rw [hX5] at h5' ⊢
  have H5 : Hid (CpI w X5 (stC p (.slice od' D.length cd') (.slice ol' ps.length cl') (.slice ov' vs.length cv') (.slice on' ns.length cn') (.slice om' ms.length cm'))) := Lib.hid h5'
  have hz5 : X4.heap.size ≤ W5.heap.size := hb5.size
  have hs5 : X5.heap.size = W5.heap.size := by rw [← hX5]; simp [World.setCell]
  have hbx5 : Below X4.heap.size X4 W5 := hb5
  have od1 := own_kept (w' := X5) (S := fun g => g = w.heap.size) (own_kept od1 (kept_of_below (S := fun _ => False) hbx5) (fun _ _ h => h)) (by rw [← hX5]; exact (Kept.refl (fun g => g = w.heap.size) W5).setCell (p := ⟨w.heap.size, 15, none⟩) (.inl rfl) _) (fun g hg e => by have := (od1.lt g hg).1; omega)
  have ol1 := (ol1.kept (kept_of_below (S := fun _ => False) hbx5) (fun _ _ h => h) (fun _ _ _ _ h => h)).kept (w' := X5) (S := fun g => g = w.heap.size) (by rw [← hX5]; exact (Kept.refl (fun g => g = w.heap.size) W5).setCell (p := ⟨w.heap.size, 15, none⟩) (.inl rfl) _) (fun g hg e => by have := (ol1.row.lt g hg).1; omega) (fun p hp g hg e => by have := ((ol1.cells p hp).lt g hg).1; omega)
  have ov1 := own_kept (w' := X5) (S := fun g => g = w.heap.size) (own_kept ov1 (kept_of_below (S := fun _ => False) hbx5) (fun _ _ h => h)) (by rw [← hX5]; exact (Kept.refl (fun g => g = w.heap.size) W5).setCell (p := ⟨w.heap.size, 15, none⟩) (.inl rfl) _) (fun g hg e => by have := (ov1.lt g hg).1; omega)
  have on1 := own_kept (w' := X5) (S := fun g => g = w.heap.size) (own_kept on1 (kept_of_below (S := fun _ => False) hbx5) (fun _ _ h => h)) (by rw [← hX5]; exact (Kept.refl (fun g => g = w.heap.size) W5).setCell (p := ⟨w.heap.size, 15, none⟩) (.inl rfl) _) (fun g hg e => by have := (on1.lt g hg).1; omega)
  have hmge : ∀ g, (Value.slice om' ms.length cm').ownBlock = some g → X4.heap.size ≤ g := fun g hg => (om1.lt g hg).1
  have om1 := own_kept (w' := X5) (S := fun g => g = w.heap.size) (own_base om1 (show w.heap.size + 2 ≤ X4.heap.size by omega)) (by rw [← hX5]; exact (Kept.refl (fun g => g = w.heap.size) W5).setCell (p := ⟨w.heap.size, 15, none⟩) (.inl rfl) _) (fun g hg e => by have := (om1.lt g hg).1; omega)
  clear hX5 h5' hb5 hbx5 x15 y15 f15 y0 xl HC
  have hst : StO X5 (w.heap.size + 2) D qs vs ns ms (.slice od' D.length cd') (.slice ol' ps.length cl') (.slice ov' vs.length cv') (.slice on' ns.length cn') (.slice om' ms.length cm') := ⟨od1, ol1, ov1, on1, om1, fun g hg e => by have := hnlt g hg; have := hmge g e; omega⟩
  have HST := Lib.hid hst
  have HQS := Lib.hid hqs
  clear hst od1 ol1 ov1 on1 om1 hnlt hmge hqs
  obtain ⟨c0, -, xl⟩ := H5.out.facts 0 _ rfl
  obtain ⟨c1, -, xl⟩ := H5.out.facts 1 _ rfl
  obtain ⟨c2, -, xl⟩ := H5.out.facts 2 _ rfl
  obtain ⟨c3, -, xl⟩ := H5.out.facts 3 _ rfl
  obtain ⟨c4, -, xl⟩ := H5.out.facts 4 _ rfl
  obtain ⟨c5, -, xl⟩ := H5.out.facts 5 _ rfl
  obtain ⟨c6, -, xl⟩ := H5.out.facts 6 _ rfl
  obtain ⟨c7, -, xl⟩ := H5.out.facts 7 _ rfl
  obtain ⟨c8, -, xl⟩ := H5.out.facts 8 _ rfl
  obtain ⟨c9, -, xl⟩ := H5.out.facts 9 _ rfl
  obtain ⟨c10, -, xl⟩ := H5.out.facts 10 _ rfl
  obtain ⟨c11, -, xl⟩ := H5.out.facts 11 _ rfl
  obtain ⟨c12, -, xl⟩ := H5.out.facts 12 _ rfl
  obtain ⟨c13, -, xl⟩ := H5.out.facts 13 _ rfl
  obtain ⟨c14, -, xl⟩ := H5.out.facts 14 _ rfl
  obtain ⟨c15, -, xl⟩ := H5.out.facts 15 _ rfl
  go_wp2_with (refine wpList_store_row rfl 41 (.tmp 2) (.tmp 23) rfl (w.heap.size + 1) (stC p (.slice od' D.length cd') (.slice ol' ps.length cl') (.slice ov' vs.length cv') (.slice on' ns.length cn') (.slice om' ms.length cm')).toArray rfl rfl 41 _ H5.out.res (by kernel_rfl) rfl (by simp [stC, Value.oneCell']) ?_)
  clear c0 c1 c2 c3 c4 c5 c6 c7 c8 c9 c10 c11 c12 c13 c14 c15
  have hf := setRow_heap X5 (w.heap.size + 1) _ (stC p (.slice od' D.length cd') (.slice ol' ps.length cl') (.slice ov' vs.length cv') (.slice on' ns.length cn') (.slice om' ms.length cm')).toArray 41 (0, 0) H5.out.res
  have hk := row_kept X5 (w.heap.size + 1) (stC p (.slice od' D.length cd') (.slice ol' ps.length cl') (.slice ov' vs.length cv') (.slice on' ns.length cn') (.slice om' ms.length cm')).toArray
  generalize X5.setRow (w.heap.size + 1) (stC p (.slice od' D.length cd') (.slice ol' ps.length cl') (.slice ov' vs.length cv') (.slice on' ns.length cn') (.slice om' ms.length cm')).toArray = Xf at *
  have hst := (HST.out.kept hk (fun g hg e => by omega))
  have hbl := H5.out.bel.trans (hk.below H5.out.bel.size (fun g e => by omega))
  have HST2 := Lib.hid (hst.base (show w.heap.size ≤ w.heap.size + 2 by omega))
  have HBL := Lib.hid hbl
  have r0 := cellk (i := 0) hf rfl
  have r1 := cellk (i := 1) hf rfl
  have r2 := cellk (i := 2) hf rfl
  have r3 := cellk (i := 3) hf rfl
  have r4 := cellk (i := 4) hf rfl
  have r5 := cellk (i := 5) hf rfl
  have r6 := cellk (i := 6) hf rfl
  have r7 := cellk (i := 7) hf rfl
  have r8 := cellk (i := 8) hf rfl
  have r9 := cellk (i := 9) hf rfl
  have r10 := cellk (i := 10) hf rfl
  have r11 := cellk (i := 11) hf rfl
  have r12 := cellk (i := 12) hf rfl
  have r13 := cellk (i := 13) hf rfl
  have r14 := cellk (i := 14) hf rfl
  have r15 := cellk (i := 15) hf rfl
  clear hf hk hst hbl
  go_wp2_with fail
  refine bodyPost_ret (v := .agg #[.int .i64 p.n, .int .i64 p.s, .int .i64 p.k, .int .u64 (p.tm : Int), .int .i64 p.vt, .int .u64 (p.bs : Int), .int .u64 (p.bt : Int), (.slice od' D.length cd'), (.slice ol' ps.length cl'), .int .u64 (p.cm : Int), .int .u8 (p.rl : Int), .int .i64 p.ld, .int .i64 p.lf, (.slice ov' vs.length cv'), (.slice on' ns.length cn'), (.slice om' ms.length cm')]) (by simp [results, Try.results40, go_sem, r0, r1, r2, r3, r4, r5, r6, r7, r8, r9, r10, r11, r12, r13, r14, r15, stC]) rfl ⟨_, _, _, _, _, qs, rfl, HQS.out, HST2.out, HBL.out⟩
end Go.Proofs.Ytjbailnnaigjbaa
