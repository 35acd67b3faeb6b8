/- One node of one: a tick that it waits. -/
import Derived.Test.YtjbailnnaigjbaaBalK
import Derived.Deep.WholeRow
namespace Go.Proofs.Ytjbailnnaigjbaa
open Go.RowKit OctM

set_option maxHeartbeats 8000000 in
set_option maxRecDepth 100000 in
theorem tick_any (p P2 : Sc) (L2 : List En) (V2 N2 M2 : List Value) (base : Nat) (draw : Int) (b : Bool) (zn zm : Nat) (d l v n m : Value) (w : World) (h : StO w base [] [] [.bool b] [Wd zn] [Wd zm] d l v n m) (h1 : p.n = 1) (h2 : p.s = 0) (h3 : p.rl = 0)
    (hc : (2 ≤ p.lf ∧ p.lf ≤ 2000 ∧ P2 = { p with lf := p.lf - 1 } ∧ L2 = [] ∧ V2 = [.bool b] ∧ N2 = [Wd zn] ∧ M2 = [Wd zm]) ∨ (p.lf = 1 ∧ p.bs = 0 ∧ p.bt = 0 ∧ p.cm = 0 ∧ p.tm ≤ 1000 ∧ 0 ≤ p.k ∧ p.k ≤ 1000 ∧ P2 = { p with tm := p.tm + 1, vt := 0, rl := 2, ld := 0, cm := 1, lf := waitS p.k draw } ∧ L2 = [⟨p.tm + 1, 0, 0, []⟩] ∧ V2 = [.bool true] ∧ N2 = [Wd 1] ∧ M2 = [Wd 1])) :
    Calls Try.prog 17 #[stV p d l v n m, .int .i64 draw] w (TickP P2 L2 V2 N2 M2 w) := by
  obtain ⟨od, cd, rfl⟩ := own_slice' h.hd
  obtain ⟨ol, cl, rfl⟩ := own_slice' h.hl.row
  obtain ⟨ov, cv, rfl⟩ := own_slice' h.hv
  obtain ⟨on, cn, rfl⟩ := own_slice' h.hn
  obtain ⟨om, cm, rfl⟩ := own_slice' h.hm
  simp only [List.length_nil, List.length_cons, Nat.zero_add] at h ⊢
  have HO := Lib.hid h
  have HE := Lib.hid (And.intro h1 (And.intro h2 h3))
  have HCS := Lib.hid hc
  clear h h1 h2 h3 hc
  obtain ⟨W, hW⟩ : ∃ W, ((w.alloc (.cells (stC p (.slice od 0 cd) (.slice ol 0 cl) (.slice ov 1 cv) (.slice on 1 cn) (.slice om 1 cm)).toArray 41)).alloc (.cells zsC.toArray 41)) = W := ⟨_, rfl⟩
  have hbx : W.heap[w.heap.size]? = some (.cells (stC p (.slice od 0 cd) (.slice ol 0 cl) (.slice ov 1 cv) (.slice on 1 cn) (.slice om 1 cm)).toArray 41 (0, 0)) := by
    rw [← hW, Below.heap_alloc _ _ _ (by simp)]; exact heap_alloc_new _ _
  have hrs : W.heap[w.heap.size + 1]? = some (.cells zsC.toArray 41 (0, 0)) := by
    rw [← hW]
    have := heap_alloc_new (w.alloc (.cells (stC p (.slice od 0 cd) (.slice ol 0 cl) (.slice ov 1 cv) (.slice on 1 cn) (.slice om 1 cm)).toArray 41)) (.cells zsC.toArray 41)
    rw [World.size_alloc] at this
    exact this
  have hbw : Below w.heap.size w W := by rw [← hW]; exact ((Below.refl _ _).alloc (Nat.le_refl _) _).alloc (by simp) _
  have HBX := Lib.hid (And.intro hbx (And.intro hrs hbw))
  have HC := Lib.hid (copy_any p base [] [] [.bool b] [Wd zn] [Wd zm] _ _ _ _ _ W (HO.out.below hbw) (by simp) (by simp) (by simp) (by simp) (by simp) (by simp) (by simp [Value.oneCell']) (by simp [Value.oneCell', Wd]) (by simp [Value.oneCell', Wd]))
  have x0 : W.cell? ⟨w.heap.size, 0, none⟩ = some (.int .i64 p.n) := cellk hbx rfl
  have x1 : W.cell? ⟨w.heap.size, 1, none⟩ = some (.int .i64 p.s) := cellk hbx rfl
  have x2 : W.cell? ⟨w.heap.size, 2, none⟩ = some (.int .i64 p.k) := cellk hbx rfl
  have x3 : W.cell? ⟨w.heap.size, 3, none⟩ = some (.int .u64 (p.tm : Int)) := cellk hbx rfl
  have x4 : W.cell? ⟨w.heap.size, 4, none⟩ = some (.int .i64 p.vt) := cellk hbx rfl
  have x5 : W.cell? ⟨w.heap.size, 5, none⟩ = some (.int .u64 (p.bs : Int)) := cellk hbx rfl
  have x6 : W.cell? ⟨w.heap.size, 6, none⟩ = some (.int .u64 (p.bt : Int)) := cellk hbx rfl
  have x7 : W.cell? ⟨w.heap.size, 7, none⟩ = some (.slice od 0 cd) := cellk hbx rfl
  have x8 : W.cell? ⟨w.heap.size, 8, none⟩ = some (.slice ol 0 cl) := cellk hbx rfl
  have x9 : W.cell? ⟨w.heap.size, 9, none⟩ = some (.int .u64 (p.cm : Int)) := cellk hbx rfl
  have x10 : W.cell? ⟨w.heap.size, 10, none⟩ = some (.int .u8 (p.rl : Int)) := cellk hbx rfl
  have x11 : W.cell? ⟨w.heap.size, 11, none⟩ = some (.int .i64 p.ld) := cellk hbx rfl
  have x12 : W.cell? ⟨w.heap.size, 12, none⟩ = some (.int .i64 p.lf) := cellk hbx rfl
  have x13 : W.cell? ⟨w.heap.size, 13, none⟩ = some (.slice ov 1 cv) := cellk hbx rfl
  have x14 : W.cell? ⟨w.heap.size, 14, none⟩ = some (.slice on 1 cn) := cellk hbx rfl
  have x15 : W.cell? ⟨w.heap.size, 15, none⟩ = some (.slice om 1 cm) := cellk hbx rfl
  have xl := lt_of_block hbx
  unfold stV at HC
  unfold stC zsC at hW
  unfold stC at HC
  unfold stV stC
  go_enter Try.func17, Try.ntmps17
  go_upto_region 1 with fail
  try rw [hW]
  clear hW hbx hrs hbw
  go_wp2_with fail
  with_reducible refine HC.out.mono ?_
  rintro e W1 ⟨d1, l1, v1, n1, m1, qs, rfl, hqs, ho1, hb1⟩
  obtain rfl : qs = [] := by simpa using hqs
  obtain ⟨od1, cd1, rfl⟩ := own_slice' ho1.hd
  obtain ⟨ol1, cl1, rfl⟩ := own_slice' ho1.hl.row
  obtain ⟨ov1, cv1, rfl⟩ := own_slice' ho1.hv
  obtain ⟨on1, cn1, rfl⟩ := own_slice' ho1.hn
  obtain ⟨om1, cm1, rfl⟩ := own_slice' ho1.hm
  simp only [List.length_nil, List.length_cons, Nat.zero_add] at ho1 ⊢
  have hz0 : w.heap.size + 1 < W.heap.size := lt_of_block HBX.out.2.1
  have hz1 := hb1.size
  have hnd : NdAt (W1.alloc (.cells (stC p (.slice od1 0 cd1) (.slice ol1 0 cl1) (.slice ov1 1 cv1) (.slice on1 1 cn1) (.slice om1 1 cm1) ++ [Value.slice none 0 0]).toArray 93)) W1.heap.size p (.slice od1 0 cd1) (.slice ol1 0 cl1) (.slice ov1 1 cv1) (.slice on1 1 cn1) (.slice om1 1 cm1) (.slice none 0 0) := heap_alloc_new _ _
  have hba : Below W1.heap.size W1 (W1.alloc (.cells (stC p (.slice od1 0 cd1) (.slice ol1 0 cl1) (.slice ov1 1 cv1) (.slice on1 1 cn1) (.slice om1 1 cm1) ++ [Value.slice none 0 0]).toArray 93)) := (Below.refl _ _).alloc (Nat.le_refl _) _
  have hbb := hb1.trans (hba.mono hz1)
  have hwk : Wk w (W1.alloc (.cells (stC p (.slice od1 0 cd1) (.slice ol1 0 cl1) (.slice ov1 1 cv1) (.slice on1 1 cn1) (.slice om1 1 cm1) ++ [Value.slice none 0 0]).toArray 93)) W1.heap.size p p (.slice od 0 cd) (.slice ol 0 cl) (.slice ov 1 cv) (.slice on 1 cn) (.slice om 1 cm) (.slice od1 0 cd1) (.slice ol1 0 cl1) (.slice ov1 1 cv1) (.slice on1 1 cn1) (.slice om1 1 cm1) (.slice none 0 0) :=
    ⟨(hbb.block _ (by omega)).trans HBX.out.1, (hbb.block _ hz0).trans HBX.out.2.1, hnd, HBX.out.2.2.trans (hbb.mono (by omega)), by omega⟩
  have ho2 := ho1.below hba
  have HWK := Lib.hid (And.intro hwk ho2)
  have hst := World.setRow_alloc_new W1 zsN.toArray (stC p (.slice od1 0 cd1) (.slice ol1 0 cl1) (.slice ov1 1 cv1) (.slice on1 1 cn1) (.slice om1 1 cm1) ++ [Value.slice none 0 0]).toArray 93
  have HST := Lib.hid hst
  have HZ := Lib.hid (And.intro hz0 hz1)
  clear hb1 ho1 hnd hba hbb hwk ho2 hst hqs hz0 hz1 x0 x1 x2 x3 x4 x5 x6 x7 x8 x9 x10 x11 x12 x13 x14 x15 xl HC
  go_upto_region 2 with (refine wpList_store_row rfl 93 (.tmp 6) (.tmp 9) rfl W1.heap.size (stC p (.slice od1 0 cd1) (.slice ol1 0 cl1) (.slice ov1 1 cv1) (.slice on1 1 cn1) (.slice om1 1 cm1) ++ [Value.slice none 0 0]).toArray rfl rfl 93 zsN.toArray (heap_alloc_new W1 _) (by kernel_rfl) rfl (by simp [stC, Value.oneCell']) ?_)
  unfold zsN at HST
  rw [HST.out]
  obtain ⟨X, hX⟩ : ∃ X, W1.heap.size = X := ⟨_, rfl⟩
  have HWX := Lib.hid (show W.heap.size ≤ X by have := HZ.out; omega)
  rw [hX] at HWK ⊢
  clear HST HZ hX
  generalize W1.alloc (.cells (stC p (.slice od1 0 cd1) (.slice ol1 0 cl1) (.slice ov1 1 cv1) (.slice on1 1 cn1) (.slice om1 1 cm1) ++ [Value.slice none 0 0]).toArray 93) = W2 at *
  have HWH := Lib.hid (fun Wx => whole_one p (.slice od 0 cd) ol ov on om 0 cl cv cn cm Wx HE.out.1 HE.out.2.1 ⟨_, _, rfl⟩)
  unfold stV stC at HWH
  have x0 : W2.cell? ⟨w.heap.size, 0, none⟩ = some (.int .i64 p.n) := cellk HWK.out.1.box rfl
  have x1 : W2.cell? ⟨w.heap.size, 1, none⟩ = some (.int .i64 p.s) := cellk HWK.out.1.box rfl
  have x2 : W2.cell? ⟨w.heap.size, 2, none⟩ = some (.int .i64 p.k) := cellk HWK.out.1.box rfl
  have x3 : W2.cell? ⟨w.heap.size, 3, none⟩ = some (.int .u64 (p.tm : Int)) := cellk HWK.out.1.box rfl
  have x4 : W2.cell? ⟨w.heap.size, 4, none⟩ = some (.int .i64 p.vt) := cellk HWK.out.1.box rfl
  have x5 : W2.cell? ⟨w.heap.size, 5, none⟩ = some (.int .u64 (p.bs : Int)) := cellk HWK.out.1.box rfl
  have x6 : W2.cell? ⟨w.heap.size, 6, none⟩ = some (.int .u64 (p.bt : Int)) := cellk HWK.out.1.box rfl
  have x7 : W2.cell? ⟨w.heap.size, 7, none⟩ = some (.slice od 0 cd) := cellk HWK.out.1.box rfl
  have x8 : W2.cell? ⟨w.heap.size, 8, none⟩ = some (.slice ol 0 cl) := cellk HWK.out.1.box rfl
  have x9 : W2.cell? ⟨w.heap.size, 9, none⟩ = some (.int .u64 (p.cm : Int)) := cellk HWK.out.1.box rfl
  have x10 : W2.cell? ⟨w.heap.size, 10, none⟩ = some (.int .u8 (p.rl : Int)) := cellk HWK.out.1.box rfl
  have x11 : W2.cell? ⟨w.heap.size, 11, none⟩ = some (.int .i64 p.ld) := cellk HWK.out.1.box rfl
  have x12 : W2.cell? ⟨w.heap.size, 12, none⟩ = some (.int .i64 p.lf) := cellk HWK.out.1.box rfl
  have x13 : W2.cell? ⟨w.heap.size, 13, none⟩ = some (.slice ov 1 cv) := cellk HWK.out.1.box rfl
  have x14 : W2.cell? ⟨w.heap.size, 14, none⟩ = some (.slice on 1 cn) := cellk HWK.out.1.box rfl
  have x15 : W2.cell? ⟨w.heap.size, 15, none⟩ = some (.slice om 1 cm) := cellk HWK.out.1.box rfl
  have xl := lt_of_block HWK.out.1.box
  go_wp2_with fail
  with_reducible refine (HWH.out W2).mono ?_
  rintro e W3 ⟨rfl, hb3⟩
  have hwk3 := HWK.out.1.below hb3
  have ho3 := HWK.out.2.below hb3
  have y10 : W3.cell? ⟨w.heap.size, 10, none⟩ = some (.int .u8 0) := by rw [show (0 : Int) = ((0 : Nat) : Int) from rfl, ← HE.out.2.2]; exact cellk hwk3.box rfl
  have yl := lt_of_block hwk3.box
  have n12 : W3.cell? ⟨X, 12, none⟩ = some (.int .i64 p.lf) := cellk hwk3.nd rfl
  have nf := hwk3.nd.fz 12
  have nl := lt_of_block hwk3.nd
  have hlf : 1 ≤ p.lf ∧ p.lf ≤ 2000 := by rcases HCS.out with h | h <;> omega
  have ew : IntKind.i64.wrap (p.lf - 1) = p.lf - 1 := IntWalk.i64_in _ (by omega)
  have hn4 : NdAt (W3.setCell ⟨X, 12, none⟩ (.int .i64 (p.lf - 1))) X { p with lf := p.lf - 1 } (.slice od1 0 cd1) (.slice ol1 0 cl1) (.slice ov1 1 cv1) (.slice on1 1 cn1) (.slice om1 1 cm1) (.slice none 0 0) := hwk3.nd.set 12 (.int .i64 (p.lf - 1))
  have hlt := hwk3.lt
  have hwk4 := hwk3.kept (p2 := { p with lf := p.lf - 1 }) (keptX (X := X) (i := 12) (u := .int .i64 (p.lf - 1))) (fun k hk => by omega) hn4
  have ho4 := ho3.nodeK hwk3.nd (keptX (X := X) (i := 12) (u := .int .i64 (p.lf - 1)))
  have HWK4 := Lib.hid (And.intro hwk4 ho4)
  have HLT := Lib.hid hlt
  have hlf1 := hlf.1
  clear hwk3 ho3 hn4 hwk4 ho4 hb3 x0 x1 x2 x3 x4 x5 x6 x7 x8 x9 x10 x11 x12 x13 x14 x15 xl HWK HWH hlt hlf
  go_upto_region 8 with fail
  generalize W3.setCell ⟨X, 12, none⟩ (.int .i64 (p.lf - 1)) = W4 at *
  have m12 : W4.cell? ⟨X, 12, none⟩ = some (.int .i64 (p.lf - 1)) := cellk HWK4.out.1.nd rfl
  clear y10 yl n12 nf nl ew
  have hzW : w.heap.size + 1 < W.heap.size := lt_of_block HBX.out.2.1
  clear HBX HO
  rcases HCS.out with ⟨c1, c2, rfl, rfl, rfl, rfl, rfl⟩ | ⟨c1, c2, c3, c4, c5, c6, c7, rfl, rfl, rfl, rfl, rfl⟩
  · have hlf : 0 < p.lf - 1 := by omega
    clear HCS
    go_wp2_with fail
    clear m12
    have hwk5 := HWK4.out.1
    have ho5 := HWK4.out.2
    have hX5 := lt_of_block hwk5.nd
    have hlt5 := hwk5.lt
    have x0 : W4.cell? ⟨X, 0, none⟩ = some (.int .i64 p.n) := cellk hwk5.nd rfl
    have x1 : W4.cell? ⟨X, 1, none⟩ = some (.int .i64 p.s) := cellk hwk5.nd rfl
    have x2 : W4.cell? ⟨X, 2, none⟩ = some (.int .i64 p.k) := cellk hwk5.nd rfl
    have x3 : W4.cell? ⟨X, 3, none⟩ = some (.int .u64 (p.tm : Int)) := cellk hwk5.nd rfl
    have x4 : W4.cell? ⟨X, 4, none⟩ = some (.int .i64 p.vt) := cellk hwk5.nd rfl
    have x5 : W4.cell? ⟨X, 5, none⟩ = some (.int .u64 (p.bs : Int)) := cellk hwk5.nd rfl
    have x6 : W4.cell? ⟨X, 6, none⟩ = some (.int .u64 (p.bt : Int)) := cellk hwk5.nd rfl
    have x7 : W4.cell? ⟨X, 7, none⟩ = some (.slice od1 0 cd1) := cellk hwk5.nd rfl
    have x8 : W4.cell? ⟨X, 8, none⟩ = some (.slice ol1 0 cl1) := cellk hwk5.nd rfl
    have x9 : W4.cell? ⟨X, 9, none⟩ = some (.int .u64 (p.cm : Int)) := cellk hwk5.nd rfl
    have x10 : W4.cell? ⟨X, 10, none⟩ = some (.int .u8 (p.rl : Int)) := cellk hwk5.nd rfl
    have x11 : W4.cell? ⟨X, 11, none⟩ = some (.int .i64 p.ld) := cellk hwk5.nd rfl
    have x12 : W4.cell? ⟨X, 12, none⟩ = some (.int .i64 (p.lf - 1)) := cellk hwk5.nd rfl
    have x13 : W4.cell? ⟨X, 13, none⟩ = some (.slice ov1 1 cv1) := cellk hwk5.nd rfl
    have x14 : W4.cell? ⟨X, 14, none⟩ = some (.slice on1 1 cn1) := cellk hwk5.nd rfl
    have x15 : W4.cell? ⟨X, 15, none⟩ = some (.slice om1 1 cm1) := cellk hwk5.nd rfl
    have x16 : W4.cell? ⟨X, 16, none⟩ = some (.slice none 0 0) := cellk hwk5.nd rfl
    have HW5 := Lib.hid (And.intro hwk5 ho5)
    clear hwk5 ho5
    refine wp_region_held_drew (S := fun w' => w'.cell? ⟨X, 0, none⟩ = some (.int .i64 p.n) ∧ w'.cell? ⟨X, 1, none⟩ = some (.int .i64 p.s) ∧ w'.cell? ⟨X, 2, none⟩ = some (.int .i64 p.k) ∧ w'.cell? ⟨X, 3, none⟩ = some (.int .u64 (p.tm : Int)) ∧ w'.cell? ⟨X, 4, none⟩ = some (.int .i64 p.vt) ∧ w'.cell? ⟨X, 5, none⟩ = some (.int .u64 (p.bs : Int)) ∧ w'.cell? ⟨X, 6, none⟩ = some (.int .u64 (p.bt : Int)) ∧ w'.cell? ⟨X, 7, none⟩ = some (.slice od1 0 cd1) ∧ w'.cell? ⟨X, 8, none⟩ = some (.slice ol1 0 cl1) ∧ w'.cell? ⟨X, 9, none⟩ = some (.int .u64 (p.cm : Int)) ∧ w'.cell? ⟨X, 10, none⟩ = some (.int .u8 (p.rl : Int)) ∧ w'.cell? ⟨X, 11, none⟩ = some (.int .i64 p.ld) ∧ w'.cell? ⟨X, 12, none⟩ = some (.int .i64 (p.lf - 1)) ∧ w'.cell? ⟨X, 13, none⟩ = some (.slice ov1 1 cv1) ∧ w'.cell? ⟨X, 14, none⟩ = some (.slice on1 1 cn1) ∧ w'.cell? ⟨X, 15, none⟩ = some (.slice om1 1 cm1) ∧ w'.cell? ⟨X, 16, none⟩ = some (.slice none 0 0)) (by kernel_rfl) ⟨x0, x1, x2, x3, x4, x5, x6, x7, x8, x9, x10, x11, x12, x13, x14, x15, x16⟩ ?_
    intro hHeld
    refine wpAnyH_take (i := 0) (v := ?_) (by simp only [List.getElem?_toArray, List.getElem?_cons_zero]; rfl) (by kernel_rfl) (by kernel_rfl) (by kernel_rfl) (by intro _ _ _ h; exact h) (Or.inl ⟨by rfl, ?_⟩) (by assumption) ?_
    rotate_left
    · (intro w hSw; (try dsimp only at hSw); go_simp; try with_reducible rfl)
    try simp only [Act.put, List.setIfInBounds_toArray, List.set_cons_zero, List.set_cons_succ]
    refine wpAnyH_take (i := 1) (v := ?_) (by simp only [List.getElem?_toArray, List.getElem?_cons_succ, List.getElem?_cons_zero]; rfl) (by kernel_rfl) (by kernel_rfl) (by kernel_rfl) (by intro _ _ _ h; exact h) (Or.inl ⟨by rfl, ?_⟩) (by assumption) ?_
    rotate_left
    · (intro w hSw; (try dsimp only at hSw); go_simp; try with_reducible rfl)
    try simp only [Act.put, List.setIfInBounds_toArray, List.set_cons_zero, List.set_cons_succ]
    refine wpAnyH_take (i := 2) (v := ?_) (by simp only [List.getElem?_toArray, List.getElem?_cons_succ, List.getElem?_cons_zero]; rfl) (by kernel_rfl) (by kernel_rfl) (by kernel_rfl) (by intro _ _ _ h; exact h) (Or.inl ⟨by rfl, ?_⟩) (by assumption) ?_
    rotate_left
    · (intro w hSw; (try dsimp only at hSw); go_simp; try with_reducible rfl)
    try simp only [Act.put, List.setIfInBounds_toArray, List.set_cons_zero, List.set_cons_succ]
    refine wpAnyH_take (i := 3) (v := ?_) (by simp only [List.getElem?_toArray, List.getElem?_cons_succ, List.getElem?_cons_zero]; rfl) (by kernel_rfl) (by kernel_rfl) (by kernel_rfl) (by intro _ _ _ h; exact h) (Or.inl ⟨by rfl, ?_⟩) (by assumption) ?_
    rotate_left
    · (intro w hSw; (try dsimp only at hSw); go_simp; try with_reducible rfl)
    try simp only [Act.put, List.setIfInBounds_toArray, List.set_cons_zero, List.set_cons_succ]
    refine wpAnyH_ready (rs := [4]) (by kernel_rfl) (by simp) ?_
    refine AllReadyH.cons (by simp only [List.getElem?_toArray, List.getElem?_cons_succ, List.getElem?_cons_zero]; rfl) (fun K hK => ?_) AllReadyH.nil
    refine step_store_row rfl 41 (.tmp 4) (.tmp 36) rfl (w.heap.size + 1) (stC { p with lf := p.lf - 1 } (.slice od1 0 cd1) (.slice ol1 0 cl1) (.slice ov1 1 cv1) (.slice on1 1 cn1) (.slice om1 1 cm1)).toArray rfl rfl 41 zsC.toArray HW5.out.1.res (by kernel_rfl) rfl (by simp [stC, Value.oneCell']) ?_
    have hXR : X ≠ w.heap.size + 1 := by omega
    refine hK.out _ _ ⟨(cell_setRow_other _ _ _ ⟨X, 0, none⟩ hXR).trans x0, (cell_setRow_other _ _ _ ⟨X, 1, none⟩ hXR).trans x1, (cell_setRow_other _ _ _ ⟨X, 2, none⟩ hXR).trans x2, (cell_setRow_other _ _ _ ⟨X, 3, none⟩ hXR).trans x3, (cell_setRow_other _ _ _ ⟨X, 4, none⟩ hXR).trans x4, (cell_setRow_other _ _ _ ⟨X, 5, none⟩ hXR).trans x5, (cell_setRow_other _ _ _ ⟨X, 6, none⟩ hXR).trans x6, (cell_setRow_other _ _ _ ⟨X, 7, none⟩ hXR).trans x7, (cell_setRow_other _ _ _ ⟨X, 8, none⟩ hXR).trans x8, (cell_setRow_other _ _ _ ⟨X, 9, none⟩ hXR).trans x9, (cell_setRow_other _ _ _ ⟨X, 10, none⟩ hXR).trans x10, (cell_setRow_other _ _ _ ⟨X, 11, none⟩ hXR).trans x11, (cell_setRow_other _ _ _ ⟨X, 12, none⟩ hXR).trans x12, (cell_setRow_other _ _ _ ⟨X, 13, none⟩ hXR).trans x13, (cell_setRow_other _ _ _ ⟨X, 14, none⟩ hXR).trans x14, (cell_setRow_other _ _ _ ⟨X, 15, none⟩ hXR).trans x15, (cell_setRow_other _ _ _ ⟨X, 16, none⟩ hXR).trans x16⟩ (fun hHeld => ?_)
    clear hK K
    try simp only [Act.put]
    refine wpAnyH_take (i := 5) (v := ?_) (by simp only [List.getElem?_toArray, List.getElem?_cons_succ, List.getElem?_cons_zero]; rfl) (by kernel_rfl) (by kernel_rfl) (by kernel_rfl) (by intro _ _ _ h; exact h) (Or.inl ⟨by rfl, ?_⟩) (by assumption) ?_
    rotate_left
    · (intro w hSw; (try dsimp only at hSw); go_simp; try with_reducible rfl)
    try simp only [Act.put, List.setIfInBounds_toArray, List.set_cons_zero, List.set_cons_succ]
    refine wpAnyH_done (by kernel_rfl) ?_ _
    have hf : (W4.drew.setRow (w.heap.size + 1) (stC { p with lf := p.lf - 1 } (.slice od1 0 cd1) (.slice ol1 0 cl1) (.slice ov1 1 cv1) (.slice on1 1 cn1) (.slice om1 1 cm1)).toArray).heap[w.heap.size + 1]? = some (.cells (stC { p with lf := p.lf - 1 } (.slice od1 0 cd1) (.slice ol1 0 cl1) (.slice ov1 1 cv1) (.slice on1 1 cn1) (.slice om1 1 cm1)).toArray 41 (0, 0)) := setRow_heap W4.drew (w.heap.size + 1) _ (stC { p with lf := p.lf - 1 } (.slice od1 0 cd1) (.slice ol1 0 cl1) (.slice ov1 1 cv1) (.slice on1 1 cn1) (.slice om1 1 cm1)).toArray 41 (0, 0) HW5.out.1.res
    have hk := (Kept.refl (fun g => g = w.heap.size + 1) W4).drew.trans (row_kept W4.drew (w.heap.size + 1) (stC { p with lf := p.lf - 1 } (.slice od1 0 cd1) (.slice ol1 0 cl1) (.slice ov1 1 cv1) (.slice on1 1 cn1) (.slice om1 1 cm1)).toArray)
    have hst := (HW5.out.2.kept hk (fun g hg e => by omega)).base (show w.heap.size ≤ W.heap.size by omega)
    have hbl := HW5.out.1.bel.trans (hk.below HW5.out.1.bel.size (fun g e => by omega))
    have HFI := Lib.hid (And.intro hf (And.intro hst hbl))
    clear hHeld x0 x1 x2 x3 x4 x5 x6 x7 x8 x9 x10 x11 x12 x13 x14 x15 x16 hf hk hst hbl HW5
    go_wp2_with fail
    exact tick_ret (qs := []) HFI.out.1 rfl HFI.out.2.1 HFI.out.2.2 rfl rfl
  · have hlf : ¬ 0 < p.lf - 1 := by omega
    have hlf2 : p.lf - 1 ≤ 0 := by omega
    have HSD := Lib.hid (stand_one X W.heap.size { p with lf := p.lf - 1 } draw b (Wd zn) (Wd zm) _ _ _ _ _ (.slice none 0 0) W4 HWK4.out.1.nd HWK4.out.2 HE.out.1 HE.out.2.1 c2 c3 c4 c5 c6 c7 (by have := HWX.out; have := lt_of_block HWK4.out.1.nd; omega))
    clear HCS c1 c2 c3 c4 c5 c6 c7
    go_wp2_with fail
    with_reducible refine HSD.out.mono ?_
    rintro e W5 ⟨rfl, ol', cl', y, hn5, ho5, hk5⟩
    have hwk5 := HWK4.out.1.kept hk5 (fun k hk => by
      have hL := HLT.out
      have h4 := HWK4.out.2
      rcases hk with hk | hk | hk | hk | hk
      · omega
      · have := (h4.hl.row.lt k hk).1; omega
      · have := (h4.hv.lt k hk).1; omega
      · have := (h4.hn.lt k hk).1; omega
      · have := (h4.hm.lt k hk).1; omega) hn5
    clear hn5 hk5 HSD m12
    go_wp2_with fail
    have hX5 := lt_of_block hwk5.nd
    have hlt5 := hwk5.lt
    have x0 : W5.cell? ⟨X, 0, none⟩ = some (.int .i64 p.n) := cellk hwk5.nd rfl
    have x1 : W5.cell? ⟨X, 1, none⟩ = some (.int .i64 p.s) := cellk hwk5.nd rfl
    have x2 : W5.cell? ⟨X, 2, none⟩ = some (.int .i64 p.k) := cellk hwk5.nd rfl
    have x3 : W5.cell? ⟨X, 3, none⟩ = some (.int .u64 ((p.tm + 1 : Nat) : Int)) := cellk hwk5.nd rfl
    have x4 : W5.cell? ⟨X, 4, none⟩ = some (.int .i64 0) := cellk hwk5.nd rfl
    have x5 : W5.cell? ⟨X, 5, none⟩ = some (.int .u64 (p.bs : Int)) := cellk hwk5.nd rfl
    have x6 : W5.cell? ⟨X, 6, none⟩ = some (.int .u64 (p.bt : Int)) := cellk hwk5.nd rfl
    have x7 : W5.cell? ⟨X, 7, none⟩ = some (.slice od1 0 cd1) := cellk hwk5.nd rfl
    have x8 : W5.cell? ⟨X, 8, none⟩ = some (.slice ol' 1 cl') := cellk hwk5.nd rfl
    have x9 : W5.cell? ⟨X, 9, none⟩ = some (.int .u64 1) := cellk hwk5.nd rfl
    have x10 : W5.cell? ⟨X, 10, none⟩ = some (.int .u8 2) := cellk hwk5.nd rfl
    have x11 : W5.cell? ⟨X, 11, none⟩ = some (.int .i64 0) := cellk hwk5.nd rfl
    have x12 : W5.cell? ⟨X, 12, none⟩ = some (.int .i64 (waitS p.k draw)) := cellk hwk5.nd rfl
    have x13 : W5.cell? ⟨X, 13, none⟩ = some (.slice ov1 1 cv1) := cellk hwk5.nd rfl
    have x14 : W5.cell? ⟨X, 14, none⟩ = some (.slice on1 1 cn1) := cellk hwk5.nd rfl
    have x15 : W5.cell? ⟨X, 15, none⟩ = some (.slice om1 1 cm1) := cellk hwk5.nd rfl
    have x16 : W5.cell? ⟨X, 16, none⟩ = some (.slice none 0 0) := cellk hwk5.nd rfl
    have HW5 := Lib.hid (And.intro hwk5 ho5)
    clear hwk5 ho5
    refine wp_region_held_drew (S := fun w' => w'.cell? ⟨X, 0, none⟩ = some (.int .i64 p.n) ∧ w'.cell? ⟨X, 1, none⟩ = some (.int .i64 p.s) ∧ w'.cell? ⟨X, 2, none⟩ = some (.int .i64 p.k) ∧ w'.cell? ⟨X, 3, none⟩ = some (.int .u64 ((p.tm + 1 : Nat) : Int)) ∧ w'.cell? ⟨X, 4, none⟩ = some (.int .i64 0) ∧ w'.cell? ⟨X, 5, none⟩ = some (.int .u64 (p.bs : Int)) ∧ w'.cell? ⟨X, 6, none⟩ = some (.int .u64 (p.bt : Int)) ∧ w'.cell? ⟨X, 7, none⟩ = some (.slice od1 0 cd1) ∧ w'.cell? ⟨X, 8, none⟩ = some (.slice ol' 1 cl') ∧ w'.cell? ⟨X, 9, none⟩ = some (.int .u64 1) ∧ w'.cell? ⟨X, 10, none⟩ = some (.int .u8 2) ∧ w'.cell? ⟨X, 11, none⟩ = some (.int .i64 0) ∧ w'.cell? ⟨X, 12, none⟩ = some (.int .i64 (waitS p.k draw)) ∧ w'.cell? ⟨X, 13, none⟩ = some (.slice ov1 1 cv1) ∧ w'.cell? ⟨X, 14, none⟩ = some (.slice on1 1 cn1) ∧ w'.cell? ⟨X, 15, none⟩ = some (.slice om1 1 cm1) ∧ w'.cell? ⟨X, 16, none⟩ = some (.slice none 0 0)) (by kernel_rfl) ⟨x0, x1, x2, x3, x4, x5, x6, x7, x8, x9, x10, x11, x12, x13, x14, x15, x16⟩ ?_
    intro hHeld
    refine wpAnyH_take (i := 0) (v := ?_) (by simp only [List.getElem?_toArray, List.getElem?_cons_zero]; rfl) (by kernel_rfl) (by kernel_rfl) (by kernel_rfl) (by intro _ _ _ h; exact h) (Or.inl ⟨by rfl, ?_⟩) (by assumption) ?_
    rotate_left
    · (intro w hSw; (try dsimp only at hSw); go_simp; try with_reducible rfl)
    try simp only [Act.put, List.setIfInBounds_toArray, List.set_cons_zero, List.set_cons_succ]
    refine wpAnyH_take (i := 1) (v := ?_) (by simp only [List.getElem?_toArray, List.getElem?_cons_succ, List.getElem?_cons_zero]; rfl) (by kernel_rfl) (by kernel_rfl) (by kernel_rfl) (by intro _ _ _ h; exact h) (Or.inl ⟨by rfl, ?_⟩) (by assumption) ?_
    rotate_left
    · (intro w hSw; (try dsimp only at hSw); go_simp; try with_reducible rfl)
    try simp only [Act.put, List.setIfInBounds_toArray, List.set_cons_zero, List.set_cons_succ]
    refine wpAnyH_take (i := 2) (v := ?_) (by simp only [List.getElem?_toArray, List.getElem?_cons_succ, List.getElem?_cons_zero]; rfl) (by kernel_rfl) (by kernel_rfl) (by kernel_rfl) (by intro _ _ _ h; exact h) (Or.inl ⟨by rfl, ?_⟩) (by assumption) ?_
    rotate_left
    · (intro w hSw; (try dsimp only at hSw); go_simp; try with_reducible rfl)
    try simp only [Act.put, List.setIfInBounds_toArray, List.set_cons_zero, List.set_cons_succ]
    refine wpAnyH_take (i := 3) (v := ?_) (by simp only [List.getElem?_toArray, List.getElem?_cons_succ, List.getElem?_cons_zero]; rfl) (by kernel_rfl) (by kernel_rfl) (by kernel_rfl) (by intro _ _ _ h; exact h) (Or.inl ⟨by rfl, ?_⟩) (by assumption) ?_
    rotate_left
    · (intro w hSw; (try dsimp only at hSw); go_simp; try with_reducible rfl)
    try simp only [Act.put, List.setIfInBounds_toArray, List.set_cons_zero, List.set_cons_succ]
    refine wpAnyH_ready (rs := [4]) (by kernel_rfl) (by simp) ?_
    refine AllReadyH.cons (by simp only [List.getElem?_toArray, List.getElem?_cons_succ, List.getElem?_cons_zero]; rfl) (fun K hK => ?_) AllReadyH.nil
    refine step_store_row rfl 41 (.tmp 4) (.tmp 36) rfl (w.heap.size + 1) (stC { p with tm := p.tm + 1, vt := 0, rl := 2, ld := 0, cm := 1, lf := waitS p.k draw } (.slice od1 0 cd1) (.slice ol' 1 cl') (.slice ov1 1 cv1) (.slice on1 1 cn1) (.slice om1 1 cm1)).toArray rfl rfl 41 zsC.toArray HW5.out.1.res (by kernel_rfl) rfl (by simp [stC, Value.oneCell']) ?_
    have hXR : X ≠ w.heap.size + 1 := by omega
    refine hK.out _ _ ⟨(cell_setRow_other _ _ _ ⟨X, 0, none⟩ hXR).trans x0, (cell_setRow_other _ _ _ ⟨X, 1, none⟩ hXR).trans x1, (cell_setRow_other _ _ _ ⟨X, 2, none⟩ hXR).trans x2, (cell_setRow_other _ _ _ ⟨X, 3, none⟩ hXR).trans x3, (cell_setRow_other _ _ _ ⟨X, 4, none⟩ hXR).trans x4, (cell_setRow_other _ _ _ ⟨X, 5, none⟩ hXR).trans x5, (cell_setRow_other _ _ _ ⟨X, 6, none⟩ hXR).trans x6, (cell_setRow_other _ _ _ ⟨X, 7, none⟩ hXR).trans x7, (cell_setRow_other _ _ _ ⟨X, 8, none⟩ hXR).trans x8, (cell_setRow_other _ _ _ ⟨X, 9, none⟩ hXR).trans x9, (cell_setRow_other _ _ _ ⟨X, 10, none⟩ hXR).trans x10, (cell_setRow_other _ _ _ ⟨X, 11, none⟩ hXR).trans x11, (cell_setRow_other _ _ _ ⟨X, 12, none⟩ hXR).trans x12, (cell_setRow_other _ _ _ ⟨X, 13, none⟩ hXR).trans x13, (cell_setRow_other _ _ _ ⟨X, 14, none⟩ hXR).trans x14, (cell_setRow_other _ _ _ ⟨X, 15, none⟩ hXR).trans x15, (cell_setRow_other _ _ _ ⟨X, 16, none⟩ hXR).trans x16⟩ (fun hHeld => ?_)
    clear hK K
    try simp only [Act.put]
    refine wpAnyH_take (i := 5) (v := ?_) (by simp only [List.getElem?_toArray, List.getElem?_cons_succ, List.getElem?_cons_zero]; rfl) (by kernel_rfl) (by kernel_rfl) (by kernel_rfl) (by intro _ _ _ h; exact h) (Or.inl ⟨by rfl, ?_⟩) (by assumption) ?_
    rotate_left
    · (intro w hSw; (try dsimp only at hSw); go_simp; try with_reducible rfl)
    try simp only [Act.put, List.setIfInBounds_toArray, List.set_cons_zero, List.set_cons_succ]
    refine wpAnyH_done (by kernel_rfl) ?_ _
    have hf : (W5.drew.setRow (w.heap.size + 1) (stC { p with tm := p.tm + 1, vt := 0, rl := 2, ld := 0, cm := 1, lf := waitS p.k draw } (.slice od1 0 cd1) (.slice ol' 1 cl') (.slice ov1 1 cv1) (.slice on1 1 cn1) (.slice om1 1 cm1)).toArray).heap[w.heap.size + 1]? = some (.cells (stC { p with tm := p.tm + 1, vt := 0, rl := 2, ld := 0, cm := 1, lf := waitS p.k draw } (.slice od1 0 cd1) (.slice ol' 1 cl') (.slice ov1 1 cv1) (.slice on1 1 cn1) (.slice om1 1 cm1)).toArray 41 (0, 0)) := setRow_heap W5.drew (w.heap.size + 1) _ (stC { p with tm := p.tm + 1, vt := 0, rl := 2, ld := 0, cm := 1, lf := waitS p.k draw } (.slice od1 0 cd1) (.slice ol' 1 cl') (.slice ov1 1 cv1) (.slice on1 1 cn1) (.slice om1 1 cm1)).toArray 41 (0, 0) HW5.out.1.res
    have hk := (Kept.refl (fun g => g = w.heap.size + 1) W5).drew.trans (row_kept W5.drew (w.heap.size + 1) (stC { p with tm := p.tm + 1, vt := 0, rl := 2, ld := 0, cm := 1, lf := waitS p.k draw } (.slice od1 0 cd1) (.slice ol' 1 cl') (.slice ov1 1 cv1) (.slice on1 1 cn1) (.slice om1 1 cm1)).toArray)
    have hst := (HW5.out.2.kept hk (fun g hg e => by omega)).base (show w.heap.size ≤ W.heap.size by omega)
    have hbl := HW5.out.1.bel.trans (hk.below HW5.out.1.bel.size (fun g e => by omega))
    have HFI := Lib.hid (And.intro hf (And.intro hst hbl))
    clear hHeld x0 x1 x2 x3 x4 x5 x6 x7 x8 x9 x10 x11 x12 x13 x14 x15 x16 hf hk hst hbl HW5
    go_wp2_with fail
    exact tick_ret (qs := [(⟨p.tm + 1, 0, 0, []⟩, y)]) HFI.out.1 rfl HFI.out.2.1 HFI.out.2.2 rfl rfl
end Go.Proofs.Ytjbailnnaigjbaa
