/- One node of one: an entry is proposed; the walk. -/
import Derived.Test.YtpnlfpckafpkbaaBalN
namespace Go.Proofs.Ytpnlfpckafpkbaa
open Go.RowKit OctM

set_option maxHeartbeats 8000000 in
set_option maxRecDepth 100000 in
theorem prop_one (p : Sc) (base sn nm : Nat) (ps : List (En × Value)) (b : Bool) (zn zm : Nat) (d l v n m u : Value) (cl : List UInt8) (w : World) (h : StO w base [] ps [.bool b] [Wd zn] [Wd zm] d l v n m) (h1 : p.n = 1) (h2 : p.s = 0) (h3 : p.bs = 0) (h4 : p.rl = 2) (hok : ∀ q ∈ ps, q.1.cl.length ≤ 4000) (hps : ps.length ≤ 900) (hcm : p.cm < ps.length + 1)
    (hu : Rd w u cl) (hcl : cl.length ≤ 2000) :
    Calls Try.prog 21 #[stV p d l v n m, .int .u64 (sn : Int), .int .u64 (nm : Int), u] w (PropP { p with cm := ps.length + 1 } (ps.map Prod.fst ++ [⟨p.tm, sn, nm, cl⟩]) [.bool b] [Wd zn] [Wd (ps.length + 1)] (ps.length + 1) w) := by
  obtain ⟨od, cd, rfl⟩ := own_slice' h.hd
  obtain ⟨ol, cll, rfl⟩ := own_slice' h.hl.row
  obtain ⟨ov, cv, rfl⟩ := own_slice' h.hv
  obtain ⟨on, cn, rfl⟩ := own_slice' h.hn
  obtain ⟨om, cm, rfl⟩ := own_slice' h.hm
  obtain ⟨ou, cu, rfl⟩ : ∃ o c, u = .slice o cl.length c := by
    rcases hu with ⟨rfl, rfl⟩ | ⟨a, c, rfl, _⟩
    · exact ⟨_, _, rfl⟩
    · exact ⟨_, _, rfl⟩
  simp only [List.length_nil, List.length_cons, Nat.zero_add] at h ⊢
  have HO := Lib.hid h
  have HE := Lib.hid (And.intro h1 (And.intro h2 (And.intro h3 h4)))
  have HU := Lib.hid hu
  have HK := Lib.hid hok
  clear h h1 h2 h3 h4 hu hok
  obtain ⟨W, hW⟩ : ∃ W, ((w.alloc (.cells (stC p (.slice od 0 cd) (.slice ol ps.length cll) (.slice ov 1 cv) (.slice on 1 cn) (.slice om 1 cm)).toArray 41)).alloc (.cells zsC.toArray 41)) = W := ⟨_, rfl⟩
  have hbx : W.heap[w.heap.size]? = some (.cells (stC p (.slice od 0 cd) (.slice ol ps.length cll) (.slice ov 1 cv) (.slice on 1 cn) (.slice om 1 cm)).toArray 41 (0, 0)) := by
    rw [← hW, Below.heap_alloc _ _ _ (by simp)]; exact heap_alloc_new _ _
  have hrs : W.heap[w.heap.size + 1]? = some (.cells zsC.toArray 41 (0, 0)) := by
    rw [← hW]
    have := heap_alloc_new (w.alloc (.cells (stC p (.slice od 0 cd) (.slice ol ps.length cll) (.slice ov 1 cv) (.slice on 1 cn) (.slice om 1 cm)).toArray 41)) (.cells zsC.toArray 41)
    rw [World.size_alloc] at this
    exact this
  have hbw : Below w.heap.size w W := by rw [← hW]; exact ((Below.refl _ _).alloc (Nat.le_refl _) _).alloc (by simp) _
  have HBX := Lib.hid (And.intro hbx (And.intro hrs hbw))
  have HC := Lib.hid (copy_any p base [] ps [.bool b] [Wd zn] [Wd zm] _ _ _ _ _ W (HO.out.below hbw) (by simp) HK.out (by omega) (by simp) (by simp) (by simp) (by simp [Value.oneCell']) (by simp [Value.oneCell', Wd]) (by simp [Value.oneCell', Wd]))
  have x0 : W.cell? ⟨w.heap.size, 0, none⟩ = some (.int .i64 p.n) := cellk hbx rfl
  have x1 : W.cell? ⟨w.heap.size, 1, none⟩ = some (.int .i64 p.s) := cellk hbx rfl
  have x2 : W.cell? ⟨w.heap.size, 2, none⟩ = some (.int .i64 p.k) := cellk hbx rfl
  have x3 : W.cell? ⟨w.heap.size, 3, none⟩ = some (.int .u64 (p.tm : Int)) := cellk hbx rfl
  have x4 : W.cell? ⟨w.heap.size, 4, none⟩ = some (.int .i64 p.vt) := cellk hbx rfl
  have x5 : W.cell? ⟨w.heap.size, 5, none⟩ = some (.int .u64 (p.bs : Int)) := cellk hbx rfl
  have x6 : W.cell? ⟨w.heap.size, 6, none⟩ = some (.int .u64 (p.bt : Int)) := cellk hbx rfl
  have x7 : W.cell? ⟨w.heap.size, 7, none⟩ = some (.slice od 0 cd) := cellk hbx rfl
  have x8 : W.cell? ⟨w.heap.size, 8, none⟩ = some (.slice ol ps.length cll) := cellk hbx rfl
  have x9 : W.cell? ⟨w.heap.size, 9, none⟩ = some (.int .u64 (p.cm : Int)) := cellk hbx rfl
  have x10 : W.cell? ⟨w.heap.size, 10, none⟩ = some (.int .u8 (p.rl : Int)) := cellk hbx rfl
  have x11 : W.cell? ⟨w.heap.size, 11, none⟩ = some (.int .i64 p.ld) := cellk hbx rfl
  have x12 : W.cell? ⟨w.heap.size, 12, none⟩ = some (.int .i64 p.lf) := cellk hbx rfl
  have x13 : W.cell? ⟨w.heap.size, 13, none⟩ = some (.slice ov 1 cv) := cellk hbx rfl
  have x14 : W.cell? ⟨w.heap.size, 14, none⟩ = some (.slice on 1 cn) := cellk hbx rfl
  have x15 : W.cell? ⟨w.heap.size, 15, none⟩ = some (.slice om 1 cm) := cellk hbx rfl
  have xl := lt_of_block hbx
  unfold stV at HC
  unfold stC zsC at hW
  unfold stC at HC
  unfold stV stC
  go_enter Try.func21, Try.ntmps21
  go_upto_region 1 with fail
  try rw [hW]
  clear hW hbx hrs hbw
  go_wp2_with fail
  with_reducible refine HC.out.mono ?_
  rintro e W1 ⟨d1, l1, v1, n1, m1, qs, rfl, hqs, ho1, hb1⟩
  have hql : qs.length = ps.length := by have := congrArg List.length hqs; simpa using this
  obtain ⟨od1, cd1, rfl⟩ := own_slice' ho1.hd
  obtain ⟨ol1, cl1, rfl⟩ := own_slice' ho1.hl.row
  obtain ⟨ov1, cv1, rfl⟩ := own_slice' ho1.hv
  obtain ⟨on1, cn1, rfl⟩ := own_slice' ho1.hn
  obtain ⟨om1, cm1, rfl⟩ := own_slice' ho1.hm
  simp only [List.length_nil, List.length_cons, Nat.zero_add] at ho1 ⊢
  rw [hql] at ho1 ⊢
  have hz0 : w.heap.size + 1 < W.heap.size := lt_of_block HBX.out.2.1
  have hz1 := hb1.size
  have hnd : NdAt (W1.alloc (.cells (stC p (.slice od1 0 cd1) (.slice ol1 ps.length cl1) (.slice ov1 1 cv1) (.slice on1 1 cn1) (.slice om1 1 cm1) ++ [Value.slice none 0 0]).toArray 103)) W1.heap.size p (.slice od1 0 cd1) (.slice ol1 ps.length cl1) (.slice ov1 1 cv1) (.slice on1 1 cn1) (.slice om1 1 cm1) (.slice none 0 0) := heap_alloc_new _ _
  have hba : Below W1.heap.size W1 (W1.alloc (.cells (stC p (.slice od1 0 cd1) (.slice ol1 ps.length cl1) (.slice ov1 1 cv1) (.slice on1 1 cn1) (.slice om1 1 cm1) ++ [Value.slice none 0 0]).toArray 103)) := (Below.refl _ _).alloc (Nat.le_refl _) _
  have hbb := hb1.trans (hba.mono hz1)
  have hwk : Wk w (W1.alloc (.cells (stC p (.slice od1 0 cd1) (.slice ol1 ps.length cl1) (.slice ov1 1 cv1) (.slice on1 1 cn1) (.slice om1 1 cm1) ++ [Value.slice none 0 0]).toArray 103)) W1.heap.size p p (.slice od 0 cd) (.slice ol ps.length cll) (.slice ov 1 cv) (.slice on 1 cn) (.slice om 1 cm) (.slice od1 0 cd1) (.slice ol1 ps.length cl1) (.slice ov1 1 cv1) (.slice on1 1 cn1) (.slice om1 1 cm1) (.slice none 0 0) :=
    ⟨(hbb.block _ (by omega)).trans HBX.out.1, (hbb.block _ hz0).trans HBX.out.2.1, hnd, HBX.out.2.2.trans (hbb.mono (by omega)), by omega⟩
  have ho2 := ho1.below hba
  have HWK := Lib.hid (And.intro hwk ho2)
  have HST := Lib.hid (World.setRow_alloc_new W1 zsN.toArray (stC p (.slice od1 0 cd1) (.slice ol1 ps.length cl1) (.slice ov1 1 cv1) (.slice on1 1 cn1) (.slice om1 1 cm1) ++ [Value.slice none 0 0]).toArray 103)
  have HZ := Lib.hid (And.intro hz0 hz1)
  have HQ := Lib.hid (And.intro hqs hql)
  clear hb1 ho1 hnd hba hbb hwk ho2 hqs hql hz1 x0 x1 x2 x3 x4 x5 x6 x7 x8 x9 x10 x11 x12 x13 x14 x15 xl HC
  go_upto_region 2 with (refine wpList_store_row rfl 103 (.tmp 12) (.tmp 15) rfl W1.heap.size (stC p (.slice od1 0 cd1) (.slice ol1 ps.length cl1) (.slice ov1 1 cv1) (.slice on1 1 cn1) (.slice om1 1 cm1) ++ [Value.slice none 0 0]).toArray rfl rfl 103 zsN.toArray (heap_alloc_new W1 _) (by kernel_rfl) rfl (by simp [stC, Value.oneCell']) ?_)
  unfold zsN at HST
  rw [HST.out]
  obtain ⟨X, hX⟩ : ∃ X, W1.heap.size = X := ⟨_, rfl⟩
  have HWX := Lib.hid (show W.heap.size ≤ X by have := HZ.out; omega)
  rw [hX] at HWK ⊢
  clear HST HZ hX
  generalize W1.alloc (.cells (stC p (.slice od1 0 cd1) (.slice ol1 ps.length cl1) (.slice ov1 1 cv1) (.slice on1 1 cn1) (.slice om1 1 cm1) ++ [Value.slice none 0 0]).toArray 103) = W2 at *
  have HWH := Lib.hid (fun Wx => whole_one p (.slice od 0 cd) ol ov on om ps.length cll cv cn cm Wx HE.out.1 HE.out.2.1 ⟨_, _, rfl⟩)
  unfold stV stC at HWH
  have x0 : W2.cell? ⟨w.heap.size, 0, none⟩ = some (.int .i64 p.n) := cellk HWK.out.1.box rfl
  have x1 : W2.cell? ⟨w.heap.size, 1, none⟩ = some (.int .i64 p.s) := cellk HWK.out.1.box rfl
  have x2 : W2.cell? ⟨w.heap.size, 2, none⟩ = some (.int .i64 p.k) := cellk HWK.out.1.box rfl
  have x3 : W2.cell? ⟨w.heap.size, 3, none⟩ = some (.int .u64 (p.tm : Int)) := cellk HWK.out.1.box rfl
  have x4 : W2.cell? ⟨w.heap.size, 4, none⟩ = some (.int .i64 p.vt) := cellk HWK.out.1.box rfl
  have x5 : W2.cell? ⟨w.heap.size, 5, none⟩ = some (.int .u64 (p.bs : Int)) := cellk HWK.out.1.box rfl
  have x6 : W2.cell? ⟨w.heap.size, 6, none⟩ = some (.int .u64 (p.bt : Int)) := cellk HWK.out.1.box rfl
  have x7 : W2.cell? ⟨w.heap.size, 7, none⟩ = some (.slice od 0 cd) := cellk HWK.out.1.box rfl
  have x8 : W2.cell? ⟨w.heap.size, 8, none⟩ = some (.slice ol ps.length cll) := cellk HWK.out.1.box rfl
  have x9 : W2.cell? ⟨w.heap.size, 9, none⟩ = some (.int .u64 (p.cm : Int)) := cellk HWK.out.1.box rfl
  have x10 : W2.cell? ⟨w.heap.size, 10, none⟩ = some (.int .u8 (p.rl : Int)) := cellk HWK.out.1.box rfl
  have x11 : W2.cell? ⟨w.heap.size, 11, none⟩ = some (.int .i64 p.ld) := cellk HWK.out.1.box rfl
  have x12 : W2.cell? ⟨w.heap.size, 12, none⟩ = some (.int .i64 p.lf) := cellk HWK.out.1.box rfl
  have x13 : W2.cell? ⟨w.heap.size, 13, none⟩ = some (.slice ov 1 cv) := cellk HWK.out.1.box rfl
  have x14 : W2.cell? ⟨w.heap.size, 14, none⟩ = some (.slice on 1 cn) := cellk HWK.out.1.box rfl
  have x15 : W2.cell? ⟨w.heap.size, 15, none⟩ = some (.slice om 1 cm) := cellk HWK.out.1.box rfl
  have xl := lt_of_block HWK.out.1.box
  go_wp2_with fail
  with_reducible refine (HWH.out W2).mono ?_
  rintro e W3 ⟨rfl, hb3⟩
  have hwk3 := HWK.out.1.below hb3
  have ho3 := HWK.out.2.below hb3
  have y10 : W3.cell? ⟨w.heap.size, 10, none⟩ = some (.int .u8 2) := by rw [show (2 : Int) = ((2 : Nat) : Int) from rfl, ← HE.out.2.2.2]; exact cellk hwk3.box rfl
  have yl := lt_of_block hwk3.box
  have hcI : ¬ (2000 : Int) < (cl.length : Int) := by omega
  have hX3 := lt_of_block hwk3.nd
  have HAD := Lib.hid (add_one X W.heap.size sn nm p qs [.bool b] [Wd zn] (Wd zm) _ _ _ _ _ (.slice none 0 0) (.slice ou cl.length cu) cl W3 hwk3.nd ho3 HE.out.1 HE.out.2.1 HE.out.2.2.1 (HU.out.below hwk3.bel) (by omega) (by have := HQ.out.2; omega) (by have := HWX.out; omega) (by have := HQ.out.2; omega))
  have HW3 := Lib.hid (And.intro hwk3 ho3)
  clear hwk3 ho3 hb3 HWH HWK x0 x1 x2 x3 x4 x5 x6 x7 x8 x9 x10 x11 x12 x13 x14 x15 xl
  go_wp2_with fail
  with_reducible refine HAD.out.mono ?_
  rintro e W4 ⟨rfl, ol', cl', y, hn4, ho4, hk4⟩
  have hql := HQ.out.2
  rw [hql] at hn4 ho4
  clear hql
  obtain ⟨J, hJ⟩ : ∃ J, J = ps.length + 1 := ⟨_, rfl⟩
  rw [← hJ] at hn4 ho4 ⊢
  have hzW : w.heap.size + 1 < W.heap.size := lt_of_block HBX.out.2.1
  have hwk5 := HW3.out.1.kept hk4 (fun k hk => by
    have hL := HW3.out.1.lt
    have h4 := HW3.out.2
    rcases hk with hk | hk | hk
    · omega
    · have := (h4.hl.row.lt k hk).1; omega
    · have := (h4.hm.lt k hk).1; omega) hn4
  have HJ := Lib.hid hJ
  have hJ9 : J ≤ 1000 := by omega
  clear hJ hk4 hn4 HAD HW3 y10 yl hX3 HBX HO HU
  have hX5 := lt_of_block hwk5.nd
  have hlt5 := hwk5.lt
  have x0 : W4.cell? ⟨X, 0, none⟩ = some (.int .i64 p.n) := cellk hwk5.nd rfl
  have x1 : W4.cell? ⟨X, 1, none⟩ = some (.int .i64 p.s) := cellk hwk5.nd rfl
  have x2 : W4.cell? ⟨X, 2, none⟩ = some (.int .i64 p.k) := cellk hwk5.nd rfl
  have x3 : W4.cell? ⟨X, 3, none⟩ = some (.int .u64 (p.tm : Int)) := cellk hwk5.nd rfl
  have x4 : W4.cell? ⟨X, 4, none⟩ = some (.int .i64 p.vt) := cellk hwk5.nd rfl
  have x5 : W4.cell? ⟨X, 5, none⟩ = some (.int .u64 (p.bs : Int)) := cellk hwk5.nd rfl
  have x6 : W4.cell? ⟨X, 6, none⟩ = some (.int .u64 (p.bt : Int)) := cellk hwk5.nd rfl
  have x7 : W4.cell? ⟨X, 7, none⟩ = some (.slice od1 0 cd1) := cellk hwk5.nd rfl
  have x8 : W4.cell? ⟨X, 8, none⟩ = some (.slice ol' J cl') := cellk hwk5.nd rfl
  have x9 : W4.cell? ⟨X, 9, none⟩ = some (.int .u64 (J : Int)) := cellk hwk5.nd rfl
  have x10 : W4.cell? ⟨X, 10, none⟩ = some (.int .u8 (p.rl : Int)) := cellk hwk5.nd rfl
  have x11 : W4.cell? ⟨X, 11, none⟩ = some (.int .i64 p.ld) := cellk hwk5.nd rfl
  have x12 : W4.cell? ⟨X, 12, none⟩ = some (.int .i64 p.lf) := cellk hwk5.nd rfl
  have x13 : W4.cell? ⟨X, 13, none⟩ = some (.slice ov1 1 cv1) := cellk hwk5.nd rfl
  have x14 : W4.cell? ⟨X, 14, none⟩ = some (.slice on1 1 cn1) := cellk hwk5.nd rfl
  have x15 : W4.cell? ⟨X, 15, none⟩ = some (.slice om1 1 cm1) := cellk hwk5.nd rfl
  have x16 : W4.cell? ⟨X, 16, none⟩ = some (.slice none 0 0) := cellk hwk5.nd rfl
  have HL := Lib.hid (fun Wx => last_one { p with cm := J } (.slice od1 0 cd1) (.slice ov1 1 cv1) (.slice on1 1 cn1) (.slice om1 1 cm1) ol' J cl' Wx HE.out.2.2.1 ⟨_, _, rfl⟩ (by omega))
  unfold stV stC at HL
  try dsimp only at HL
  have HW5 := Lib.hid (And.intro hwk5 ho4)
  clear hwk5 ho4
  go_wp2_with fail
  refine wp_region_held_drew (S := fun w' => w'.cell? ⟨X, 0, none⟩ = some (.int .i64 p.n) ∧ w'.cell? ⟨X, 1, none⟩ = some (.int .i64 p.s) ∧ w'.cell? ⟨X, 2, none⟩ = some (.int .i64 p.k) ∧ w'.cell? ⟨X, 3, none⟩ = some (.int .u64 (p.tm : Int)) ∧ w'.cell? ⟨X, 4, none⟩ = some (.int .i64 p.vt) ∧ w'.cell? ⟨X, 5, none⟩ = some (.int .u64 (p.bs : Int)) ∧ w'.cell? ⟨X, 6, none⟩ = some (.int .u64 (p.bt : Int)) ∧ w'.cell? ⟨X, 7, none⟩ = some (.slice od1 0 cd1) ∧ w'.cell? ⟨X, 8, none⟩ = some (.slice ol' J cl') ∧ w'.cell? ⟨X, 9, none⟩ = some (.int .u64 (J : Int)) ∧ w'.cell? ⟨X, 10, none⟩ = some (.int .u8 (p.rl : Int)) ∧ w'.cell? ⟨X, 11, none⟩ = some (.int .i64 p.ld) ∧ w'.cell? ⟨X, 12, none⟩ = some (.int .i64 p.lf) ∧ w'.cell? ⟨X, 13, none⟩ = some (.slice ov1 1 cv1) ∧ w'.cell? ⟨X, 14, none⟩ = some (.slice on1 1 cn1) ∧ w'.cell? ⟨X, 15, none⟩ = some (.slice om1 1 cm1) ∧ w'.cell? ⟨X, 16, none⟩ = some (.slice none 0 0)) (by kernel_rfl) ⟨x0, x1, x2, x3, x4, x5, x6, x7, x8, x9, x10, x11, x12, x13, x14, x15, x16⟩ ?_
  intro hHeld
  refine wpAnyH_take (i := 0) (v := ?_) (by simp only [List.getElem?_toArray, List.getElem?_cons_zero]; rfl) (by kernel_rfl) (by kernel_rfl) (by kernel_rfl) (by intro _ _ _ h; exact h) (Or.inl ⟨by rfl, ?_⟩) (by assumption) ?_
  rotate_left
  · (intro w hSw; (try dsimp only at hSw); go_simp; try with_reducible rfl)
  try simp only [Act.put, List.setIfInBounds_toArray, List.set_cons_zero, List.set_cons_succ]
  refine wpAnyH_take (i := 1) (v := ?_) (by simp only [List.getElem?_toArray, List.getElem?_cons_succ, List.getElem?_cons_zero]; rfl) (by kernel_rfl) (by kernel_rfl) (by kernel_rfl) (by intro _ _ _ h; exact h) (Or.inl ⟨by rfl, ?_⟩) (by assumption) ?_
  rotate_left
  · (intro w hSw; (try dsimp only at hSw); go_simp; try with_reducible rfl)
  try simp only [Act.put, List.setIfInBounds_toArray, List.set_cons_zero, List.set_cons_succ]
  refine wpAnyH_take (i := 2) (v := ?_) (by simp only [List.getElem?_toArray, List.getElem?_cons_succ, List.getElem?_cons_zero]; rfl) (by kernel_rfl) (by kernel_rfl) (by kernel_rfl) (by intro _ _ _ h; exact h) (Or.inl ⟨by rfl, ?_⟩) (by assumption) ?_
  rotate_left
  · (intro w hSw; (try dsimp only at hSw); go_simp; try with_reducible rfl)
  try simp only [Act.put, List.setIfInBounds_toArray, List.set_cons_zero, List.set_cons_succ]
  refine wpAnyH_take (i := 3) (v := ?_) (by simp only [List.getElem?_toArray, List.getElem?_cons_succ, List.getElem?_cons_zero]; rfl) (by kernel_rfl) (by kernel_rfl) (by kernel_rfl) (by intro _ _ _ h; exact h) (Or.inl ⟨by rfl, ?_⟩) (by assumption) ?_
  rotate_left
  · (intro w hSw; (try dsimp only at hSw); go_simp; try with_reducible rfl)
  try simp only [Act.put, List.setIfInBounds_toArray, List.set_cons_zero, List.set_cons_succ]
  refine wpAnyH_take (i := 4) (v := ?_) (by simp only [List.getElem?_toArray, List.getElem?_cons_succ, List.getElem?_cons_zero]; rfl) (by kernel_rfl) (by kernel_rfl) (by kernel_rfl) (by intro _ _ _ h; exact h) (Or.inl ⟨by rfl, ?_⟩) (by assumption) ?_
  rotate_left
  · (intro w hSw; (try dsimp only at hSw); go_simp; try with_reducible rfl)
  try simp only [Act.put, List.setIfInBounds_toArray, List.set_cons_zero, List.set_cons_succ]
  refine wpAnyH_take (i := 5) (v := ?_) (by simp only [List.getElem?_toArray, List.getElem?_cons_succ, List.getElem?_cons_zero]; rfl) (by kernel_rfl) (by kernel_rfl) (by kernel_rfl) (by intro _ _ _ h; exact h) (Or.inl ⟨by rfl, ?_⟩) (by assumption) ?_
  rotate_left
  · (intro w hSw; (try dsimp only at hSw); go_simp; try with_reducible rfl)
  try simp only [Act.put, List.setIfInBounds_toArray, List.set_cons_zero, List.set_cons_succ]
  refine wpAnyH_ready (rs := [6]) (by kernel_rfl) (by simp) ?_
  refine AllReadyH.cons (by simp only [List.getElem?_toArray, List.getElem?_cons_succ, List.getElem?_cons_zero]; rfl) (fun K hK => ?_) AllReadyH.nil
  go_simp
  with_reducible refine (HL.out _).mono ?_
  rintro e W5 ⟨rfl, hb5⟩
  have hXd : X < W4.drew.heap.size := hX5
  obtain ⟨h0, h1, h2, h3, h4, h5, h6, h7, h8, h9, h10, h11, h12, h13, h14, h15, h16⟩ := hHeld
  have hS3 : W5.cell? ⟨X, 0, none⟩ = some (.int .i64 p.n) ∧ W5.cell? ⟨X, 1, none⟩ = some (.int .i64 p.s) ∧ W5.cell? ⟨X, 2, none⟩ = some (.int .i64 p.k) ∧ W5.cell? ⟨X, 3, none⟩ = some (.int .u64 (p.tm : Int)) ∧ W5.cell? ⟨X, 4, none⟩ = some (.int .i64 p.vt) ∧ W5.cell? ⟨X, 5, none⟩ = some (.int .u64 (p.bs : Int)) ∧ W5.cell? ⟨X, 6, none⟩ = some (.int .u64 (p.bt : Int)) ∧ W5.cell? ⟨X, 7, none⟩ = some (.slice od1 0 cd1) ∧ W5.cell? ⟨X, 8, none⟩ = some (.slice ol' J cl') ∧ W5.cell? ⟨X, 9, none⟩ = some (.int .u64 (J : Int)) ∧ W5.cell? ⟨X, 10, none⟩ = some (.int .u8 (p.rl : Int)) ∧ W5.cell? ⟨X, 11, none⟩ = some (.int .i64 p.ld) ∧ W5.cell? ⟨X, 12, none⟩ = some (.int .i64 p.lf) ∧ W5.cell? ⟨X, 13, none⟩ = some (.slice ov1 1 cv1) ∧ W5.cell? ⟨X, 14, none⟩ = some (.slice on1 1 cn1) ∧ W5.cell? ⟨X, 15, none⟩ = some (.slice om1 1 cm1) ∧ W5.cell? ⟨X, 16, none⟩ = some (.slice none 0 0) := ⟨(hb5.cell (p := ⟨X, 0, none⟩) hXd).trans h0, (hb5.cell (p := ⟨X, 1, none⟩) hXd).trans h1, (hb5.cell (p := ⟨X, 2, none⟩) hXd).trans h2, (hb5.cell (p := ⟨X, 3, none⟩) hXd).trans h3, (hb5.cell (p := ⟨X, 4, none⟩) hXd).trans h4, (hb5.cell (p := ⟨X, 5, none⟩) hXd).trans h5, (hb5.cell (p := ⟨X, 6, none⟩) hXd).trans h6, (hb5.cell (p := ⟨X, 7, none⟩) hXd).trans h7, (hb5.cell (p := ⟨X, 8, none⟩) hXd).trans h8, (hb5.cell (p := ⟨X, 9, none⟩) hXd).trans h9, (hb5.cell (p := ⟨X, 10, none⟩) hXd).trans h10, (hb5.cell (p := ⟨X, 11, none⟩) hXd).trans h11, (hb5.cell (p := ⟨X, 12, none⟩) hXd).trans h12, (hb5.cell (p := ⟨X, 13, none⟩) hXd).trans h13, (hb5.cell (p := ⟨X, 14, none⟩) hXd).trans h14, (hb5.cell (p := ⟨X, 15, none⟩) hXd).trans h15, (hb5.cell (p := ⟨X, 16, none⟩) hXd).trans h16⟩
  have hw6 := HW5.out.1.below (show Below W4.heap.size W4 W5 from (Below.refl _ W4).drew.trans hb5)
  have ho6 := HW5.out.2.below (show Below W4.heap.size W4 W5 from (Below.refl _ W4).drew.trans hb5)
  have HW6 := Lib.hid (And.intro hw6 ho6)
  clear x0 x1 x2 x3 x4 x5 x6 x7 x8 x9 x10 x11 x12 x13 x14 x15 x16 hb5 HL hw6 ho6 HW5 h0 h1 h2 h3 h4 h5 h6 h7 h8 h9 h10 h11 h12 h13 h14 h15 h16
  dsimp only
  refine hK.out _ _ hS3 (fun hHeld => ?_)
  clear hK K
  try simp only [Act.put, List.setIfInBounds_toArray, List.set_cons_zero, List.set_cons_succ]
  obtain ⟨h0, h1, h2, h3, h4, h5, h6, h7, h8, h9, h10, h11, h12, h13, h14, h15, h16⟩ := hS3
  refine wpAnyH_ready (rs := [7]) (by kernel_rfl) (by simp) ?_
  refine AllReadyH.cons (by simp only [List.getElem?_toArray, List.getElem?_cons_succ, List.getElem?_cons_zero]; rfl) (fun K hK => ?_) AllReadyH.nil
  refine step_store_row rfl 41 (.tmp 8) (.tmp 36) rfl (w.heap.size + 1) (stC { p with cm := J } (.slice od1 0 cd1) (.slice ol' J cl') (.slice ov1 1 cv1) (.slice on1 1 cn1) (.slice om1 1 cm1)).toArray rfl rfl 41 zsC.toArray HW6.out.1.res (by kernel_rfl) rfl (by simp [stC, Value.oneCell']) ?_
  have hXR : X ≠ w.heap.size + 1 := by omega
  refine hK.out _ _ ⟨(cell_setRow_other _ _ _ ⟨X, 0, none⟩ hXR).trans h0, (cell_setRow_other _ _ _ ⟨X, 1, none⟩ hXR).trans h1, (cell_setRow_other _ _ _ ⟨X, 2, none⟩ hXR).trans h2, (cell_setRow_other _ _ _ ⟨X, 3, none⟩ hXR).trans h3, (cell_setRow_other _ _ _ ⟨X, 4, none⟩ hXR).trans h4, (cell_setRow_other _ _ _ ⟨X, 5, none⟩ hXR).trans h5, (cell_setRow_other _ _ _ ⟨X, 6, none⟩ hXR).trans h6, (cell_setRow_other _ _ _ ⟨X, 7, none⟩ hXR).trans h7, (cell_setRow_other _ _ _ ⟨X, 8, none⟩ hXR).trans h8, (cell_setRow_other _ _ _ ⟨X, 9, none⟩ hXR).trans h9, (cell_setRow_other _ _ _ ⟨X, 10, none⟩ hXR).trans h10, (cell_setRow_other _ _ _ ⟨X, 11, none⟩ hXR).trans h11, (cell_setRow_other _ _ _ ⟨X, 12, none⟩ hXR).trans h12, (cell_setRow_other _ _ _ ⟨X, 13, none⟩ hXR).trans h13, (cell_setRow_other _ _ _ ⟨X, 14, none⟩ hXR).trans h14, (cell_setRow_other _ _ _ ⟨X, 15, none⟩ hXR).trans h15, (cell_setRow_other _ _ _ ⟨X, 16, none⟩ hXR).trans h16⟩ (fun hHeld => ?_)
  clear hK K
  try simp only [Act.put]
  refine wpAnyH_take (i := 8) (v := ?_) (by simp only [List.getElem?_toArray, List.getElem?_cons_succ, List.getElem?_cons_zero]; rfl) (by kernel_rfl) (by kernel_rfl) (by kernel_rfl) (by intro _ _ _ h; exact h) (Or.inl ⟨by rfl, ?_⟩) (by assumption) ?_
  rotate_left
  · (intro w hSw; (try dsimp only at hSw); go_simp; try with_reducible rfl)
  try simp only [Act.put, List.setIfInBounds_toArray, List.set_cons_zero, List.set_cons_succ]
  refine wpAnyH_take (i := 9) (v := ?_) (by simp only [List.getElem?_toArray, List.getElem?_cons_succ, List.getElem?_cons_zero]; rfl) (by kernel_rfl) (by kernel_rfl) (by kernel_rfl) (by intro _ _ _ h; exact h) (Or.inl ⟨by rfl, ?_⟩) (by assumption) ?_
  rotate_left
  · (intro w hSw; (try dsimp only at hSw); go_simp; try with_reducible rfl)
  try simp only [Act.put, List.setIfInBounds_toArray, List.set_cons_zero, List.set_cons_succ]
  refine wpAnyH_take (i := 10) (v := ?_) (by simp only [List.getElem?_toArray, List.getElem?_cons_succ, List.getElem?_cons_zero]; rfl) (by kernel_rfl) (by kernel_rfl) (by kernel_rfl) (by intro _ _ _ h; exact h) (Or.inl ⟨by rfl, ?_⟩) (by assumption) ?_
  rotate_left
  · (intro w hSw; (try dsimp only at hSw); go_simp; try with_reducible rfl)
  try simp only [Act.put, List.setIfInBounds_toArray, List.set_cons_zero, List.set_cons_succ]
  refine wpAnyH_done (by kernel_rfl) ?_ _
  have hf : (W5.setRow (w.heap.size + 1) (stC { p with cm := J } (.slice od1 0 cd1) (.slice ol' J cl') (.slice ov1 1 cv1) (.slice on1 1 cn1) (.slice om1 1 cm1)).toArray).heap[w.heap.size + 1]? = some (.cells (stC { p with cm := J } (.slice od1 0 cd1) (.slice ol' J cl') (.slice ov1 1 cv1) (.slice on1 1 cn1) (.slice om1 1 cm1)).toArray 41 (0, 0)) := setRow_heap W5 (w.heap.size + 1) _ (stC { p with cm := J } (.slice od1 0 cd1) (.slice ol' J cl') (.slice ov1 1 cv1) (.slice on1 1 cn1) (.slice om1 1 cm1)).toArray 41 (0, 0) HW6.out.1.res
  have hk := row_kept W5 (w.heap.size + 1) (stC { p with cm := J } (.slice od1 0 cd1) (.slice ol' J cl') (.slice ov1 1 cv1) (.slice on1 1 cn1) (.slice om1 1 cm1)).toArray
  have hst := (HW6.out.2.kept hk (fun g hg e => by omega)).base (show w.heap.size ≤ W.heap.size by omega)
  have hbl := HW6.out.1.bel.trans (hk.below HW6.out.1.bel.size (fun g e => by omega))
  have HFI := Lib.hid (And.intro hf (And.intro hst hbl))
  clear hHeld h0 h1 h2 h3 h4 h5 h6 h7 h8 h9 h10 h11 h12 h13 h14 h15 h16 hf hk hst hbl HW6
  have hq : (qs ++ [((⟨p.tm, sn, nm, cl⟩ : En), y)]).map Prod.fst = ps.map Prod.fst ++ [⟨p.tm, sn, nm, cl⟩] := by rw [List.map_append, HQ.out.1]; rfl
  have HQ2 := Lib.hid hq
  clear hq
  go_wp2_with fail
  have hj := HJ.out
  clear HJ
  subst hj
  exact prop_ret HFI.out.1 HQ2.out HFI.out.2.1 HFI.out.2.2 rfl rfl rfl rfl
end Go.Proofs.Ytpnlfpckafpkbaa
