/- One node of one: it stands. -/
import Derived.Test.YtjbailnnaigjbaaBalH
import Derived.Lib.SliceRun
namespace Go.Proofs.Ytjbailnnaigjbaa
open Go.RowKit OctM

theorem own_fl {w : World} {base : Nat} {e : TypeId} {size g c : Nat} {n : Nat} {xs : List Value} (h : w.ownsRow base e size (.slice (some ⟨g, 0, none⟩) n c) n xs) : (∀ i, w.frozen? ⟨g, i, none⟩ = false) ∧ g < w.heap.size := by
  rcases h.2 with ⟨hv, _⟩ | ⟨g', c', cur, hv, _, hg, _⟩
  · cases hv
  · injection hv with hv _ _
    injection hv with hv
    injection hv with hv _ _
    subst hv
    exact ⟨fun i => free_of hg i, lt_of_block hg⟩

/-- What stand leaves. -/
def StandP (X base : Nat) (p : Sc) (draw : Int) (d l v n m o : Value) (w : World) (e : Ending) (w' : World) : Prop :=
  e = .returned (.tuple #[]) ∧ ∃ ol' cl' y, NdAt w' X { p with tm := p.tm + 1, vt := 0, rl := 2, ld := 0, cm := 1, lf := waitS p.k draw } d (.slice ol' 1 cl') v n m o ∧ StO w' base [] [(⟨p.tm + 1, 0, 0, []⟩, y)] [.bool true] [Wd 1] [Wd 1] d (.slice ol' 1 cl') v n m ∧
    Kept (fun k => k = X ∨ l.ownBlock = some k ∨ v.ownBlock = some k ∨ n.ownBlock = some k ∨ m.ownBlock = some k) w w'

set_option maxHeartbeats 8000000 in
set_option maxRecDepth 100000 in
theorem stand_one (X base : Nat) (p : Sc) (draw : Int) (b : Bool) (zn zm : Value) (d l v n m o : Value) (w : World) (h : NdAt w X p d l v n m o) (hO : StO w base [] [] [.bool b] [zn] [zm] d l v n m) (h1 : p.n = 1) (h2 : p.s = 0) (h3 : p.bs = 0) (h4 : p.bt = 0) (h5 : p.cm = 0) (h6 : p.tm ≤ 1000) (h7 : 0 ≤ p.k) (h8 : p.k ≤ 1000) (hbase : base ≤ w.heap.size) :
    Calls Try.prog 43 #[.pointer (some ⟨X, 0, none⟩), .int .i64 draw] w (StandP X base p draw d l v n m o w) := by
  obtain ⟨ol, cll, rfl⟩ := own_slice' hO.hl.row
  obtain ⟨od, cd, rfl⟩ := own_slice' hO.hd
  obtain ⟨gv, cv, rfl, hvb, hvl, hvf, hvc⟩ := own_at hO.hv (by simp)
  have hX := lt_of_block h
  have c1 : w.cell? ⟨X, 1, none⟩ = some (.int .i64 0) := by rw [← h2]; exact cellk h rfl
  have c3 : w.cell? ⟨X, 3, none⟩ = some (.int .u64 (p.tm : Int)) := cellk h rfl
  have c4 : w.cell? ⟨X, 4, none⟩ = some (.int .i64 p.vt) := cellk h rfl
  have c10 : w.cell? ⟨X, 10, none⟩ = some (.int .u8 (p.rl : Int)) := cellk h rfl
  have c11 : w.cell? ⟨X, 11, none⟩ = some (.int .i64 p.ld) := cellk h rfl
  have f3 := h.fz 3
  have f4 := h.fz 4
  have f10 := h.fz 10
  have f11 := h.fz 11
  have e1 : IntKind.u64.wrap ((p.tm : Int) + 1) = ((p.tm + 1 : Nat) : Int) := by rw [IntKind.wrap_u64]; omega
  obtain ⟨T, hT⟩ : ∃ T, T = p.tm + 1 := ⟨_, rfl⟩
  rw [← hT] at e1
  have hn1 := h.set 3 (.int .u64 (T : Int))
  have hn2 := NdAt.set (p := { p with tm := T }) hn1 4 (.int .i64 0)
  have hn3 := NdAt.set (p := { p with tm := T, vt := 0 }) hn2 10 (.int .u8 1)
  have hn4 : NdAt ((((w.setCell ⟨X, 3, none⟩ (.int .u64 (T : Int))).setCell ⟨X, 4, none⟩ (.int .i64 0)).setCell ⟨X, 10, none⟩ (.int .u8 1)).setCell ⟨X, 11, none⟩ (.int .i64 (-1))) X { p with tm := T, vt := 0, rl := 1, ld := -1 } (.slice od 0 cd) (.slice ol 0 cll) (.slice (some ⟨gv, 0, none⟩) 1 cv) n m o := NdAt.set (p := { p with tm := T, vt := 0, rl := 1 }) hn3 11 (.int .i64 (-1))
  have hk4 : Kept (fun g => g = X) w ((((w.setCell ⟨X, 3, none⟩ (.int .u64 (T : Int))).setCell ⟨X, 4, none⟩ (.int .i64 0)).setCell ⟨X, 10, none⟩ (.int .u8 1)).setCell ⟨X, 11, none⟩ (.int .i64 (-1))) := ((keptX.trans keptX).trans keptX).trans keptX
  have ho4 := hO.nodeK h hk4
  have HE := Lib.hid (And.intro h1 (And.intro h2 (And.intro h3 (And.intro h4 h5))))
  have HT := Lib.hid hT
  have H7 := Lib.hid (And.intro h7 h8)
  have H4 := Lib.hid (And.intro hn4 (And.intro ho4 hk4))
  clear h hO h1 h2 h3 h4 h5 hn1 hn2 hn3 hn4 ho4 hk4 hT hvf hvc hvb h6 h7 h8
  go_enter Try.func43, Try.ntmps43
  go_upto_region 2 with fail
  generalize (((w.setCell ⟨X, 3, none⟩ (.int .u64 (T : Int))).setCell ⟨X, 4, none⟩ (.int .i64 0)).setCell ⟨X, 10, none⟩ (.int .u8 1)).setCell ⟨X, 11, none⟩ (.int .i64 (-1)) = W at *
  have HR := Lib.hid (rest_one X _ _ _ _ _ _ _ draw W H4.out.1 H7.out.1 H7.out.2)
  clear c1 c3 c4 c10 c11 f3 f4 f10 f11 e1
  go_upto_region 3 with (with_reducible refine HR.out.mono ?_; rintro e W1 ⟨rfl, hn1, hk1⟩)
  have ho1 := H4.out.2.1.nodeK H4.out.1 hk1
  have hk1' := H4.out.2.2.trans hk1
  have hX1 := lt_of_block hn1
  have c13 : W1.cell? ⟨X, 13, none⟩ = some (.slice (some ⟨gv, 0, none⟩) 1 cv) := cellk hn1 rfl
  obtain ⟨gv', cv', e1, -, hvl1, hvf1, hvc1⟩ := own_at ho1.hv (by simp)
  injection e1 with e1 e1a e1b
  injection e1 with e1
  injection e1 with e1 e1c e1d
  subst e1
  clear e1a e1b e1c e1d
  have v0 := hvc1 0 _ rfl
  have vf := hvf1 0
  have gvX : gv ≠ X := fun e => own_ne ho1.hv hn1 (by decide) (by simp [Value.ownBlock, e])
  have hcl : ∀ ty, (Builtin.clear_ #[36] ty #[.slice (some ⟨gv, 0, none⟩) 1 cv]).run Try.prog W1 = .ok (.tuple #[]) (W1.setCell ⟨gv, 0, none⟩ (.bool false)) := fun ty =>
    Lib.run_clear_slice W1 36 4 ty (.bool false) Try.underlying36 (by intro W; kernel_rfl) rfl rfl gv 0 1 cv (by omega) (fun j hj => by obtain rfl : j = 0 := (by omega); rw [v0]; rfl) (fun j hj => by obtain rfl : j = 0 := (by omega); exact vf)
  have HN1 := Lib.hid (And.intro hn1 (And.intro ho1 hk1'))
  clear hn1 ho1 hk1 hk1' hvf1 hvc1 H4 HR
  go_upto_region 4 with fail
  obtain ⟨hn1, ho1, hk1⟩ := HN1.out
  have hn2 := hn1.kept (S := fun k => k = gv) (keptX (X := gv) (i := 0) (u := .bool false)) (fun e => gvX e.symm)
  have rowV : ∀ (W W' : World) (u u' : Value), W' = W.setCell ⟨gv, 0, none⟩ u' → StO W base [] [] [u] [zn] [zm] (.slice od 0 cd) (.slice ol 0 cll) (.slice (some ⟨gv, 0, none⟩) 1 cv) n m → StO W' base [] [] [u'] [zn] [zm] (.slice od 0 cd) (.slice ol 0 cll) (.slice (some ⟨gv, 0, none⟩) 1 cv) n m := by
    rintro W W' u u' rfl hO
    exact ⟨own_kept hO.hd (S := fun k => k = gv) keptX (fun g hg e => own_ne2 hO.hd hO.hv (by decide) g hg (by rw [e]; rfl)),
      hO.hl.kept (S := fun k => k = gv) keptX (fun g hg e => own_ne2 hO.hl.row hO.hv (by decide) g hg (by rw [e]; rfl)) (fun q hq g hg e => own_ne2 (hO.hl.cells q hq) hO.hv (by decide) g hg (by rw [e]; rfl)),
      own_set (k := 0) (u := u') hO.hv, own_kept hO.hn (S := fun k => k = gv) keptX (fun g hg e => own_ne2 hO.hn hO.hv (by decide) g hg (by rw [e]; rfl)),
      own_kept hO.hm (S := fun k => k = gv) keptX (fun g hg e => own_ne2 hO.hm hO.hv (by decide) g hg (by rw [e]; rfl)), hO.nm⟩
  have ho2 := rowV _ _ _ (.bool false) rfl ho1
  have hk2 : Kept (fun k => k = X ∨ (Value.slice (some ⟨gv, 0, none⟩) 1 cv).ownBlock = some k) w (W1.setCell ⟨gv, 0, none⟩ (.bool false)) := (hk1.weak fun k _ hk => .inl hk).trans ((keptX (X := gv)).weak fun k _ hk => .inr (by rw [hk]; rfl))
  have w0 : (W1.setCell ⟨gv, 0, none⟩ (.bool false)).cell? ⟨gv, 0, none⟩ = some (.bool false) := World.cell?_setCell_same _ _ _ v0
  generalize W1.setCell ⟨gv, 0, none⟩ (.bool false) = W2 at *
  have x1 : W2.cell? ⟨X, 1, none⟩ = some (.int .i64 0) := by rw [← HE.out.2.1]; exact cellk hn2 rfl
  have x13 : W2.cell? ⟨X, 13, none⟩ = some (.slice (some ⟨gv, 0, none⟩) 1 cv) := cellk hn2 rfl
  have hX2 := lt_of_block hn2
  obtain ⟨hvf2, hvl2⟩ := own_fl ho2.hv
  have vf2 := hvf2 0
  have h01 : (0 : Int) < 1 := by decide
  have ho3 := rowV _ _ _ (.bool true) rfl ho2
  have hn3 := hn2.kept (S := fun k => k = gv) (keptX (X := gv) (i := 0) (u := .bool true)) (fun e => gvX e.symm)
  have hk3 : Kept (fun k => k = X ∨ (Value.slice (some ⟨gv, 0, none⟩) 1 cv).ownBlock = some k) w (W2.setCell ⟨gv, 0, none⟩ (.bool true)) := hk2.trans ((keptX (X := gv)).weak fun k _ hk => .inr (by rw [hk]; rfl))
  have HN3 := Lib.hid (And.intro hn3 (And.intro ho3 hk3))
  clear hn1 ho1 hk1 hn2 ho2 hk2 rowV hn3 ho3 hk3 hvf2 HN1 hcl c13 v0 vf hvl1 hX1
  go_region
  have HN3d : Hid (NdAt (W2.setCell ⟨gv, 0, none⟩ (.bool true)).drew X { p with tm := T, vt := 0, rl := 1, ld := -1, lf := waitS p.k draw } (.slice od 0 cd) (.slice ol 0 cll) (.slice (some ⟨gv, 0, none⟩) 1 cv) n m o ∧ StO (W2.setCell ⟨gv, 0, none⟩ (.bool true)).drew base [] [] [.bool true] [zn] [zm] (.slice od 0 cd) (.slice ol 0 cll) (.slice (some ⟨gv, 0, none⟩) 1 cv) n m ∧ Kept (fun k => k = X ∨ (Value.slice (some ⟨gv, 0, none⟩) 1 cv).ownBlock = some k) w (W2.setCell ⟨gv, 0, none⟩ (.bool true)).drew) :=
    Lib.hid ⟨HN3.out.1, HN3.out.2.1.kept (S := fun _ => False) (Kept.refl _ _).drew (fun _ _ h => h), HN3.out.2.2.drew⟩
  clear HN3
  generalize (W2.setCell ⟨gv, 0, none⟩ (.bool true)).drew = W3 at *
  obtain ⟨hn3, ho3, hk3⟩ := HN3d.out
  have HL := Lib.hid (fun W => last_one { p with tm := T, vt := 0, rl := 1, ld := -1, lf := waitS p.k draw } (.slice od 0 cd) (.slice (some ⟨gv, 0, none⟩) 1 cv) n m ol 0 cll W HE.out.2.2.1 ⟨_, _, rfl⟩ (by omega))
  have HT0 := Lib.hid (fun W => term_zero { p with tm := T, vt := 0, rl := 1, ld := -1, lf := waitS p.k draw } (.slice od 0 cd) (.slice (some ⟨gv, 0, none⟩) 1 cv) n m ol 0 cll W HE.out.2.2.1 HE.out.2.2.2.1 ⟨_, _, rfl⟩ (by omega))
  unfold stV stC at HL HT0
  dsimp only at HL HT0
  simp only [show ((1 : Nat) : Int) = 1 from rfl, show ((0 : Nat) : Int) = 0 from rfl] at HL HT0
  have x0 : W3.cell? ⟨X, 0, none⟩ = some (.int .i64 p.n) := cellk hn3 rfl
  have x1 : W3.cell? ⟨X, 1, none⟩ = some (.int .i64 p.s) := cellk hn3 rfl
  have x2 : W3.cell? ⟨X, 2, none⟩ = some (.int .i64 p.k) := cellk hn3 rfl
  have x3 : W3.cell? ⟨X, 3, none⟩ = some (.int .u64 (T : Int)) := cellk hn3 rfl
  have x4 : W3.cell? ⟨X, 4, none⟩ = some (.int .i64 0) := cellk hn3 rfl
  have x5 : W3.cell? ⟨X, 5, none⟩ = some (.int .u64 (p.bs : Int)) := cellk hn3 rfl
  have x6 : W3.cell? ⟨X, 6, none⟩ = some (.int .u64 (p.bt : Int)) := cellk hn3 rfl
  have x7 : W3.cell? ⟨X, 7, none⟩ = some (.slice od 0 cd) := cellk hn3 rfl
  have x8 : W3.cell? ⟨X, 8, none⟩ = some (.slice ol 0 cll) := cellk hn3 rfl
  have x9 : W3.cell? ⟨X, 9, none⟩ = some (.int .u64 (p.cm : Int)) := cellk hn3 rfl
  have x10 : W3.cell? ⟨X, 10, none⟩ = some (.int .u8 1) := cellk hn3 rfl
  have x11 : W3.cell? ⟨X, 11, none⟩ = some (.int .i64 (-1)) := cellk hn3 rfl
  have x12 : W3.cell? ⟨X, 12, none⟩ = some (.int .i64 (waitS p.k draw)) := cellk hn3 rfl
  have x13 : W3.cell? ⟨X, 13, none⟩ = some (.slice (some ⟨gv, 0, none⟩) 1 cv) := cellk hn3 rfl
  have x14 : W3.cell? ⟨X, 14, none⟩ = some (n) := cellk hn3 rfl
  have x15 : W3.cell? ⟨X, 15, none⟩ = some (m) := cellk hn3 rfl
  have hX3 := lt_of_block hn3
  have HN3 := Lib.hid (And.intro hn3 (And.intro ho3 hk3))
  clear hn3 ho3 hk3 w0 hX2 hvl2 vf2 HN3d
  go_wp2_with fail
  with_reducible refine (HL.out W3).mono ?_
  rintro e W4 ⟨rfl, hb4⟩
  obtain ⟨hn3, ho3, hk3⟩ := HN3.out
  have hn4 := hn3.below hb4
  have ho4 := ho3.below hb4
  have hk4 : Kept (fun k => k = X ∨ (Value.slice (some ⟨gv, 0, none⟩) 1 cv).ownBlock = some k) w W4 := hk3.trans (kept_of_below hb4)
  clear x0 x1 x2 x3 x4 x5 x6 x7 x8 x9 x10 x11 x12 x13 x14 x15 hn3 ho3 hk3 hb4 HN3 HL
  have x0 : W4.cell? ⟨X, 0, none⟩ = some (.int .i64 p.n) := cellk hn4 rfl
  have x1 : W4.cell? ⟨X, 1, none⟩ = some (.int .i64 p.s) := cellk hn4 rfl
  have x2 : W4.cell? ⟨X, 2, none⟩ = some (.int .i64 p.k) := cellk hn4 rfl
  have x3 : W4.cell? ⟨X, 3, none⟩ = some (.int .u64 (T : Int)) := cellk hn4 rfl
  have x4 : W4.cell? ⟨X, 4, none⟩ = some (.int .i64 0) := cellk hn4 rfl
  have x5 : W4.cell? ⟨X, 5, none⟩ = some (.int .u64 (p.bs : Int)) := cellk hn4 rfl
  have x6 : W4.cell? ⟨X, 6, none⟩ = some (.int .u64 (p.bt : Int)) := cellk hn4 rfl
  have x7 : W4.cell? ⟨X, 7, none⟩ = some (.slice od 0 cd) := cellk hn4 rfl
  have x8 : W4.cell? ⟨X, 8, none⟩ = some (.slice ol 0 cll) := cellk hn4 rfl
  have x9 : W4.cell? ⟨X, 9, none⟩ = some (.int .u64 (p.cm : Int)) := cellk hn4 rfl
  have x10 : W4.cell? ⟨X, 10, none⟩ = some (.int .u8 1) := cellk hn4 rfl
  have x11 : W4.cell? ⟨X, 11, none⟩ = some (.int .i64 (-1)) := cellk hn4 rfl
  have x12 : W4.cell? ⟨X, 12, none⟩ = some (.int .i64 (waitS p.k draw)) := cellk hn4 rfl
  have x13 : W4.cell? ⟨X, 13, none⟩ = some (.slice (some ⟨gv, 0, none⟩) 1 cv) := cellk hn4 rfl
  have x14 : W4.cell? ⟨X, 14, none⟩ = some (n) := cellk hn4 rfl
  have x15 : W4.cell? ⟨X, 15, none⟩ = some (m) := cellk hn4 rfl
  have hX4 := lt_of_block hn4
  have HN4 := Lib.hid (And.intro hn4 (And.intro ho4 hk4))
  clear hn4 ho4 hk4
  go_wp2_with fail
  with_reducible refine (HT0.out W4).mono ?_
  rintro e W5 ⟨rfl, hb5⟩
  obtain ⟨hn4, ho4, hk4⟩ := HN4.out
  have hn5 := hn4.below hb5
  have ho5 := ho4.below hb5
  have hk5 : Kept (fun k => k = X ∨ (Value.slice (some ⟨gv, 0, none⟩) 1 cv).ownBlock = some k) w W5 := hk4.trans (kept_of_below hb5)
  have HOT := Lib.hid (others_one X _ _ _ _ _ _ _ W5 hn5 HE.out.1 HE.out.2.1)
  have HWN := Lib.hid (win_one X base _ zn zm _ _ _ _ _ o W5 hn5 ho5 HE.out.1 HE.out.2.1 HE.out.2.2.1 rfl HE.out.2.2.2.2 (Nat.le_trans hbase hk5.size))
  have HK5 := Lib.hid hk5
  clear x0 x1 x2 x3 x4 x5 x6 x7 x8 x9 x10 x11 x12 x13 x14 x15 hn4 ho4 hk4 hb5 HN4 HT0 hn5 ho5 hk5
  go_wp2_with fail
  refine HOT.out.mono ?_
  rintro e w' ⟨rfl, rfl⟩
  go_wp2_with fail
  go_loop [71] (fun i => i = .int .i64 0) (fun _ => 0)
  case atStart => rfl
  case round =>
    subst hrel
    go_wp2_with fail
    refine HWN.out.mono ?_
    rintro e w6 ⟨rfl, ol', cl', y, hn6, ho6, hk6⟩
    have hT := HT.out
    have HFI := Lib.hid (show StandP X base p draw (.slice od 0 cd) (.slice ol 0 cll) (.slice (some ⟨gv, 0, none⟩) 1 cv) n m o w (.returned (.tuple #[])) w6 from
      ⟨rfl, ol', cl', y, by rw [← hT]; exact hn6, by rw [← hT]; exact ho6, (HK5.out.weak (fun k _ hk => by
        rcases hk with hk | hk
        · exact .inl hk
        · exact .inr (.inr (.inl hk)))).trans (hk6.weak (fun k _ hk => by
        rcases hk with hk | hk | hk | hk
        · exact .inl hk
        · exact .inr (.inl hk)
        · exact .inr (.inr (.inr (.inl hk)))
        · exact .inr (.inr (.inr (.inr hk)))))⟩)
    clear hn6 ho6 hk6 HK5 hT
    go_wp2_with fail
    go_end0
    exact HFI.out
end Go.Proofs.Ytjbailnnaigjbaa
