/- One node of one: it waits anew; it commits. -/
import Derived.Test.YtjbailnnaigjbaaBalD
namespace Go.Proofs.Ytjbailnnaigjbaa
open Go.RowKit OctM

theorem max_at (P : Program) (x y z : Int) (h : z = if y > x then y else x) (W : World) (ts : Array TypeId) (t : TypeId) : (Builtin.max_ ts t #[.int .i64 x, .int .i64 y]).run P W = .ok (.int .i64 z) W := by
  rw [run_max_int2, h]
theorem min_at (P : Program) (x y z : Int) (h : z = if y < x then y else x) (W : World) (ts : Array TypeId) (t : TypeId) : (Builtin.min_ ts t #[.int .i64 x, .int .i64 y]).run P W = .ok (.int .i64 z) W := by
  rw [run_min_int2, h]


theorem NdAt.set {w : World} {X : Nat} {p : Sc} {d l v n m o : Value} (h : NdAt w X p d l v n m o) (i : Nat) (u : Value) : (w.setCell ⟨X, i, none⟩ u).heap[X]? = some (.cells ((stC p d l v n m ++ [o]).set i u).toArray 93 (0, 0)) := by
  have := set_block (i := i) (u := u) h
  rw [List.setIfInBounds_toArray] at this
  exact this
theorem NdAt.kept {S : Nat → Prop} {w w' : World} {X : Nat} {p : Sc} {d l v n m o : Value} (h : NdAt w X p d l v n m o) (hk : Kept S w w') (hX : ¬ S X) : NdAt w' X p d l v n m o := (hk.block X (lt_of_block h) hX).trans h
theorem NdAt.below {w w' : World} {X : Nat} {p : Sc} {d l v n m o : Value} (h : NdAt w X p d l v n m o) (hb : Below w.heap.size w w') : NdAt w' X p d l v n m o := h.kept (kept_of_below (S := fun _ => False) hb) (fun h => h)
theorem NdAt.fz {w : World} {X : Nat} {p : Sc} {d l v n m o : Value} (h : NdAt w X p d l v n m o) (i : Nat) : w.frozen? ⟨X, i, none⟩ = false := free_of h i
theorem keptX {w : World} {X i : Nat} {u : Value} : Kept (fun g => g = X) w (w.setCell ⟨X, i, none⟩ u) := (Kept.refl (fun g => g = X) w).setCell (p := ⟨X, i, none⟩) (.inl rfl) u

/-- How long it waits. -/
def waitS (k draw : Int) : Int := k + (if k < (if 0 > draw then 0 else draw) then k else (if 0 > draw then 0 else draw))

set_option maxHeartbeats 4000000 in
set_option maxRecDepth 100000 in
theorem rest_one (X : Nat) (p : Sc) (d l v n m o : Value) (draw : Int) (w : World) (h : NdAt w X p d l v n m o) (hk0 : 0 ≤ p.k) (hk1 : p.k ≤ 1000) :
    Calls Try.prog 63 #[.pointer (some ⟨X, 0, none⟩), .int .i64 draw] w fun e w' => e = .returned (.tuple #[]) ∧ NdAt w' X { p with lf := waitS p.k draw } d l v n m o ∧ Kept (fun g => g = X) w w' := by
  have c2 : w.cell? ⟨X, 2, none⟩ = some (.int .i64 p.k) := cellk h rfl
  have c12 : w.cell? ⟨X, 12, none⟩ = some (.int .i64 p.lf) := cellk h rfl
  have f12 := h.fz 12
  have hX := lt_of_block h
  obtain ⟨z1, hz1⟩ : ∃ z1, z1 = if (0 : Int) > draw then 0 else draw := ⟨_, rfl⟩
  obtain ⟨z2, hz2⟩ : ∃ z2, z2 = if p.k < z1 then p.k else z1 := ⟨_, rfl⟩
  have hmx := max_at Try.prog draw 0 z1 hz1
  have hmn := min_at Try.prog z1 p.k z2 hz2
  have hw : waitS p.k draw = p.k + z2 := by unfold waitS; rw [hz2, hz1]
  have hz0 : 0 ≤ z2 ∧ z2 ≤ 1000 := by split at hz1 <;> split at hz2 <;> omega
  have e1 : IntKind.i64.wrap (p.k + z2) = p.k + z2 := IntWalk.i64_in _ (by omega)
  have hn := h.set 12 (.int .i64 (p.k + z2))
  have HN := Lib.hid (show NdAt (w.setCell ⟨X, 12, none⟩ (.int .i64 (p.k + z2))) X { p with lf := waitS p.k draw } d l v n m o by rw [hw]; exact hn)
  obtain ⟨K, hK⟩ : ∃ K, p.k = K := ⟨_, rfl⟩
  rw [hK] at c2 hmn e1 HN
  clear h hz1 hz2 hw hn hk0 hk1 hz0
  rw [hK]
  clear hK
  go_enter Try.func63, Try.ntmps63
  go_wp2_with fail
  go_region
  go_end0
  exact ⟨rfl, HN.out, keptX.drew⟩

set_option maxHeartbeats 4000000 in
set_option maxRecDepth 100000 in
theorem commit_one (X base gm cm k : Nat) (p : Sc) (ps : List (En × Value)) (x : En × Value) (d l v n o : Value) (w : World) (h : NdAt w X p d l v n (.slice (some ⟨gm, 0, none⟩) 1 cm) o) (h1 : p.n = 1) (hbs : p.bs = 0) (hd : nsz 0 d)
    (hm : w.cell? ⟨gm, 0, none⟩ = some (Wd (k + 1))) (hl : OwnL w base l ps) (hx : ps[k]? = some x) (hll : ps.length ≤ 1000) (ht : x.1.tm = p.tm) (hc : p.cm < k + 1) :
    Calls Try.prog 66 #[.pointer (some ⟨X, 0, none⟩)] w fun e w' => e = .returned (.tuple #[]) ∧ NdAt w' X { p with cm := k + 1 } d l v n (.slice (some ⟨gm, 0, none⟩) 1 cm) o ∧ Kept (fun g => g = X) w w' := by
  have hk := (List.getElem?_eq_some_iff.1 hx).1
  have hgm := World.block_lt_of_cell? w _ hm
  have c0 : w.cell? ⟨X, 0, none⟩ = some (.int .i64 1) := by rw [← h1]; exact cellk h rfl
  have c15 : w.cell? ⟨X, 15, none⟩ = some (.slice (some ⟨gm, 0, none⟩) 1 cm) := cellk h rfl
  have hX := lt_of_block h
  obtain ⟨W1, hW1⟩ : ∃ W1, w.alloc (.cells #[.slice (some ⟨gm, 0, none⟩) 1 cm] 30) = W1 := ⟨_, rfl⟩
  have hb1 : Below w.heap.size w W1 := by rw [← hW1]; exact (Below.refl _ _).alloc (Nat.le_refl _) _
  have hbx : W1.heap[w.heap.size]? = some (.cells #[.slice (some ⟨gm, 0, none⟩) 1 cm] 30 (0, 0)) := by rw [← hW1]; exact heap_alloc_new _ _
  have H1 := Lib.hid (values_any (some ⟨gm, 0, none⟩) 1 cm w)
  have H2 := Lib.hid (sorted_one w.heap.size gm 0 cm (k + 1) W1 (Nat.lt_of_lt_of_le hgm hb1.size) (cellk hbx rfl) ((hb1.cell (p := ⟨gm, 0, none⟩) hgm).trans hm))
  have H := Lib.hid h
  have HL := Lib.hid hl
  have HX := Lib.hid hx
  have HB1 := Lib.hid hb1
  have HT := Lib.hid ht
  clear h hl hx hb1 hbx hm ht
  obtain ⟨j, hj⟩ : ∃ j, j = k + 1 := ⟨_, rfl⟩
  have HJ := Lib.hid hj
  rw [← hj] at H2 hc ⊢
  have HE := Lib.hid (And.intro h1 hbs)
  clear hj h1 hbs
  go_enter Try.func66, Try.ntmps66
  go_wp2_with fail
  refine H1.out.mono ?_
  rintro e w1 ⟨rfl, rfl⟩
  rw [hW1]
  clear hW1
  go_wp2_with fail
  refine H2.out.mono ?_
  rintro e w2 ⟨g, c, rfl, hg, hb2⟩
  have hB2 := HB1.out.trans (hb2.mono HB1.out.size)
  have hnd := H.out.below hB2
  have hll2 := HL.out.below hB2 (Nat.le_refl _)
  have a0 : w2.cell? ⟨X, 0, none⟩ = some (.int .i64 1) := (hB2.cell (p := ⟨X, 0, none⟩) hX).trans c0
  have e2 : (0 : Int).tdiv 2 = 0 := rfl
  have hgl := World.block_lt_of_cell? w2 _ hg
  unfold Wd at hg
  have HB2 := Lib.hid hB2
  have HND := Lib.hid hnd
  have HL2 := Lib.hid hll2
  clear hB2 hnd hll2 hb2 c0 c15
  go_upto_region 2 with fail
  have hta := term_at p base ps k x d l v n (.slice (some ⟨gm, 0, none⟩) 1 cm) w2 HE.out.2 hd HL2.out HX.out hll
  rw [← HJ.out, HT.out] at hta
  unfold stV stC at hta
  have HTA := Lib.hid hta
  clear hta a0
  have x0 := cellk (i := 0) HND.out rfl
  have x1 := cellk (i := 1) HND.out rfl
  have x2 := cellk (i := 2) HND.out rfl
  have x3 := cellk (i := 3) HND.out rfl
  have x4 := cellk (i := 4) HND.out rfl
  have x5 := cellk (i := 5) HND.out rfl
  have x6 := cellk (i := 6) HND.out rfl
  have x7 := cellk (i := 7) HND.out rfl
  have x8 := cellk (i := 8) HND.out rfl
  have x9 := cellk (i := 9) HND.out rfl
  have x10 := cellk (i := 10) HND.out rfl
  have x11 := cellk (i := 11) HND.out rfl
  have x12 := cellk (i := 12) HND.out rfl
  have x13 := cellk (i := 13) HND.out rfl
  have x14 := cellk (i := 14) HND.out rfl
  have x15 := cellk (i := 15) HND.out rfl
  simp only [stC, List.cons_append, List.nil_append, List.getElem_toArray, List.getElem_cons_succ, List.getElem_cons_zero] at x0 x1 x2 x3 x4 x5 x6 x7 x8 x9 x10 x11 x12 x13 x14 x15
  go_upto_region 3 with (with_reducible refine HTA.out.mono ?_; rintro e w3 ⟨rfl, hb3⟩; have HB3 := Lib.hid (HB2.out.trans (hb3.mono HB2.out.size)); clear hb3)
  have hnd3 := H.out.below HB3.out
  have y3 : w3.cell? ⟨X, 3, none⟩ = some (.int .u64 (p.tm : Int)) := cellk hnd3 rfl
  have y9 : w3.cell? ⟨X, 9, none⟩ = some (.int .u64 (p.cm : Int)) := cellk hnd3 rfl
  have f9 := hnd3.fz 9
  have hX3 := lt_of_block hnd3
  have HN3 := Lib.hid (show NdAt (w3.setCell ⟨X, 9, none⟩ (.int .u64 (j : Int))) X { p with cm := j } d l v n (.slice (some ⟨gm, 0, none⟩) 1 cm) o from hnd3.set 9 (.int .u64 (j : Int)))
  have HK3 := Lib.hid (show Kept (fun g => g = X) w (w3.setCell ⟨X, 9, none⟩ (.int .u64 (j : Int))) from (kept_of_below HB3.out).trans keptX)
  have d1 : ((p.tm : Int) == (p.tm : Int)) = true := by simp
  have d2 : (p.cm : Int) < (j : Int) := by omega
  have d3 : decide (p.cm < j) = true := by simp; omega
  clear hnd3 x0 x1 x2 x3 x4 x5 x6 x7 x8 x9 x10 x11 x12 x13 x14 x15
  go_wp2_with fail
  go_end0
  exact ⟨rfl, HN3.out, HK3.out⟩
end Go.Proofs.Ytjbailnnaigjbaa
