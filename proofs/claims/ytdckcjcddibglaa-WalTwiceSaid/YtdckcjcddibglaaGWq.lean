/- WaQ, WaR, WaS, in one text. -/
import Derived.Test.YtdckcjcddibglaaWaP

namespace Go.Proofs.Ytdckcjcddibglaa
open Go.RowKit OctM

/-- What the law's open leaves. -/
def LoP (most : Nat) (w : World) (e : Ending) (w' : World) : Prop :=
  ∃ D T B, e = .returned (.tuple #[.pointer (some ⟨D, 0, none⟩), .pointer (some ⟨B, 0, none⟩)]) ∧ WlAt w' (fun k => w.heap.size ≤ k ∧ k < w'.heap.size) B D T ⟨new 3 most, 1, 2, 0, true, ⟨0, -1, 0, []⟩⟩ ∧ Below w.heap.size w w' ∧ w.heap.size ≤ T

set_option maxHeartbeats 2000000 in
set_option maxRecDepth 100000 in
theorem lopen_any (most : Nat) (w : World) (h3 : 1 ≤ most) (h4 : most ≤ 1048576) : Calls Try.prog 6 #[.int .i64 (most : Int)] w (LoP most w) := by
  have H1 := Lib.hid (dt_new 3 most w (by omega) (by omega) h3 h4)
  have e3 : ((3 : Nat) : Int) = 3 := rfl
  rw [e3] at H1
  clear e3
  go_enter Try.func6, Try.ntmps6
  go_wp2_with fail
  refine H1.out.mono ?_
  rintro e w1 ⟨D, T, rfl, hd1, hb1, hT⟩
  have H2 := Lib.hid (wopen_empty w1 hd1 (fun k hk => hk.2) rfl rfl rfl rfl)
  have hs1 := hb1.size
  have HB1 := Lib.hid hb1
  clear hb1 hd1
  go_wp2_with fail
  refine H2.out.mono ?_
  rintro e w2 ⟨B, rfl, hs2, hb2⟩
  have hz2 := hb2.size
  have FIN := Lib.hid (hs2.block (R' := fun k => w.heap.size ≤ k ∧ k < w2.heap.size) (fun _ _ => rfl) (fun k hk => by rcases hk with hk | hk <;> omega) (fun k hk => hk.2))
  have HB2 := Lib.hid (HB1.out.trans (hb2.mono hs1))
  clear hs2 hb2 H1 H2
  go_wp2_with fail
  go_ret2
  exact ⟨D, T, B, rfl, FIN.out, HB2.out, hT⟩
end Go.Proofs.Ytdckcjcddibglaa

namespace Go.Proofs.Ytdckcjcddibglaa
open Go.RowKit OctM

theorem own_start {w : World} {base : Nat} {v : Value} {ps : List (En × Value)} (h : OwnL w base v ps) (hp : 0 < ps.length) :
    ∃ g c, v = .slice (some ⟨g, 0, none⟩) ps.length c ∧ base ≤ g ∧ g < w.heap.size ∧ ∀ j u, (CsE ps)[j]? = some u → w.cell? ((⟨g, 0, none⟩ : Addr).add j) = some u := by
  have hc := fun g => World.ownsRow.cells h.row (g := g)
  have hlt := h.row.lt
  rcases h.row.2 with ⟨_, hn⟩ | ⟨g, cap, cur, rfl, hb, hg, hn, _⟩
  · omega
  · exact ⟨g, cap, rfl, hb, (hlt g rfl).2, fun j u hu => hc g rfl j u hu⟩

set_option maxHeartbeats 4000000 in
set_option maxRecDepth 100000 in
theorem replaced_nil (m : Value) (ps : List (En × Value)) (base : Nat) (w : World) (h : OwnL w base m ps) (hp : 0 < ps.length) (hl : ps.length ≤ 1000) (hbase : base ≤ w.heap.size) :
    Calls Try.prog 18 #[.slice none 0 0, .int .i64 0, m] w fun e w' => ∃ v', e = .returned v' ∧ OwnL w' base v' ps ∧ Below w.heap.size w w' := by
  obtain ⟨g, c, rfl, hg, hgl, hcs⟩ := own_start h hp
  obtain ⟨v2, w2, hr, ho, hgr, hor⟩ := append_ens (m := ps.length) (c := c) (cs := CsE ps) (a := ⟨g, 0, none⟩) (World.ownsRow_nil w base 33 4) (CsE_length ps) hcs (fun u hu => by
    obtain ⟨p, hpm, hx⟩ := List.mem_flatMap.1 hu
    obtain ⟨o, k, h1, _⟩ := own_slice (h.cells p hpm)
    simp only [cE, List.mem_cons, List.not_mem_nil, or_false] at hx
    rcases hx with rfl | rfl | rfl | rfl
    · rfl
    · rfl
    · rfl
    · rw [h1]; rfl) (by omega) hl hbase
  obtain ⟨o2, c2, rfl, _⟩ := own_slice ho
  rw [Nat.zero_add] at hr ho hor
  rw [List.nil_append] at ho
  have hb2 : Below w.heap.size w w2 := (Below.refl _ w).grown hgr (Nat.le_refl _) (fun k hk => by cases hk)
  have hown : OwnL w2 base (.slice o2 ps.length c2) ps := ⟨ho, fun p hpm => own_below (h.cells p hpm) hb2 (Nat.le_refl _), fun p hpm k hk => by
    have h1 := ((h.cells p hpm).lt k hk).2
    rcases hor with h2 | h2
    · rw [h2]; intro e; cases e
    · rw [h2]; intro e; injection e with e; omega⟩
  have HO := Lib.hid hown
  have HB := Lib.hid hb2
  clear hown hb2 ho hor hgr hcs h
  go_enter Try.func18, Try.ntmps18
  go_wp2_with (at_builtin; refine wpList_append_known rfl _ _ _ _ rfl _ _ _ rfl rfl hr ?_)
  go_ret
  exact ⟨_, rfl, HO.out, HB.out⟩
end Go.Proofs.Ytdckcjcddibglaa

namespace Go.Proofs.Ytdckcjcddibglaa
open Go.RowKit OctM

set_option maxHeartbeats 8000000 in
set_option maxRecDepth 100000 in
theorem add_ok (p : Value) (q : List UInt8) (n : Wst) (v' : Value) (w : World) {R X L L2 : Nat → Prop} {v : Value} {B D T : Nat} {s : Wl} {d1 d2 : Dr} (h : WlX w R X L v B D T s) (hp : Rd w p q) (hq : q.length ≤ 100000000) (hl : LogIn L2 w v' n.lg) (hL2 : ∀ k, L2 k → R k ∧ ¬ X k ∧ k ≠ B) (hok : n.Ok)
    (e1 : appS s.d s.now q = (0, d1)) (e2 : syncS d1 s.now = (0, d2)) (hops : s.d.ops ≤ 900000) (hops1 : d1.ops ≤ 900000) :
    Calls Try.prog 20 #[.pointer (some ⟨B, 0, none⟩), p, wstV n v'] w fun e w' => e = .returned (.int .i64 0) ∧ WlAt w' (Fr R w w') B D T ⟨d2, s.now, s.sp, s.turn, s.shut, n⟩ ∧ Kept R w w' := by
  obtain ⟨o, c, rfl⟩ := hl.rd.form
  obtain ⟨tm, vt, bs, lg⟩ := n
  dsimp only at hl
  have HB := lt_of_block h.cell
  have hlim := h.lim
  have HH := Lib.hid h
  have HLL := Lib.hid hl
  have HL2 := Lib.hid hL2
  have HOK := Lib.hid hok
  have HE1 := Lib.hid e1
  have HE2 := Lib.hid e2
  have hb0 : Below w.heap.size w (w.alloc (.cells #[.int .u64 (tm : Int), .int .i64 vt, .int .u64 (bs : Int), .slice o lg.length c] 36)) := (Below.refl _ _).alloc (Nat.le_refl _) _
  have hn0 := heap_alloc_new w (.cells #[.int .u64 (tm : Int), .int .i64 vt, .int .u64 (bs : Int), .slice o lg.length c] 36)
  have hs0 : (w.alloc (.cells #[.int .u64 (tm : Int), .int .i64 vt, .int .u64 (bs : Int), .slice o lg.length c] 36)).heap.size = w.heap.size + 1 := by simp
  have hc0 := (hb0.block B HB).trans h.cell
  have HP := Lib.hid hp
  clear h hl hL2 hok e1 e2 hp
  unfold wstV
  dsimp only
  go_enter Try.func20, Try.ntmps20
  go_upto_region 1 with fail
  generalize (w.alloc (.cells #[.int .u64 (tm : Int), .int .i64 vt, .int .u64 (bs : Int), .slice o lg.length c] 36)) = W at *
  have x0 := cellk (i := 0) hc0 rfl
  have x1 := cellk (i := 1) hc0 rfl
  have HWR := Lib.hid (dt_append s.now p q W.drew (HH.out.dt.block (X' := X) (fun g hg _ => hb0.drew.block g (HH.out.lt g (HH.out.sX g hg))) (fun _ h => h)) (HP.out.below hb0.drew) (by omega) (by omega))
  have HB0 := Lib.hid hb0
  have HC0 := Lib.hid (show W.drew.heap[B]? = _ from hc0)
  have HN0 := Lib.hid (show W.drew.heap[w.heap.size]? = _ from hn0)
  have hsd : W.drew.heap.size = w.heap.size + 1 := hs0
  clear hb0 hc0 hn0
  refine wp_region_held_drew (S := fun w' => w'.cell? ⟨B, 0, none⟩ = some (.pointer (some ⟨D, 0, none⟩)) ∧ w'.cell? ⟨B, 1, none⟩ = some (.int .i64 (s.now : Int))) (by kernel_rfl) ⟨x0, x1⟩ ?_
  intro hHeld
  refine wpAnyH_take (i := 0) (v := ?_) (by simp only [List.getElem?_toArray, List.getElem?_cons_zero]; rfl) (by kernel_rfl) (by kernel_rfl) (by kernel_rfl) (by intro _ _ _ h; exact h) (Or.inl ⟨by rfl, ?_⟩) (by assumption) ?_
  rotate_left
  · (intro w hSw; (try dsimp only at hSw); go_simp; try with_reducible rfl)
  try simp only [Act.put, List.setIfInBounds_toArray, List.set_cons_zero, List.set_cons_succ]
  refine wpAnyH_take (i := 1) (v := ?_) (by simp only [List.getElem?_toArray, List.getElem?_cons_succ, List.getElem?_cons_zero]; rfl) (by kernel_rfl) (by kernel_rfl) (by kernel_rfl) (by intro _ _ _ h; exact h) (Or.inl ⟨by rfl, ?_⟩) (by assumption) ?_
  rotate_left
  · (intro w hSw; (try dsimp only at hSw); go_simp; try with_reducible rfl)
  try simp only [Act.put, List.setIfInBounds_toArray, List.set_cons_zero, List.set_cons_succ]
  refine wpAnyH_take (i := 2) (v := ?_) (by simp only [List.getElem?_toArray, List.getElem?_cons_succ, List.getElem?_cons_zero]; rfl) (by kernel_rfl) (by kernel_rfl) (by kernel_rfl) (by intro _ _ _ h; exact h) (Or.inl ⟨by rfl, ?_⟩) (by assumption) ?_
  rotate_left
  · (intro w hSw; (try dsimp only at hSw); go_simp; try with_reducible rfl)
  try simp only [Act.put, List.setIfInBounds_toArray, List.set_cons_zero, List.set_cons_succ]
  refine wpAnyH_take (i := 3) (v := ?_) (by simp only [List.getElem?_toArray, List.getElem?_cons_succ, List.getElem?_cons_zero]; rfl) (by kernel_rfl) (by kernel_rfl) (by kernel_rfl) (by intro _ _ _ h; exact h) (Or.inl ⟨by rfl, ?_⟩) (by assumption) ?_
  rotate_left
  · (intro w hSw; (try dsimp only at hSw); go_simp; try with_reducible rfl)
  try simp only [Act.put, List.setIfInBounds_toArray, List.set_cons_zero, List.set_cons_succ]
  refine wpAnyH_take (i := 4) (v := ?_) (by simp only [List.getElem?_toArray, List.getElem?_cons_succ, List.getElem?_cons_zero]; rfl) (by kernel_rfl) (by kernel_rfl) (by kernel_rfl) (by intro _ _ _ h; exact h) (Or.inl ⟨by rfl, ?_⟩) (by assumption) ?_
  rotate_left
  · (intro w hSw; (try dsimp only at hSw); go_simp; try with_reducible rfl)
  try simp only [Act.put, List.setIfInBounds_toArray, List.set_cons_zero, List.set_cons_succ]
  refine wpAnyH_take (i := 5) (v := ?_) (by simp only [List.getElem?_toArray, List.getElem?_cons_succ, List.getElem?_cons_zero]; rfl) (by kernel_rfl) (by kernel_rfl) (by kernel_rfl) (by intro _ _ _ h; exact h) (Or.inl ⟨by rfl, ?_⟩) (by assumption) ?_
  rotate_left
  · (intro w hSw; (try dsimp only at hSw); go_simp; try with_reducible rfl)
  try simp only [Act.put, List.setIfInBounds_toArray, List.set_cons_zero, List.set_cons_succ]
  refine wpAnyH_take (i := 6) (v := ?_) (by simp only [List.getElem?_toArray, List.getElem?_cons_succ, List.getElem?_cons_zero]; rfl) (by kernel_rfl) (by kernel_rfl) (by kernel_rfl) (by intro _ _ _ h; exact h) (Or.inl ⟨by rfl, ?_⟩) (by assumption) ?_
  rotate_left
  · (intro w hSw; (try dsimp only at hSw); go_simp; try with_reducible rfl)
  try simp only [Act.put, List.setIfInBounds_toArray, List.set_cons_zero, List.set_cons_succ]
  refine wpAnyH_take (i := 7) (v := ?_) (by simp only [List.getElem?_toArray, List.getElem?_cons_succ, List.getElem?_cons_zero]; rfl) (by kernel_rfl) (by kernel_rfl) (by kernel_rfl) (by intro _ _ _ h; exact h) (Or.inl ⟨by rfl, ?_⟩) (by assumption) ?_
  rotate_left
  · (intro w hSw; (try dsimp only at hSw); go_simp; try with_reducible rfl)
  try simp only [Act.put, List.setIfInBounds_toArray, List.set_cons_zero, List.set_cons_succ]
  refine wpAnyH_take (i := 8) (v := ?_) (by simp only [List.getElem?_toArray, List.getElem?_cons_succ, List.getElem?_cons_zero]; rfl) (by kernel_rfl) (by kernel_rfl) (by kernel_rfl) (by intro _ _ _ h; exact h) (Or.inl ⟨by rfl, ?_⟩) (by assumption) ?_
  rotate_left
  · (intro w hSw; (try dsimp only at hSw); go_simp; try with_reducible rfl)
  try simp only [Act.put, List.setIfInBounds_toArray, List.set_cons_zero, List.set_cons_succ]
  refine wpAnyH_ready (rs := [9]) (by kernel_rfl) (by simp) ?_
  refine AllReadyH.cons (by simp only [List.getElem?_toArray, List.getElem?_cons_succ, List.getElem?_cons_zero]; rfl) (fun K hK => ?_) AllReadyH.nil
  go_simp
  refine HWR.out.mono ?_
  rintro e w3 ⟨rfl, hd3, hk3, -⟩
  rw [HE1.out] at hd3
  have hc3 := (hk3.block B (by omega) HH.out.nB).trans HC0.out
  have hn3 := (hk3.block w.heap.size (by omega) (fun h => by have := HH.out.lt _ (HH.out.sX _ h); omega)).trans HN0.out
  have q30 := cellk (i := 0) hc3 rfl
  have q31 := cellk (i := 1) hc3 rfl
  have HD3 := Lib.hid hd3
  have HK3 := Lib.hid hk3
  have HC3 := Lib.hid hc3
  have HN3 := Lib.hid hn3
  have hs3 := hk3.size
  clear hd3 hk3 hc3 hn3
  rw [HE1.out]
  dsimp only
  refine hK.out _ _ ⟨q30, q31⟩ (fun hHeld => ?_)
  clear hK K
  try simp only [Act.put, List.setIfInBounds_toArray, List.set_cons_zero, List.set_cons_succ]
  refine wpAnyH_take (i := 10) (v := ?_) (by simp only [List.getElem?_toArray, List.getElem?_cons_succ, List.getElem?_cons_zero]; rfl) (by kernel_rfl) (by kernel_rfl) (by kernel_rfl) (by intro _ _ _ h; exact h) (Or.inl ⟨by rfl, ?_⟩) (by assumption) ?_
  rotate_left
  · (intro w hSw; (try dsimp only at hSw); go_simp; try with_reducible rfl)
  try simp only [Act.put, List.setIfInBounds_toArray, List.set_cons_zero, List.set_cons_succ]
  refine wpAnyH_done (by kernel_rfl) ?_ _
  have hX3 : ∀ k, Fr X W.drew w3 k → R k ∨ w.heap.size < k := fun k hk => by
    rcases hk with hk | hk
    · exact .inl (HH.out.sX k hk)
    · exact .inr (by omega)
  have HX3 := Lib.hid hX3
  have hB3 : ¬ Fr X W.drew w3 B := fun hk => by
    rcases hk with hk | hk
    · exact HH.out.nB hk
    · omega
  have hn3' : ¬ Fr X W.drew w3 w.heap.size := fun hk => by
    rcases hk with hk | hk
    · have := HH.out.lt _ (HH.out.sX _ hk); omega
    · omega
  have HS := Lib.hid (dt_sync s.now w3.drew (HD3.out.block (X' := Fr X W.drew w3) (fun _ _ _ => rfl) (fun _ h => h)) (by show d1.ops ≤ _; omega))
  have hs3d : w3.drew.heap.size = w3.heap.size := rfl
  have HB3 := Lib.hid hB3
  have HN3' := Lib.hid hn3'
  have HQ0 := Lib.hid q30
  have HQ2 := Lib.hid q31
  clear hX3 hB3 hn3'
  go_wp2_with fail
  refine wp_region_held_drew (S := fun w' => w'.cell? ⟨B, 0, none⟩ = some (.pointer (some ⟨D, 0, none⟩)) ∧ w'.cell? ⟨B, 1, none⟩ = some (.int .i64 (s.now : Int))) (by kernel_rfl) ⟨HQ0.out, HQ2.out⟩ ?_
  intro hHeld
  refine wpAnyH_take (i := 0) (v := ?_) (by simp only [List.getElem?_toArray, List.getElem?_cons_zero]; rfl) (by kernel_rfl) (by kernel_rfl) (by kernel_rfl) (by intro _ _ _ h; exact h) (Or.inl ⟨by rfl, ?_⟩) (by assumption) ?_
  rotate_left
  · (intro w hSw; (try dsimp only at hSw); go_simp; try with_reducible rfl)
  try simp only [Act.put, List.setIfInBounds_toArray, List.set_cons_zero, List.set_cons_succ]
  refine wpAnyH_take (i := 1) (v := ?_) (by simp only [List.getElem?_toArray, List.getElem?_cons_succ, List.getElem?_cons_zero]; rfl) (by kernel_rfl) (by kernel_rfl) (by kernel_rfl) (by intro _ _ _ h; exact h) (Or.inl ⟨by rfl, ?_⟩) (by assumption) ?_
  rotate_left
  · (intro w hSw; (try dsimp only at hSw); go_simp; try with_reducible rfl)
  try simp only [Act.put, List.setIfInBounds_toArray, List.set_cons_zero, List.set_cons_succ]
  refine wpAnyH_take (i := 2) (v := ?_) (by simp only [List.getElem?_toArray, List.getElem?_cons_succ, List.getElem?_cons_zero]; rfl) (by kernel_rfl) (by kernel_rfl) (by kernel_rfl) (by intro _ _ _ h; exact h) (Or.inl ⟨by rfl, ?_⟩) (by assumption) ?_
  rotate_left
  · (intro w hSw; (try dsimp only at hSw); go_simp; try with_reducible rfl)
  try simp only [Act.put, List.setIfInBounds_toArray, List.set_cons_zero, List.set_cons_succ]
  refine wpAnyH_take (i := 3) (v := ?_) (by simp only [List.getElem?_toArray, List.getElem?_cons_succ, List.getElem?_cons_zero]; rfl) (by kernel_rfl) (by kernel_rfl) (by kernel_rfl) (by intro _ _ _ h; exact h) (Or.inl ⟨by rfl, ?_⟩) (by assumption) ?_
  rotate_left
  · (intro w hSw; (try dsimp only at hSw); go_simp; try with_reducible rfl)
  try simp only [Act.put, List.setIfInBounds_toArray, List.set_cons_zero, List.set_cons_succ]
  refine wpAnyH_take (i := 4) (v := ?_) (by simp only [List.getElem?_toArray, List.getElem?_cons_succ, List.getElem?_cons_zero]; rfl) (by kernel_rfl) (by kernel_rfl) (by kernel_rfl) (by intro _ _ _ h; exact h) (Or.inl ⟨by rfl, ?_⟩) (by assumption) ?_
  rotate_left
  · (intro w hSw; (try dsimp only at hSw); go_simp; try with_reducible rfl)
  try simp only [Act.put, List.setIfInBounds_toArray, List.set_cons_zero, List.set_cons_succ]
  refine wpAnyH_take (i := 5) (v := ?_) (by simp only [List.getElem?_toArray, List.getElem?_cons_succ, List.getElem?_cons_zero]; rfl) (by kernel_rfl) (by kernel_rfl) (by kernel_rfl) (by intro _ _ _ h; exact h) (Or.inl ⟨by rfl, ?_⟩) (by assumption) ?_
  rotate_left
  · (intro w hSw; (try dsimp only at hSw); go_simp; try with_reducible rfl)
  try simp only [Act.put, List.setIfInBounds_toArray, List.set_cons_zero, List.set_cons_succ]
  refine wpAnyH_take (i := 6) (v := ?_) (by simp only [List.getElem?_toArray, List.getElem?_cons_succ, List.getElem?_cons_zero]; rfl) (by kernel_rfl) (by kernel_rfl) (by kernel_rfl) (by intro _ _ _ h; exact h) (Or.inl ⟨by rfl, ?_⟩) (by assumption) ?_
  rotate_left
  · (intro w hSw; (try dsimp only at hSw); go_simp; try with_reducible rfl)
  try simp only [Act.put, List.setIfInBounds_toArray, List.set_cons_zero, List.set_cons_succ]
  refine wpAnyH_take (i := 7) (v := ?_) (by simp only [List.getElem?_toArray, List.getElem?_cons_succ, List.getElem?_cons_zero]; rfl) (by kernel_rfl) (by kernel_rfl) (by kernel_rfl) (by intro _ _ _ h; exact h) (Or.inl ⟨by rfl, ?_⟩) (by assumption) ?_
  rotate_left
  · (intro w hSw; (try dsimp only at hSw); go_simp; try with_reducible rfl)
  try simp only [Act.put, List.setIfInBounds_toArray, List.set_cons_zero, List.set_cons_succ]
  refine wpAnyH_ready (rs := [8]) (by kernel_rfl) (by simp) ?_
  refine AllReadyH.cons (by simp only [List.getElem?_toArray, List.getElem?_cons_succ, List.getElem?_cons_zero]; rfl) (fun K hK => ?_) AllReadyH.nil
  go_simp
  refine HS.out.mono ?_
  rintro e w4 ⟨rfl, hd4, hk4, -⟩
  rw [HE2.out] at hd4
  have hc4 := (hk4.block B (by omega) HB3.out).trans (show w3.drew.heap[B]? = _ from HC3.out)
  have hn4 := (hk4.block w.heap.size (by omega) HN3'.out).trans (show w3.drew.heap[w.heap.size]? = _ from HN3.out)
  have p0 := cellk (i := 0) hc4 rfl
  have p2 := cellk (i := 1) hc4 rfl
  have HD4 := Lib.hid hd4
  have HK4 := Lib.hid hk4
  have HC4 := Lib.hid hc4
  have HN4 := Lib.hid hn4
  have hs4 := hk4.size
  clear hd4 hk4 hc4 hn4
  rw [HE2.out]
  dsimp only
  refine hK.out _ _ ⟨p0, p2⟩ (fun hHeld => ?_)
  clear hK K
  try simp only [Act.put, List.setIfInBounds_toArray, List.set_cons_zero, List.set_cons_succ]
  refine wpAnyH_take (i := 9) (v := ?_) (by simp only [List.getElem?_toArray, List.getElem?_cons_succ, List.getElem?_cons_zero]; rfl) (by kernel_rfl) (by kernel_rfl) (by kernel_rfl) (by intro _ _ _ h; exact h) (Or.inl ⟨by rfl, ?_⟩) (by assumption) ?_
  rotate_left
  · (intro w hSw; (try dsimp only at hSw); go_simp; try with_reducible rfl)
  try simp only [Act.put, List.setIfInBounds_toArray, List.set_cons_zero, List.set_cons_succ]
  refine wpAnyH_done (by kernel_rfl) ?_ _
  have x5 := cellk (i := 5) HC4.out rfl
  have x6 := cellk (i := 6) HC4.out rfl
  have x7 := cellk (i := 7) HC4.out rfl
  have x8 := cellk (i := 8) HC4.out rfl
  have f5 := free_of HC4.out 5
  have f6 := free_of HC4.out 6
  have f7 := free_of HC4.out 7
  have f8 := free_of HC4.out 8
  have z0 := cellk (i := 0) HN4.out rfl
  have z1 := cellk (i := 1) HN4.out rfl
  have z2 := cellk (i := 2) HN4.out rfl
  have z3 := cellk (i := 3) HN4.out rfl
  have hc6 : (((((w4.setCell ⟨B, 5, none⟩ (.int .u64 (tm : Int))).setCell ⟨B, 6, none⟩ (.int .i64 vt)).setCell ⟨B, 7, none⟩ (.int .u64 (bs : Int))).setCell ⟨B, 8, none⟩ (.slice o lg.length c))).heap[B]? = some (.cells #[.pointer (some ⟨D, 0, none⟩), .int .i64 (s.now : Int), .int .i64 (s.sp : Int), .int .u64 (s.turn : Int), .bool s.shut, .int .u64 (tm : Int), .int .i64 vt, .int .u64 (bs : Int), .slice o lg.length c] 53 (0, 0)) := by
    have := HC4.out
    simp [World.setCell, Array.getElem?_modify, this]
  have hk6 : Kept (fun k => k = B) w4 (((((w4.setCell ⟨B, 5, none⟩ (.int .u64 (tm : Int))).setCell ⟨B, 6, none⟩ (.int .i64 vt)).setCell ⟨B, 7, none⟩ (.int .u64 (bs : Int))).setCell ⟨B, 8, none⟩ (.slice o lg.length c))) :=
    (((((Kept.refl (fun k => k = B) w4).setCell (p := ⟨B, 5, none⟩) (.inl rfl) _).setCell (p := ⟨B, 6, none⟩) (.inl rfl) _).setCell (p := ⟨B, 7, none⟩) (.inl rfl) _).setCell (p := ⟨B, 8, none⟩) (.inl rfl) _)
  have hs6 : (((((w4.setCell ⟨B, 5, none⟩ (.int .u64 (tm : Int))).setCell ⟨B, 6, none⟩ (.int .i64 vt)).setCell ⟨B, 7, none⟩ (.int .u64 (bs : Int))).setCell ⟨B, 8, none⟩ (.slice o lg.length c))).heap.size = w4.heap.size := by simp [World.setCell]
  have HK46 := Lib.hid hk6
  have HC6 := Lib.hid hc6
  have HS6 := Lib.hid hs6
  clear hc6 hk6 hs6 HC0 HN0 HC3 HN3 HWR HS
  go_wp2_with fail
  go_ret
  have hs6 := HS6.out
  have hlow : ∀ k, X k → k < w.heap.size := fun k hk => HH.out.lt k (HH.out.sX k hk)
  have hk23 : Kept (fun k => X k ∨ k = B) w w3 := (kept_of_below HB0.out.drew).trans (HK3.out.weak fun _ _ hk => .inl hk)
  have hk24 : Kept (fun k => X k ∨ k = B) w w4 := Kept.step hk23.drew HK4.out (fun k hk => by
    rcases hk with hk | hk
    · exact .inl (.inl hk)
    · exact .inr (by omega))
  have hk26 := hk24.trans (HK46.out.weak (T := fun k => X k ∨ k = B) fun _ _ hk => .inr hk)
  have hnB : ¬ Fr (Fr X W.drew w3) w3.drew w4 B := fun hk => by
    rcases hk with hk | hk
    · exact HB3.out hk
    · omega
  have hL2 := HL2.out
  refine ⟨rfl, ⟨Fr (Fr X W.drew w3) w3.drew w4, L2, .slice o lg.length c, ⟨HD4.out.block (fun g hg hl => HK46.out.block g hl (fun e => hnB (e ▸ hg))) (fun _ h => h), HC6.out, HLL.out.block (fun g hg => hk26.block g (HH.out.lt g (hL2 g hg).1) (fun hk => by
      rcases hk with hk | hk
      · exact (hL2 g hg).2.1 hk
      · exact (hL2 g hg).2.2 hk)) (fun _ h => h), fun k hk => ?_, fun k hk => ⟨.inl (hL2 k hk).1, fun hx => ?_, (hL2 k hk).2.2⟩, .inl HH.out.rB, hnB, fun k hk => ?_, HOK.out, hlim⟩⟩, hk26.weak fun k _ hk => ?_⟩
  · rcases hk with (hk | hk) | hk
    · exact .inl (HH.out.sX k hk)
    · exact .inr (by omega)
    · exact .inr (by omega)
  · have h5 := HH.out.lt k (hL2 k hk).1
    rcases hx with (hx | hx) | hx
    · exact (hL2 k hk).2.1 hx
    · omega
    · omega
  · rcases hk with hk | hk
    · have := HH.out.lt k hk; omega
    · exact hk.2
  · rcases hk with hk | hk
    · exact HH.out.sX k hk
    · rw [hk]; exact HH.out.rB
end Go.Proofs.Ytdckcjcddibglaa
