/- Sessions: Put. -/
import Derived.Test.YtlfnblgpekilnaaSesC
import Derived.Test.YtlfnblgpekilnaaSesI
namespace Go.Proofs.Ytlfnblgpekilnaa
open Go.RowKit OctM

def insS (l : List Se) (x : Se) : List Se := if (seAt l x.id).isSome then l.set (pl l x.id) x else l.take (pl l x.id) ++ x :: l.drop (pl l x.id)
def putS (l : List Se) (x : Se) : Int × List Se :=
  if (askS l x.id x.nm).1 = 0 then (7, l) else if (askS l x.id x.nm).1 = 6 then (0, insS l x) else ((askS l x.id x.nm).1, l)

/-- What Put leaves. -/
def PutP (S : Nat → Prop) (w : World) (b base : Nat) (v : Value) (r : Int × List Se) (e : Ending) (w' : World) : Prop :=
  e = .returned (.int .i64 r.1) ∧ ∃ v', TQ S w' b base v' r.2 ∧ (v'.ownBlock = v.ownBlock ∨ ∃ g, v'.ownBlock = some g ∧ w.heap.size ≤ g) ∧ Kept (two b v) w w'

theorem TAx.ne {w : World} {b base : Nat} {v : Value} {ps : List (Se × Value)} (h : TAx w b base v ps) : v.ownBlock ≠ some b := own_ne h.own.row h.cell (by decide)

theorem own_lit {w : World} {base : Nat} {e : TypeId} {size g n c m : Nat} {xs : List Value} (h : w.ownsRow base e size (.slice (some ⟨g, 0, none⟩) n c) m xs) : g < w.heap.size ∧ (∀ i, w.frozen? ⟨g, i, none⟩ = false) ∧ ∀ j u, xs[j]? = some u → w.cell? ⟨g, j, none⟩ = some u := by
  have hc := h
  rcases h.2 with ⟨hv, _⟩ | ⟨g', c', cur, hv, hb, hg, _⟩
  · cases hv
  · injection hv with hv _ _
    injection hv with hv
    injection hv with hv _ _
    subst hv
    refine ⟨lt_of_block hg, fun i => free_of hg i, fun j u hj => ?_⟩
    have := World.ownsRow.cells hc rfl j u hj
    rw [add_none, Nat.zero_add] at this
    exact this

theorem put_fin {W w5 : World} {b base g n c P : Nat} {ps : List (Se × Value)} {x y : Se} {vx v5 : Value} (h : TAx W b base (.slice (some ⟨g, 0, none⟩) n c) ps) (hP : ps[P]? = some (x, vx)) (hid : y.id = x.id)
    (hb : Below W.heap.size W w5) (ho : Own w5 W.heap.size v5 y.rp) (hbase : base ≤ W.heap.size) :
    TAx ((w5.setCell ⟨g, P * 3 + 1, none⟩ (.int .u64 (y.nm : Int))).setCell ⟨g, P * 3 + 2, none⟩ v5) b base (.slice (some ⟨g, 0, none⟩) n c) (ps.set P (y, v5)) ∧
      Kept (fun k => k = g) W ((w5.setCell ⟨g, P * 3 + 1, none⟩ (.int .u64 (y.nm : Int))).setCell ⟨g, P * 3 + 2, none⟩ v5) := by
  have hk : Kept (fun k => k = g) w5 ((w5.setCell ⟨g, P * 3 + 1, none⟩ (.int .u64 (y.nm : Int))).setCell ⟨g, P * 3 + 2, none⟩ v5) := ((Kept.refl (fun k => k = g) w5).setCell (p := ⟨g, P * 3 + 1, none⟩) (.inl rfl) _).setCell (p := ⟨g, P * 3 + 2, none⟩) (.inl rfl) _
  have hgb : b ≠ g := fun e => h.ne (by rw [e]; rfl)
  have h5 := h.below hb
  have hg5 := (h.own.row.lt g rfl).2
  have hn : n = ps.length := by
    obtain ⟨_, _, he⟩ := own_slice h.own.row
    injection he
  subst hn
  have hset := own_set (k := P * 3 + 2) (u := v5) (own_set (k := P * 3 + 1) (u := .int .u64 (y.nm : Int)) h5.own.row)
  rw [CsS_set ps P x y vx v5 hP hid] at hset
  refine ⟨⟨(hk.block b (lt_of_block h5.cell) hgb).trans h5.cell, ⟨by rw [List.length_set]; exact hset, fun p hp => ?_⟩⟩, (kept_of_below hb).trans hk⟩
  rcases List.mem_or_eq_of_mem_set hp with hp | rfl
  · exact own_kept (h5.own.cells p hp) hk (fun k hk' e => own_ne2 h5.own.row (h5.own.cells p hp) (by decide) g rfl (e ▸ hk'))
  · exact own_kept (own_base ho hbase) hk (fun k hk' e => by have := (ho.lt k hk').1; omega)

theorem ins_fin {W w3 : World} {b base : Nat} {v v3 : Value} {ps : List (Se × Value)} {id P : Nat} (h : TAx W b base v ps) (hP : P ≤ ps.length)
    (ho : w3.ownsRow base 60 3 v3 (ps.length + 1) ((CsS ps).take (P * 3) ++ [.int .u64 (id : Int), .int .u64 0, .slice none 0 0] ++ (CsS ps).drop (P * 3)))
    (hg : (W.alloc (.cells #[.int .u64 (id : Int), .int .u64 0, .slice none 0 0] 60)).grownBy w3 v.ownBlock) (hv : v3.ownBlock = v.ownBlock ∨ v3.ownBlock = some (W.heap.size + 1)) :
    w3.heap[b]? = some (.cells #[v] 55 (0, 0)) ∧ TAx (w3.setCell ⟨b, 0, none⟩ v3) b base v3 (ps.take P ++ (⟨id, 0, []⟩, .slice none 0 0) :: ps.drop P) ∧ Kept (two b v) W (w3.setCell ⟨b, 0, none⟩ v3) := by
  have hka : Kept (fun k => v.ownBlock = some k) W (W.alloc (.cells #[.int .u64 (id : Int), .int .u64 0, .slice none 0 0] 60)) := (Kept.refl _ _).alloc _
  have hk3 : Kept (fun k => v.ownBlock = some k) W w3 := hka.grown hg (fun k hk => .inl hk)
  have hc3 := (hk3.block b (lt_of_block h.cell) h.ne).trans h.cell
  have hk4 : Kept (two b v) W (w3.setCell ⟨b, 0, none⟩ v3) := (hk3.weak (T := two b v) (fun k _ hk => .inr hk)).setCell (.inl (.inl rfl)) _
  have hvb : v3.ownBlock ≠ some b := by
    rcases hv with hv | hv
    · rw [hv]; exact h.ne
    · rw [hv]; intro e; injection e with e; have := lt_of_block h.cell; omega
  refine ⟨hc3, ⟨one_setCell hc3, ⟨?_, fun p hp => ?_⟩⟩, hk4⟩
  · have e : CsS (ps.take P ++ (⟨id, 0, []⟩, .slice none 0 0) :: ps.drop P) = (CsS ps).take (P * 3) ++ [.int .u64 (id : Int), .int .u64 0, .slice none 0 0] ++ (CsS ps).drop (P * 3) := by
      rw [CsS_take ps P hP, CsS_drop ps P hP]
      simp [CsS, cS]
    rw [e]
    have hl : (ps.take P ++ ((⟨id, 0, []⟩ : Se), Value.slice none 0 0) :: ps.drop P).length = ps.length + 1 := by simp; omega
    rw [hl]
    exact ownsRow_setCell_other ho hvb _
  · have hp' : p ∈ ps ∨ p = (⟨id, 0, []⟩, .slice none 0 0) := by
      rcases List.mem_append.1 hp with hp | hp
      · exact .inl (List.mem_of_mem_take hp)
      · rcases List.mem_cons.1 hp with hp | hp
        · exact .inr hp
        · exact .inl (List.mem_of_mem_drop hp)
    rcases hp' with hp | rfl
    · exact own_kept (h.own.cells p hp) hk4 (fun k hk' e => by
        rcases e with e | e
        · exact own_ne (h.own.cells p hp) h.cell (by decide) (e ▸ hk')
        · exact own_ne2 h.own.row (h.own.cells p hp) (by decide) k e hk')
    · exact World.ownsRow_nil _ _ _ _

set_option maxHeartbeats 2000000 in
set_option maxRecDepth 100000 in
theorem put_nil (id nm : Int) (o : Option Addr) (n c : Nat) (w : World) : Calls Try.prog 11 #[.pointer none, .int .u64 id, .int .u64 nm, .slice o n c] w fun e w' => e = .returned (.int .i64 15) ∧ w = w' := by
  have H := Lib.hid (ask_nil id nm w)
  go_enter Try.func11, Try.ntmps11
  go_wp2_with fail
  refine H.out.mono ?_
  rintro e w' ⟨rfl, rfl⟩
  go_wp2_with fail
  go_ret
  exact ⟨rfl, rfl⟩

set_option maxHeartbeats 8000000 in
set_option maxRecDepth 100000 in
theorem put_any (id nm : Nat) (rp : List UInt8) (x : Value) (w : World) {b base : Nat} {v : Value} {l : List Se} {S : Nat → Prop} (hS : ∀ k, w.heap.size ≤ k → S k) (h : TQ S w b base v l) (hbase : base ≤ w.heap.size) (hl : l.length ≤ 900) (hr : Ris l) (hb : ∀ s ∈ l, s.rp.length ≤ 1000000)
    (hx : ∀ w', Kept (two b v) w w' → Rd w' x rp) (hrp : rp.length ≤ 1000000) :
    Calls Try.prog 11 #[.pointer (some ⟨b, 0, none⟩), .int .u64 (id : Int), .int .u64 (nm : Int), x] w (PutP S w b base v (putS l ⟨id, nm, rp⟩)) := by
  obtain ⟨ox, cx, rfl⟩ : ∃ o c, x = .slice o rp.length c := by
    rcases hx w (Kept.refl _ _) with ⟨rfl, h⟩ | ⟨_, c, rfl, _⟩
    · rw [h]; exact ⟨_, _, rfl⟩
    · exact ⟨_, _, rfl⟩
  have H1 := Lib.hid (ask_any id nm w h.ta (by omega) hr hb)
  have H := Lib.hid h
  have HR := Lib.hid hr
  have HX := Lib.hid hx
  have hl9 := hl
  have HP : Hid (putS l ⟨id, nm, rp⟩ = if (askS l id nm).1 = 0 then (7, l) else if (askS l id nm).1 = 6 then (0, insS l ⟨id, nm, rp⟩) else ((askS l id nm).1, l)) := Lib.hid rfl
  have HI : Hid (insS l ⟨id, nm, rp⟩ = if (seAt l id).isSome then l.set (pl l id) ⟨id, nm, rp⟩ else l.take (pl l id) ++ ⟨id, nm, rp⟩ :: l.drop (pl l id)) := Lib.hid rfl
  clear h hr hb hx
  have hsame : ∀ w' : World, Below w.heap.size w w' → ∃ v', TQ S w' b base v' l ∧ (v'.ownBlock = v.ownBlock ∨ ∃ g, v'.ownBlock = some g ∧ w.heap.size ≤ g) ∧ Kept (two b v) w w' := fun w' hb => ⟨v, H.out.below hb, .inl rfl, kept_of_below hb⟩
  have HS := Lib.hid hsame
  clear hsame
  go_enter Try.func11, Try.ntmps11
  go_wp2_with fail
  refine H1.out.mono ?_
  rintro e w1 ⟨va, rfl, hoa, hba⟩
  obtain ⟨oa, ca, rfl⟩ := own_slice hoa
  have HB1 := Lib.hid hba
  clear hoa hba H1
  generalize hcode : (askS l id nm).1 = code at *
  clear hcode
  by_cases h0 : code = 0
  · have i1 : (code == 0) = true := by simp [h0]
    rw [if_pos h0] at HP
    clear h0
    go_wp2_with fail
    go_ret
    rw [HP.out]
    exact ⟨rfl, HS.out _ HB1.out⟩
  · have i1 : (code == 0) = false := by simp [h0]
    rw [if_neg h0] at HP
    by_cases h6 : code = 6
    · have i2 : (code == 6) = true := by simp [h6]
      rw [if_pos h6] at HP
      clear h0 h6
      have H2 := Lib.hid (find_any id w1 (H.out.below HB1.out).ta (by omega) HR.out)
      go_wp2_with fail
      refine H2.out.mono ?_
      rintro e w2 ⟨rfl, hb2⟩
      have HB2 := Lib.hid (HB1.out.trans (hb2.mono HB1.out.size))
      clear hb2 H2
      have hplL := pl_le l id
      rcases hs : seAt l id with _ | s
      · rw [hs] at HI
        have HI : Hid (insS l ⟨id, nm, rp⟩ = l.take (pl l id) ++ ⟨id, nm, rp⟩ :: l.drop (pl l id)) := HI
        generalize pl l id = P at *
        clear hs
        obtain ⟨ps, hps, h2, hqs⟩ := H.out.below HB2.out
        have HQS := Lib.hid hqs
        have HSS := Lib.hid hS
        clear hqs hS
        have hpl : ps.length = l.length := by rw [← hps]; simp
        have hPn : P ≤ ps.length := by omega
        have hn9 : ps.length ≤ 900 := by omega
        have HPL := Lib.hid hpl
        clear hpl hplL
        have hbase2 := Nat.le_trans hbase HB2.out.size
        obtain ⟨ov, cv, rfl⟩ := own_slice h2.own.row
        have c0 := cell_of_one h2.cell
        have hbl2 := lt_of_block h2.cell
        have hba : Below w2.heap.size w2 (w2.alloc (.cells #[.int .u64 (id : Int), .int .u64 0, .slice none 0 0] 60)) := (Below.refl _ _).alloc (Nat.le_refl _) _
        have hna := heap_alloc_new w2 (.cells #[.int .u64 (id : Int), .int .u64 0, .slice none 0 0] 60)
        have HIN := Lib.hid (insert_any P ps.length (.slice ov ps.length cv) (CsS ps) [.int .u64 (id : Int), .int .u64 0, .slice none 0 0] w2.heap.size base _ (h2.own.below hba (Nat.le_refl _)).row (by omega) (by omega) hna rfl
          (fun e => by have := (h2.own.row.lt _ e).2; omega) h2.own.one (by intro u hu; simp at hu; rcases hu with rfl | rfl | rfl <;> rfl) (by simp; omega))
        have HT2 := Lib.hid h2
        have HPS := Lib.hid hps
        clear h2 hna hba hps
        go_wp2_with fail
        refine HIN.out.mono ?_
        rintro e w3 ⟨v3, rfl, ho3, hg3, hv3⟩
        obtain ⟨hc3, hfin, hk3⟩ := ins_fin HT2.out (by omega) ho3 hg3 (by simpa using hv3)
        obtain ⟨g, c, rfl, hgb, -, -, -⟩ := own_at ho3 (by omega)
        have d0 := cell_of_one hc3
        have df := free_of_one hc3
        have dl := lt_of_block hc3
        have HF3 := Lib.hid hfin
        have HK3 := Lib.hid ((kept_of_below (S := two b (.slice ov ps.length cv)) HB2.out).trans hk3)
        have HV3 := Lib.hid hv3
        clear ho3 hg3 hv3 hc3 hfin hk3 HIN c0
        go_wp2_with fail
        generalize hWW : w3.setCell ⟨b, 0, none⟩ (.slice (some ⟨g, 0, none⟩) (ps.length + 1) c) = W at *
        have hsW : W.heap.size = w3.heap.size := by rw [← hWW]; simp [World.setCell]
        clear hWW d0 df dl
        generalize hn : ps.length + 1 = n at *
        have hpx : (ps.take P ++ ((⟨id, 0, []⟩ : Se), Value.slice none 0 0) :: ps.drop P)[P]? = some (⟨id, 0, []⟩, .slice none 0 0) := by
          rw [List.getElem?_append_right (by rw [List.length_take]; omega), List.length_take, show P - min P ps.length = 0 by omega]; rfl
        have c0 := cell_of_one HF3.out.cell
        obtain ⟨hgl, hfz, hcs⟩ := own_lit HF3.out.own.row
        obtain ⟨-, c1, c2⟩ := (show SRow W W g _ from ⟨Below.refl _ _, hgl, hcs⟩).at hpx
        dsimp only at c1 c2
        have f1 := hfz (P * 3 + 1)
        have f2 := hfz (P * 3 + 2)
        have hbl := lt_of_block HF3.out.cell
        have hbg : b ≠ g := fun e => HF3.out.ne (by rw [e]; rfl)
        have j0 : P < n := by omega
        have hc : ∀ W', W' = W.drew → Calls Try.prog 22 #[.slice ox rp.length cx] W' fun e w' => ∃ v', e = .returned v' ∧ Own w' W'.heap.size v' rp ∧ Below W'.heap.size W' w' := by
          rintro _ rfl
          exact clone _ rp _ (HX.out _ HK3.out.drew) (by omega)
        have HC := Lib.hid hc
        have hfin : ∀ (w5 : World) (v5 : Value), Below W.heap.size W w5 → Own w5 W.heap.size v5 rp → PutP S w b base (.slice ov ps.length cv) (0, insS l ⟨id, nm, rp⟩) (.returned (.int .i64 0)) ((w5.setCell ⟨g, P * 3 + 1, none⟩ (.int .u64 (nm : Int))).setCell ⟨g, P * 3 + 2, none⟩ v5) := by
          intro w5 v5 hb5 ho5
          obtain ⟨h1, h2⟩ := put_fin (y := ⟨id, nm, rp⟩) HF3.out hpx rfl hb5 ho5 (Nat.le_trans hbase HK3.out.size)
          refine ⟨rfl, _, ⟨_, ?_, h1, fun p hp g' hg' => ?_⟩, ?_, HK3.out.step h2 (fun k hk => ?_)⟩
          · rw [HI.out, ← HPS.out, List.set_append_right _ _ (by rw [List.length_take]; omega), List.length_take, show P - min P ps.length = 0 by omega, List.set_cons_zero, List.map_append, List.map_cons, List.map_take, List.map_drop]
          · have hnew : w.heap.size ≤ W.heap.size := HK3.out.size
            rcases List.mem_or_eq_of_mem_set hp with hp | rfl
            · rcases List.mem_append.1 hp with hp | hp
              · exact HQS.out p (List.mem_of_mem_take hp) g' hg'
              · rcases List.mem_cons.1 hp with rfl | hp
                · cases hg'
                · exact HQS.out p (List.mem_of_mem_drop hp) g' hg'
            · exact HSS.out g' (Nat.le_trans hnew (ho5.lt g' hg').1)
          · rcases HV3.out with h | h
            · exact .inl h
            · right; refine ⟨_, h, ?_⟩; have := HB2.out.size; simp; omega
          · rcases HV3.out with h | h
            · left; right; rw [← h, hk]; rfl
            · right
              have e : g = (w2.alloc (.cells #[.int .u64 (id : Int), .int .u64 0, .slice none 0 0] 60)).heap.size := by simpa [Value.ownBlock] using h
              have := HB2.out.size
              rw [hk, e]; simp; omega
        have HFIN := Lib.hid hfin
        clear hfz hcs hc hfin hpx
        refine wp_region_held_drew (S := fun w' => w'.cell? ⟨b, 0, none⟩ = some (.slice (some ⟨g, 0, none⟩) n c)) (by kernel_rfl) c0 ?_
        intro hHeld
        refine wpAnyH_take (i := 0) (v := ?_) (by simp only [List.getElem?_toArray, List.getElem?_cons_zero]; rfl) (by kernel_rfl) (by kernel_rfl) (by kernel_rfl) (by intro _ _ _ h; exact h) (Or.inl ⟨by rfl, ?_⟩) (by assumption) ?_
        rotate_left
        · (intro w hSw; (try dsimp only at hSw); go_simp; try with_reducible rfl)
        try simp only [Act.put, List.setIfInBounds_toArray, List.set_cons_zero, List.set_cons_succ]
        refine wpAnyH_take (i := 1) (v := ?_) (by simp only [List.getElem?_toArray, List.getElem?_cons_succ, List.getElem?_cons_zero]; rfl) (by kernel_rfl) (by kernel_rfl) (by kernel_rfl) (by intro _ _ _ h; exact h) (Or.inl ⟨by rfl, ?_⟩) (by assumption) ?_
        rotate_left
        · (intro w hSw; (try dsimp only at hSw); go_simp; try with_reducible rfl)
        try simp only [Act.put, List.setIfInBounds_toArray, List.set_cons_zero, List.set_cons_succ]
        refine wpAnyH_take (i := 2) (v := ?_) (by simp only [List.getElem?_toArray, List.getElem?_cons_succ, List.getElem?_cons_zero]; rfl) (by kernel_rfl) (by kernel_rfl) (by kernel_rfl) (by intro _ _ _ h; exact h) (Or.inl ⟨by rfl, ?_⟩) (by assumption) ?_
        rotate_left
        · (intro w hSw; (try dsimp only at hSw); go_simp; try with_reducible rfl)
        try simp only [Act.put, List.setIfInBounds_toArray, List.set_cons_zero, List.set_cons_succ]
        refine wpAnyH_take (i := 3) (v := ?_) (by simp only [List.getElem?_toArray, List.getElem?_cons_succ, List.getElem?_cons_zero]; rfl) (by kernel_rfl) (by kernel_rfl) (by kernel_rfl) (by intro _ _ _ h; exact h) (Or.inl ⟨by rfl, ?_⟩) (by assumption) ?_
        rotate_left
        · (intro w hSw; (try dsimp only at hSw); go_simp; try with_reducible rfl)
        try simp only [Act.put, List.setIfInBounds_toArray, List.set_cons_zero, List.set_cons_succ]
        refine wpAnyH_take (i := 4) (v := ?_) (by simp only [List.getElem?_toArray, List.getElem?_cons_succ, List.getElem?_cons_zero]; rfl) (by kernel_rfl) (by kernel_rfl) (by kernel_rfl) (by intro _ _ _ h; exact h) (Or.inl ⟨by rfl, ?_⟩) (by assumption) ?_
        rotate_left
        · (intro w hSw; (try dsimp only at hSw); go_simp; try with_reducible rfl)
        try simp only [Act.put, List.setIfInBounds_toArray, List.set_cons_zero, List.set_cons_succ]
        refine wpAnyH_take (i := 5) (v := ?_) (by simp only [List.getElem?_toArray, List.getElem?_cons_succ, List.getElem?_cons_zero]; rfl) (by kernel_rfl) (by kernel_rfl) (by kernel_rfl) (by intro _ _ _ h; exact h) (Or.inl ⟨by rfl, ?_⟩) (by assumption) ?_
        rotate_left
        · (intro w hSw; (try dsimp only at hSw); go_simp; try with_reducible rfl)
        try simp only [Act.put, List.setIfInBounds_toArray, List.set_cons_zero, List.set_cons_succ]
        refine wpAnyH_take (i := 6) (v := ?_) (by simp only [List.getElem?_toArray, List.getElem?_cons_succ, List.getElem?_cons_zero]; rfl) (by kernel_rfl) (by kernel_rfl) (by kernel_rfl) (by intro _ _ _ h; exact h) (Or.inl ⟨by rfl, ?_⟩) (by assumption) ?_
        rotate_left
        · (intro w hSw; (try dsimp only at hSw); go_simp; try with_reducible rfl)
        try simp only [Act.put, List.setIfInBounds_toArray, List.set_cons_zero, List.set_cons_succ]
        refine wpAnyH_take (i := 7) (v := ?_) (by simp only [List.getElem?_toArray, List.getElem?_cons_succ, List.getElem?_cons_zero]; rfl) (by kernel_rfl) (by kernel_rfl) (by kernel_rfl) (by intro _ _ _ h; exact h) (Or.inl ⟨by rfl, ?_⟩) (by assumption) ?_
        rotate_left
        · (intro w hSw; (try dsimp only at hSw); go_simp; try with_reducible rfl)
        try simp only [Act.put, List.setIfInBounds_toArray, List.set_cons_zero, List.set_cons_succ]
        refine wpAnyH_take (i := 8) (v := ?_) (by simp only [List.getElem?_toArray, List.getElem?_cons_succ, List.getElem?_cons_zero]; rfl) (by kernel_rfl) (by kernel_rfl) (by kernel_rfl) (by intro _ _ _ h; exact h) (Or.inl ⟨by rfl, ?_⟩) (by assumption) ?_
        rotate_left
        · (intro w hSw; (try dsimp only at hSw); go_simp; try with_reducible rfl)
        try simp only [Act.put, List.setIfInBounds_toArray, List.set_cons_zero, List.set_cons_succ]
        refine wpAnyH_take (i := 9) (v := ?_) (by simp only [List.getElem?_toArray, List.getElem?_cons_succ, List.getElem?_cons_zero]; rfl) (by kernel_rfl) (by kernel_rfl) (by kernel_rfl) (by intro _ _ _ h; exact h) (Or.inl ⟨by rfl, ?_⟩) (by assumption) ?_
        rotate_left
        · (intro w hSw; (try dsimp only at hSw); go_simp; try with_reducible rfl)
        try simp only [Act.put, List.setIfInBounds_toArray, List.set_cons_zero, List.set_cons_succ]
        refine wpAnyH_take (i := 10) (v := ?_) (by simp only [List.getElem?_toArray, List.getElem?_cons_succ, List.getElem?_cons_zero]; rfl) (by kernel_rfl) (by kernel_rfl) (by kernel_rfl) (by intro _ _ _ h; exact h) (Or.inl ⟨by rfl, ?_⟩) (by assumption) ?_
        rotate_left
        · (intro w hSw; (try dsimp only at hSw); go_simp; try with_reducible rfl)
        try simp only [Act.put, List.setIfInBounds_toArray, List.set_cons_zero, List.set_cons_succ]
        refine wpAnyH_take (i := 11) (v := ?_) (by simp only [List.getElem?_toArray, List.getElem?_cons_succ, List.getElem?_cons_zero]; rfl) (by kernel_rfl) (by kernel_rfl) (by kernel_rfl) (by intro _ _ _ h; exact h) (Or.inl ⟨by rfl, ?_⟩) (by assumption) ?_
        rotate_left
        · (intro w hSw; (try dsimp only at hSw); go_simp; try with_reducible rfl)
        try simp only [Act.put, List.setIfInBounds_toArray, List.set_cons_zero, List.set_cons_succ]
        refine wpAnyH_ready (rs := [12]) (by kernel_rfl) (by simp) ?_
        refine AllReadyH.cons (by simp only [List.getElem?_toArray, List.getElem?_cons_succ, List.getElem?_cons_zero]; rfl) (fun K hK => ?_) AllReadyH.nil
        go_simp
        refine (HC.out W.drew rfl).mono ?_
        rintro e w5 ⟨v5, rfl, ho5, hb5⟩
        obtain ⟨o5, c5, rfl⟩ := own_slice ho5
        have HO5 := Lib.hid ho5
        have HB5 := Lib.hid (show Below W.heap.size W w5 from ⟨hb5.os, hb5.tape, hb5.output, hb5.size, hb5.block⟩)
        have d0 := (HB5.out.cell (p := ⟨b, 0, none⟩) hbl).trans c0
        have d1 := (HB5.out.cell (p := ⟨g, P * 3 + 1, none⟩) hgl).trans c1
        have d2 := (HB5.out.cell (p := ⟨g, P * 3 + 2, none⟩) hgl).trans c2
        have e1 := (HB5.out.frozen (p := ⟨g, P * 3 + 1, none⟩) hgl).trans f1
        have e2 := (HB5.out.frozen (p := ⟨g, P * 3 + 2, none⟩) hgl).trans f2
        have hgl5 : g < w5.heap.size := Nat.lt_of_lt_of_le hgl HB5.out.size
        clear ho5 hb5 c0 c1 c2
        refine hK.out _ _ d0 (fun hHeld => ?_)
        clear hK K
        try simp only [Act.put, List.setIfInBounds_toArray, List.set_cons_zero, List.set_cons_succ]
        refine wpAnyH_take (i := 13) (v := ?_) (by simp only [List.getElem?_toArray, List.getElem?_cons_succ, List.getElem?_cons_zero]; rfl) (by kernel_rfl) (by kernel_rfl) (by kernel_rfl) (by intro _ _ _ h; exact h) (Or.inl ⟨by rfl, ?_⟩) (by assumption) ?_
        rotate_left
        · (intro w hSw; (try dsimp only at hSw); go_simp; try with_reducible rfl)
        try simp only [Act.put, List.setIfInBounds_toArray, List.set_cons_zero, List.set_cons_succ]
        refine wpAnyH_take (i := 14) (v := ?_) (by simp only [List.getElem?_toArray, List.getElem?_cons_succ, List.getElem?_cons_zero]; rfl) (by kernel_rfl) (by kernel_rfl) (by kernel_rfl) (by intro _ _ _ h; exact h) (Or.inl ⟨by rfl, ?_⟩) (by assumption) ?_
        rotate_left
        · (intro w hSw; (try dsimp only at hSw); go_simp; try with_reducible rfl)
        try simp only [Act.put, List.setIfInBounds_toArray, List.set_cons_zero, List.set_cons_succ]
        refine wpAnyH_ready (rs := [15]) (by kernel_rfl) (by simp) ?_
        refine AllReadyH.cons (by simp only [List.getElem?_toArray, List.getElem?_cons_succ, List.getElem?_cons_zero]; rfl) (fun K hK => ?_) AllReadyH.nil
        go_simp
        have d0s : (w5.setCell ⟨g, P * 3 + 1, none⟩ (.int .u64 (nm : Int))).cell? ⟨b, 0, none⟩ = some (.slice (some ⟨g, 0, none⟩) n c) := (World.cell?_of_block (w := w5) (a := ⟨b, 0, none⟩) (Below.heap_setCell _ _ _ _ hbg)).trans d0
        refine hK.out _ _ d0s (fun hHeld => ?_)
        clear hK K
        try simp only [Act.put, List.setIfInBounds_toArray, List.set_cons_zero, List.set_cons_succ]
        refine wpAnyH_take (i := 16) (v := ?_) (by simp only [List.getElem?_toArray, List.getElem?_cons_succ, List.getElem?_cons_zero]; rfl) (by kernel_rfl) (by kernel_rfl) (by kernel_rfl) (by intro _ _ _ h; exact h) (Or.inl ⟨by rfl, ?_⟩) (by assumption) ?_
        rotate_left
        · (intro w hSw; (try dsimp only at hSw); go_simp; try with_reducible rfl)
        try simp only [Act.put, List.setIfInBounds_toArray, List.set_cons_zero, List.set_cons_succ]
        refine wpAnyH_take (i := 17) (v := ?_) (by simp only [List.getElem?_toArray, List.getElem?_cons_succ, List.getElem?_cons_zero]; rfl) (by kernel_rfl) (by kernel_rfl) (by kernel_rfl) (by intro _ _ _ h; exact h) (Or.inl ⟨by rfl, ?_⟩) (by assumption) ?_
        rotate_left
        · (intro w hSw; (try dsimp only at hSw); go_simp; try with_reducible rfl)
        try simp only [Act.put, List.setIfInBounds_toArray, List.set_cons_zero, List.set_cons_succ]
        refine wpAnyH_ready (rs := [18]) (by kernel_rfl) (by simp) ?_
        refine AllReadyH.cons (by simp only [List.getElem?_toArray, List.getElem?_cons_succ, List.getElem?_cons_zero]; rfl) (fun K hK => ?_) AllReadyH.nil
        go_simp
        have d0t : ((w5.setCell ⟨g, P * 3 + 1, none⟩ (.int .u64 (nm : Int))).setCell ⟨g, P * 3 + 2, none⟩ (.slice o5 rp.length c5)).cell? ⟨b, 0, none⟩ = some (.slice (some ⟨g, 0, none⟩) n c) := (World.cell?_of_block (w := w5.setCell ⟨g, P * 3 + 1, none⟩ (.int .u64 (nm : Int))) (a := ⟨b, 0, none⟩) (Below.heap_setCell _ _ _ _ hbg)).trans d0s
        refine hK.out _ _ d0t (fun hHeld => ?_)
        clear hK K
        try simp only [Act.put, List.setIfInBounds_toArray, List.set_cons_zero, List.set_cons_succ]
        refine wpAnyH_done (by kernel_rfl) ?_ _
        go_wp2_with fail
        go_ret
        rw [HP.out]
        exact HFIN.out _ _ HB5.out HO5.out
      · have hsat := seAt_some hs
        rw [hs] at HI
        have HI : Hid (insS l ⟨id, nm, rp⟩ = l.set (pl l id) ⟨id, nm, rp⟩) := HI
        generalize pl l id = P at *
        clear hs
        obtain ⟨hat, hid⟩ := hsat
        obtain ⟨W, hW⟩ : ∃ W, W = w2 := ⟨_, rfl⟩
        subst hW
        obtain ⟨ps, hps, h2, hqs⟩ := H.out.below HB2.out
        have HQS := Lib.hid hqs
        have HSS := Lib.hid hS
        clear hqs hS
        have hpl : ps.length = l.length := by rw [← hps]; simp
        have hPn : P < ps.length := by have := (List.getElem?_eq_some_iff.1 hat).1; omega
        have hpx : ps[P]? = some ps[P] := List.getElem?_eq_getElem hPn
        have hpe : (ps[P]).1.id = id := by
          rw [← hps, List.getElem?_map, hpx] at hat
          injection hat with hat
          rw [hat, hid]
        obtain ⟨g, c, rfl, hgb, hgl, hfz, hcs⟩ := own_at h2.own.row (by omega)
        generalize hq : ps[P] = q at *
        obtain ⟨_, c1, c2⟩ := (show SRow W W g _ from ⟨Below.refl _ _, hgl, hcs⟩).at hpx
        have c0 := cell_of_one h2.cell
        have f1 := hfz (P * 3 + 1)
        have f2 := hfz (P * 3 + 2)
        have hbl := lt_of_block h2.cell
        have hbg : b ≠ g := fun e => h2.ne (by rw [e]; rfl)
        have HPS := Lib.hid hps
        have HPL := Lib.hid hpl
        have HT := Lib.hid h2
        have hc : ∀ W', W' = W.drew → Calls Try.prog 22 #[.slice ox rp.length cx] W' fun e w' => ∃ v', e = .returned v' ∧ Own w' W'.heap.size v' rp ∧ Below W'.heap.size W' w' := by
          rintro _ rfl
          exact clone _ rp _ (HX.out _ (kept_of_below HB2.out.drew)) (by omega)
        have HC := Lib.hid hc
        have hfin : ∀ (w5 : World) (v5 : Value), Below W.heap.size W w5 → Own w5 W.heap.size v5 rp → PutP S w b base (.slice (some ⟨g, 0, none⟩) ps.length c) (0, insS l ⟨id, nm, rp⟩) (.returned (.int .i64 0)) ((w5.setCell ⟨g, P * 3 + 1, none⟩ (.int .u64 (nm : Int))).setCell ⟨g, P * 3 + 2, none⟩ v5) := by
          intro w5 v5 hb5 ho5
          obtain ⟨h1, h2⟩ := put_fin (y := ⟨id, nm, rp⟩) HT.out (x := q.1) (vx := q.2) hpx hpe.symm hb5 ho5 (Nat.le_trans hbase HB2.out.size)
          refine ⟨rfl, _, ⟨_, ?_, h1, fun p hp g' hg' => ?_⟩, .inl rfl, (kept_of_below (S := two b (.slice (some ⟨g, 0, none⟩) ps.length c)) HB2.out).step h2 (fun k hk => .inl (.inr (by rw [hk]; rfl)))⟩
          · rw [HI.out, ← HPS.out, List.map_set]
          · rcases List.mem_or_eq_of_mem_set hp with hp | rfl
            · exact HQS.out p hp g' hg'
            · exact HSS.out g' (Nat.le_trans HB2.out.size (ho5.lt g' hg').1)
        have HFIN := Lib.hid hfin
        have j1 := hPn
        clear hfz hcs hc hfin hpx hps hpl h2 hat hid hpe hq hPn hplL
        generalize hn : ps.length = n at *
        have j0 : P < n := j1
        have HN := Lib.hid hn
        clear hn j1
        go_wp2_with fail
        refine wp_region_held_drew (S := fun w' => w'.cell? ⟨b, 0, none⟩ = some (.slice (some ⟨g, 0, none⟩) n c)) (by kernel_rfl) c0 ?_
        intro hHeld
        refine wpAnyH_take (i := 0) (v := ?_) (by simp only [List.getElem?_toArray, List.getElem?_cons_zero]; rfl) (by kernel_rfl) (by kernel_rfl) (by kernel_rfl) (by intro _ _ _ h; exact h) (Or.inl ⟨by rfl, ?_⟩) (by assumption) ?_
        rotate_left
        · (intro w hSw; (try dsimp only at hSw); go_simp; try with_reducible rfl)
        try simp only [Act.put, List.setIfInBounds_toArray, List.set_cons_zero, List.set_cons_succ]
        refine wpAnyH_take (i := 1) (v := ?_) (by simp only [List.getElem?_toArray, List.getElem?_cons_succ, List.getElem?_cons_zero]; rfl) (by kernel_rfl) (by kernel_rfl) (by kernel_rfl) (by intro _ _ _ h; exact h) (Or.inl ⟨by rfl, ?_⟩) (by assumption) ?_
        rotate_left
        · (intro w hSw; (try dsimp only at hSw); go_simp; try with_reducible rfl)
        try simp only [Act.put, List.setIfInBounds_toArray, List.set_cons_zero, List.set_cons_succ]
        refine wpAnyH_take (i := 2) (v := ?_) (by simp only [List.getElem?_toArray, List.getElem?_cons_succ, List.getElem?_cons_zero]; rfl) (by kernel_rfl) (by kernel_rfl) (by kernel_rfl) (by intro _ _ _ h; exact h) (Or.inl ⟨by rfl, ?_⟩) (by assumption) ?_
        rotate_left
        · (intro w hSw; (try dsimp only at hSw); go_simp; try with_reducible rfl)
        try simp only [Act.put, List.setIfInBounds_toArray, List.set_cons_zero, List.set_cons_succ]
        refine wpAnyH_take (i := 3) (v := ?_) (by simp only [List.getElem?_toArray, List.getElem?_cons_succ, List.getElem?_cons_zero]; rfl) (by kernel_rfl) (by kernel_rfl) (by kernel_rfl) (by intro _ _ _ h; exact h) (Or.inl ⟨by rfl, ?_⟩) (by assumption) ?_
        rotate_left
        · (intro w hSw; (try dsimp only at hSw); go_simp; try with_reducible rfl)
        try simp only [Act.put, List.setIfInBounds_toArray, List.set_cons_zero, List.set_cons_succ]
        refine wpAnyH_take (i := 4) (v := ?_) (by simp only [List.getElem?_toArray, List.getElem?_cons_succ, List.getElem?_cons_zero]; rfl) (by kernel_rfl) (by kernel_rfl) (by kernel_rfl) (by intro _ _ _ h; exact h) (Or.inl ⟨by rfl, ?_⟩) (by assumption) ?_
        rotate_left
        · (intro w hSw; (try dsimp only at hSw); go_simp; try with_reducible rfl)
        try simp only [Act.put, List.setIfInBounds_toArray, List.set_cons_zero, List.set_cons_succ]
        refine wpAnyH_take (i := 5) (v := ?_) (by simp only [List.getElem?_toArray, List.getElem?_cons_succ, List.getElem?_cons_zero]; rfl) (by kernel_rfl) (by kernel_rfl) (by kernel_rfl) (by intro _ _ _ h; exact h) (Or.inl ⟨by rfl, ?_⟩) (by assumption) ?_
        rotate_left
        · (intro w hSw; (try dsimp only at hSw); go_simp; try with_reducible rfl)
        try simp only [Act.put, List.setIfInBounds_toArray, List.set_cons_zero, List.set_cons_succ]
        refine wpAnyH_take (i := 6) (v := ?_) (by simp only [List.getElem?_toArray, List.getElem?_cons_succ, List.getElem?_cons_zero]; rfl) (by kernel_rfl) (by kernel_rfl) (by kernel_rfl) (by intro _ _ _ h; exact h) (Or.inl ⟨by rfl, ?_⟩) (by assumption) ?_
        rotate_left
        · (intro w hSw; (try dsimp only at hSw); go_simp; try with_reducible rfl)
        try simp only [Act.put, List.setIfInBounds_toArray, List.set_cons_zero, List.set_cons_succ]
        refine wpAnyH_take (i := 7) (v := ?_) (by simp only [List.getElem?_toArray, List.getElem?_cons_succ, List.getElem?_cons_zero]; rfl) (by kernel_rfl) (by kernel_rfl) (by kernel_rfl) (by intro _ _ _ h; exact h) (Or.inl ⟨by rfl, ?_⟩) (by assumption) ?_
        rotate_left
        · (intro w hSw; (try dsimp only at hSw); go_simp; try with_reducible rfl)
        try simp only [Act.put, List.setIfInBounds_toArray, List.set_cons_zero, List.set_cons_succ]
        refine wpAnyH_take (i := 8) (v := ?_) (by simp only [List.getElem?_toArray, List.getElem?_cons_succ, List.getElem?_cons_zero]; rfl) (by kernel_rfl) (by kernel_rfl) (by kernel_rfl) (by intro _ _ _ h; exact h) (Or.inl ⟨by rfl, ?_⟩) (by assumption) ?_
        rotate_left
        · (intro w hSw; (try dsimp only at hSw); go_simp; try with_reducible rfl)
        try simp only [Act.put, List.setIfInBounds_toArray, List.set_cons_zero, List.set_cons_succ]
        refine wpAnyH_take (i := 9) (v := ?_) (by simp only [List.getElem?_toArray, List.getElem?_cons_succ, List.getElem?_cons_zero]; rfl) (by kernel_rfl) (by kernel_rfl) (by kernel_rfl) (by intro _ _ _ h; exact h) (Or.inl ⟨by rfl, ?_⟩) (by assumption) ?_
        rotate_left
        · (intro w hSw; (try dsimp only at hSw); go_simp; try with_reducible rfl)
        try simp only [Act.put, List.setIfInBounds_toArray, List.set_cons_zero, List.set_cons_succ]
        refine wpAnyH_take (i := 10) (v := ?_) (by simp only [List.getElem?_toArray, List.getElem?_cons_succ, List.getElem?_cons_zero]; rfl) (by kernel_rfl) (by kernel_rfl) (by kernel_rfl) (by intro _ _ _ h; exact h) (Or.inl ⟨by rfl, ?_⟩) (by assumption) ?_
        rotate_left
        · (intro w hSw; (try dsimp only at hSw); go_simp; try with_reducible rfl)
        try simp only [Act.put, List.setIfInBounds_toArray, List.set_cons_zero, List.set_cons_succ]
        refine wpAnyH_take (i := 11) (v := ?_) (by simp only [List.getElem?_toArray, List.getElem?_cons_succ, List.getElem?_cons_zero]; rfl) (by kernel_rfl) (by kernel_rfl) (by kernel_rfl) (by intro _ _ _ h; exact h) (Or.inl ⟨by rfl, ?_⟩) (by assumption) ?_
        rotate_left
        · (intro w hSw; (try dsimp only at hSw); go_simp; try with_reducible rfl)
        try simp only [Act.put, List.setIfInBounds_toArray, List.set_cons_zero, List.set_cons_succ]
        refine wpAnyH_ready (rs := [12]) (by kernel_rfl) (by simp) ?_
        refine AllReadyH.cons (by simp only [List.getElem?_toArray, List.getElem?_cons_succ, List.getElem?_cons_zero]; rfl) (fun K hK => ?_) AllReadyH.nil
        go_simp
        refine (HC.out W.drew rfl).mono ?_
        rintro e w5 ⟨v5, rfl, ho5, hb5⟩
        obtain ⟨o5, c5, rfl⟩ := own_slice ho5
        have HO5 := Lib.hid ho5
        have HB5 := Lib.hid (show Below W.heap.size W w5 from ⟨hb5.os, hb5.tape, hb5.output, hb5.size, hb5.block⟩)
        have d0 := (HB5.out.cell (p := ⟨b, 0, none⟩) hbl).trans c0
        have d1 := (HB5.out.cell (p := ⟨g, P * 3 + 1, none⟩) hgl).trans c1
        have d2 := (HB5.out.cell (p := ⟨g, P * 3 + 2, none⟩) hgl).trans c2
        have e1 := (HB5.out.frozen (p := ⟨g, P * 3 + 1, none⟩) hgl).trans f1
        have e2 := (HB5.out.frozen (p := ⟨g, P * 3 + 2, none⟩) hgl).trans f2
        have hgl5 : g < w5.heap.size := Nat.lt_of_lt_of_le hgl HB5.out.size
        clear ho5 hb5 c0 c1 c2
        refine hK.out _ _ d0 (fun hHeld => ?_)
        clear hK K
        try simp only [Act.put, List.setIfInBounds_toArray, List.set_cons_zero, List.set_cons_succ]
        refine wpAnyH_take (i := 13) (v := ?_) (by simp only [List.getElem?_toArray, List.getElem?_cons_succ, List.getElem?_cons_zero]; rfl) (by kernel_rfl) (by kernel_rfl) (by kernel_rfl) (by intro _ _ _ h; exact h) (Or.inl ⟨by rfl, ?_⟩) (by assumption) ?_
        rotate_left
        · (intro w hSw; (try dsimp only at hSw); go_simp; try with_reducible rfl)
        try simp only [Act.put, List.setIfInBounds_toArray, List.set_cons_zero, List.set_cons_succ]
        refine wpAnyH_take (i := 14) (v := ?_) (by simp only [List.getElem?_toArray, List.getElem?_cons_succ, List.getElem?_cons_zero]; rfl) (by kernel_rfl) (by kernel_rfl) (by kernel_rfl) (by intro _ _ _ h; exact h) (Or.inl ⟨by rfl, ?_⟩) (by assumption) ?_
        rotate_left
        · (intro w hSw; (try dsimp only at hSw); go_simp; try with_reducible rfl)
        try simp only [Act.put, List.setIfInBounds_toArray, List.set_cons_zero, List.set_cons_succ]
        refine wpAnyH_ready (rs := [15]) (by kernel_rfl) (by simp) ?_
        refine AllReadyH.cons (by simp only [List.getElem?_toArray, List.getElem?_cons_succ, List.getElem?_cons_zero]; rfl) (fun K hK => ?_) AllReadyH.nil
        go_simp
        have d0s : (w5.setCell ⟨g, P * 3 + 1, none⟩ (.int .u64 (nm : Int))).cell? ⟨b, 0, none⟩ = some (.slice (some ⟨g, 0, none⟩) n c) := (World.cell?_of_block (w := w5) (a := ⟨b, 0, none⟩) (Below.heap_setCell _ _ _ _ hbg)).trans d0
        refine hK.out _ _ d0s (fun hHeld => ?_)
        clear hK K
        try simp only [Act.put, List.setIfInBounds_toArray, List.set_cons_zero, List.set_cons_succ]
        refine wpAnyH_take (i := 16) (v := ?_) (by simp only [List.getElem?_toArray, List.getElem?_cons_succ, List.getElem?_cons_zero]; rfl) (by kernel_rfl) (by kernel_rfl) (by kernel_rfl) (by intro _ _ _ h; exact h) (Or.inl ⟨by rfl, ?_⟩) (by assumption) ?_
        rotate_left
        · (intro w hSw; (try dsimp only at hSw); go_simp; try with_reducible rfl)
        try simp only [Act.put, List.setIfInBounds_toArray, List.set_cons_zero, List.set_cons_succ]
        refine wpAnyH_take (i := 17) (v := ?_) (by simp only [List.getElem?_toArray, List.getElem?_cons_succ, List.getElem?_cons_zero]; rfl) (by kernel_rfl) (by kernel_rfl) (by kernel_rfl) (by intro _ _ _ h; exact h) (Or.inl ⟨by rfl, ?_⟩) (by assumption) ?_
        rotate_left
        · (intro w hSw; (try dsimp only at hSw); go_simp; try with_reducible rfl)
        try simp only [Act.put, List.setIfInBounds_toArray, List.set_cons_zero, List.set_cons_succ]
        refine wpAnyH_ready (rs := [18]) (by kernel_rfl) (by simp) ?_
        refine AllReadyH.cons (by simp only [List.getElem?_toArray, List.getElem?_cons_succ, List.getElem?_cons_zero]; rfl) (fun K hK => ?_) AllReadyH.nil
        go_simp
        have d0t : ((w5.setCell ⟨g, P * 3 + 1, none⟩ (.int .u64 (nm : Int))).setCell ⟨g, P * 3 + 2, none⟩ (.slice o5 rp.length c5)).cell? ⟨b, 0, none⟩ = some (.slice (some ⟨g, 0, none⟩) n c) := (World.cell?_of_block (w := w5.setCell ⟨g, P * 3 + 1, none⟩ (.int .u64 (nm : Int))) (a := ⟨b, 0, none⟩) (Below.heap_setCell _ _ _ _ hbg)).trans d0s
        refine hK.out _ _ d0t (fun hHeld => ?_)
        clear hK K
        try simp only [Act.put, List.setIfInBounds_toArray, List.set_cons_zero, List.set_cons_succ]
        refine wpAnyH_done (by kernel_rfl) ?_ _
        go_wp2_with fail
        go_ret
        rw [HP.out]
        exact HFIN.out _ _ HB5.out HO5.out
    · have i2 : (code == 6) = false := by simp [h6]
      rw [if_neg h6] at HP
      clear h0 h6
      go_wp2_with fail
      go_ret
      rw [HP.out]
      exact ⟨rfl, HS.out _ HB1.out⟩
end Go.Proofs.Ytlfnblgpekilnaa
