/- Collect. -/
import Derived.Test.YtkdhajiplonloaaHeaK
import Derived.Test.YtkdhajiplonloaaHeaQ
namespace Go.Proofs.Ytkdhajiplonloaa
open Go.RowKit HeaM

/-- What roots must be: pointers to words that lie apart from the heap, from one another, and from the slice. -/
structure RootsOK (w : World) (b : Nat) (v1 v2 rv : Value) (rs : List Addr) (xs : List Nat) : Prop where
  roots : Roots w rv rs xs
  nodup : rs.Nodup
  free : ∀ a ∈ rs, w.frozen? a = false
  apart : ∀ a ∈ rs, ¬ three b v1 v2 a.block
  row : ∀ a n c, rv = .slice (some a) n c → ¬ three b v1 v2 a.block ∧ a.block < w.heap.size ∧ ∀ r ∈ rs, r.block ≠ a.block
  num : rs.length ≤ 1000000000

theorem RootsOK.lt {w : World} {b : Nat} {v1 v2 rv : Value} {rs : List Addr} {xs : List Nat} (h : RootsOK w b v1 v2 rv rs xs) (a : Addr) (ha : a ∈ rs) : a.block < w.heap.size := by
  obtain ⟨j, hj⟩ := List.getElem?_of_mem ha
  have hl := (List.getElem?_eq_some_iff.1 hj).1
  have hx := List.getElem?_eq_getElem (show j < xs.length by rw [h.roots.len]; exact hl)
  exact World.block_lt_of_cell? w _ (h.roots.cell j a _ hj hx)
theorem RootsOK.apartSS {w : World} {b : Nat} {v1 v2 rv : Value} {rs : List Addr} {xs : List Nat} (h : RootsOK w b v1 v2 rv rs xs) : Apart (SS b v1 v2 w.heap.size) rv rs :=
  ⟨fun k ⟨a, n, c, hv, hk⟩ hs => by
    obtain ⟨h1, h2, _⟩ := h.row a n c hv
    subst hk
    rcases hs with hs | hs
    · exact h1 hs
    · omega,
   fun a ha hs => by
    rcases hs with hs | hs
    · exact h.apart a ha hs
    · have := h.lt a ha; omega⟩

/-- The blocks of the roots keep their shape, and what is no root. -/
def Shape (rs : List Addr) (w w' : World) : Prop :=
  ∀ (k : Nat) (cur : Array Value) (ty : TypeId) (fr : Nat × Nat), (∃ a ∈ rs, a.block = k) → w.heap[k]? = some (.cells cur ty fr) → ∃ cur', w'.heap[k]? = some (.cells cur' ty fr) ∧ cur'.size = cur.size ∧ ∀ j : Nat, (⟨k, j, none⟩ : Addr) ∉ rs → cur'[j]? = cur[j]?
theorem Shape.refl (rs : List Addr) (w : World) : Shape rs w w := fun _ cur _ _ _ h => ⟨cur, h, rfl, fun _ _ => rfl⟩
theorem Shape.set {rs : List Addr} {w wr : World} (h : Shape rs w wr) {a : Addr} (ha : a ∈ rs) {v : Value} (hv : wr.cell? a = some v) (u : Value) : Shape rs w (wr.setCell a u) := by
  intro k cur ty fr hk hc
  obtain ⟨cur', h1, h2, h3⟩ := h k cur ty fr hk hc
  obtain ⟨ab, ao, asp⟩ := a
  obtain rfl : asp = none := World.cell?_spot hv
  by_cases e : k = ab
  · subst e
    refine ⟨cur'.setIfInBounds ao u, ?_, by simpa using h2, fun j hj => ?_⟩
    · rw [setCell_eq_setRow wr k ao cur' ty fr u h1]
      exact setRow_heap wr k cur' _ ty _ h1
    · have hne : ao ≠ j := by
        rintro rfl
        exact hj ha
      rw [Array.getElem?_setIfInBounds_ne hne]
      exact h3 j hj
  · exact ⟨cur', (heap_setCell_other wr ⟨ab, ao, none⟩ k u e).trans h1, h2, h3⟩

/-- What is collected: the new words, their marks, where the roots are. -/
def colS (W : List Nat) (F : List Bool) (xs : List Nat) : St := goP W F (W.length + 1) 0 (mvs W F ([], []) xs).1
def colR (W : List Nat) (F : List Bool) (xs : List Nat) : List Nat := (mvs W F ([], []) xs).2

/-- What Collect leaves. -/
def ColPost (w w' : World) (b base q c : Nat) (v1 v2 : Value) (W : List Nat) (F : List Bool) (rs : List Addr) (xs : List Nat) (e : Ending) : Prop :=
  e = .returned (.tuple #[]) ∧ ∃ v1' v2', HAt w' b base q (c + 1) v1' v2' (colS W F xs).2 (mk W (colS W F xs).1) ∧ (∀ k, three b v1' v2' k → three b v1 v2 k ∨ w.heap.size ≤ k) ∧
    Kept (fun k => three b v1 v2 k ∨ ∃ a ∈ rs, a.block = k) w w' ∧ (∀ (j : Nat) (a : Addr) (y : Nat), rs[j]? = some a → (colR W F xs)[j]? = some y → w'.cell? a = some (.int .u64 (y : Int))) ∧ (∀ a ∈ rs, w'.frozen? a = false) ∧ Shape rs w w'
    ∧ Inv W F (colS W F xs)

/-- The roots are written, k of them so far. -/
structure WR (w wr : World) (rs : List Addr) (ys : List Nat) (k : Nat) : Prop where
  kept : Kept (fun i => ∃ a ∈ rs, a.block = i) w wr
  done : ∀ (j : Nat) (a : Addr) (y : Nat), j < k → rs[j]? = some a → ys[j]? = some y → wr.cell? a = some (.int .u64 (y : Int))
  free : ∀ a ∈ rs, wr.frozen? a = false
  some_ : ∀ a ∈ rs, ∃ v, wr.cell? a = some v
  shape : Shape rs w wr

theorem WR.step {w wr : World} {rs : List Addr} {ys : List Nat} {k : Nat} (h : WR w wr rs ys k) (hn : rs.Nodup) {a : Addr} {y : Nat} (ha : rs[k]? = some a) (hy : ys[k]? = some y) : WR w (wr.setCell a (.int .u64 (y : Int))) rs ys (k + 1) := by
  have hm := List.mem_of_getElem? ha
  obtain ⟨v, hv⟩ := h.some_ a hm
  refine ⟨Kept.setCell h.kept (.inl ⟨_, hm, rfl⟩) _, ?_, ?_, ?_, h.shape.set hm hv _⟩
  · intro j a' y' hj h1 h2
    by_cases e : j = k
    · subst e
      rw [ha] at h1
      injection h1 with h1
      subst h1
      rw [hy] at h2
      injection h2 with h2
      subst h2
      exact World.cell?_setCell_same _ _ _ hv
    · have hne : a ≠ a' := by
        rintro rfl
        exact e ((List.getElem?_inj (List.getElem?_eq_some_iff.1 h1).1 hn).1 (h1.trans ha.symm))
      rw [World.cell?_setCell_other _ _ _ _ hne]
      exact h.done j a' y' (by omega) h1 h2
  · intro a' ha'
    rw [World.frozen?_setCell]
    exact h.free a' ha'
  · intro a' ha'
    by_cases hne : a = a'
    · subst hne
      exact ⟨_, World.cell?_setCell_same _ _ _ hv⟩
    · rw [World.cell?_setCell_other _ _ _ _ hne]
      exact h.some_ a' ha'

theorem RdV.kept {S : Nat → Prop} {w w' : World} {v : Value} {l : List Value} (h : RdV w v l) (hS : ∀ a n c, v = .slice (some a) n c → ¬ S a.block) (hk : Kept S w w') : RdV w' v l := by
  rcases h with h | ⟨a, c, hv, hl, hm, hc⟩
  · exact .inl h
  · exact .inr ⟨a, c, hv, hl, hm, fun j u hu => (hk.cell (World.block_lt_of_cell? w _ (hc j u hu)) (by rw [show (a.add j).block = a.block by unfold Addr.add; split <;> rfl]; exact hS a _ _ hv)).trans (hc j u hu)⟩

/-- What a heap is behind a collection. -/
theorem col_end {w w3 wr w2 : World} {b base q c t q' c' : Nat} {v1 v2 u1 u2 rv : Value} {W0 W' : List Nat} {F F' : List Bool} {rs : List Addr} {xs ys : List Nat} (hR : RootsOK w b v1 v2 rv rs xs) (h : HAt w3 b base q c v1 v2 W0 F) (hT : HAt w3 t w.heap.size q' c' u1 u2 W' F') (hnew : ∀ k, three t u1 u2 k → w.heap.size ≤ k) (hb' : base ≤ w.heap.size)
    (hb : b < w.heap.size) (hk : Kept (SS b v1 v2 w.heap.size) w w3) (hw : WR w3 wr rs ys rs.length) (hw2 : w2.heap = (((wr.setCell ⟨b, 2, none⟩ u1).setCell ⟨b, 3, none⟩ u2).setCell ⟨b, 1, none⟩ (.int .i64 ((c + 1 : Nat) : Int))).heap) (ho : w2.os = wr.os) (ht : w2.tape = wr.tape) (hp : w2.output = wr.output) :
    HAt w2 b base q (c + 1) u1 u2 W' F' ∧ (∀ k, three b u1 u2 k → three b v1 v2 k ∨ w.heap.size ≤ k) ∧ Kept (fun k => three b v1 v2 k ∨ ∃ a ∈ rs, a.block = k) w w2 ∧ (∀ (j : Nat) (a : Addr) (y : Nat), rs[j]? = some a → ys[j]? = some y → w2.cell? a = some (.int .u64 (y : Int))) ∧ (∀ a ∈ rs, w2.frozen? a = false) ∧ Shape rs w w2 := by
  have hbr : ∀ a ∈ rs, a.block ≠ b := fun a ha e => hR.apart a ha (.inl e)
  have h1 : HAt wr b base q c v1 v2 W0 F := h.kept hw.kept fun k hk ⟨a, ha, e⟩ => hR.apart a ha (e ▸ hk)
  have hT1 : HAt wr t w.heap.size q' c' u1 u2 W' F' := hT.kept hw.kept fun k hk ⟨a, ha, e⟩ => by
    have := hnew k hk
    have := hR.lt a ha
    omega
  have e1 := setCell_two (u := u1) h1.cell
  have e2 := setCell_three (u := u2) e1
  have e3 := setCell_one (u := .int .i64 ((c + 1 : Nat) : Int)) e2
  have kr : Kept (fun k => three b v1 v2 k ∨ ∃ a ∈ rs, a.block = k) w wr :=
    ⟨hw.kept.os.trans hk.os, hw.kept.tape.trans hk.tape, hw.kept.output.trans hk.output, Nat.le_trans hk.size hw.kept.size, fun k hk1 hs =>
      (hw.kept.block k (Nat.lt_of_lt_of_le hk1 hk.size) (fun e => hs (.inr e))).trans (hk.block k hk1 (fun e => by
        rcases e with e | e
        · exact hs (.inl e)
        · omega))⟩
  have k3 : Kept (fun k => three b v1 v2 k ∨ ∃ a ∈ rs, a.block = k) w (((wr.setCell ⟨b, 2, none⟩ u1).setCell ⟨b, 3, none⟩ u2).setCell ⟨b, 1, none⟩ (.int .i64 ((c + 1 : Nat) : Int))) := ((kr.setCell (.inl (.inl (.inl rfl))) _).setCell (.inl (.inl (.inl rfl))) _).setCell (.inl (.inl (.inl rfl))) _
  have n1 : u1.ownBlock ≠ some b := fun e => by have := hnew b (.inr (.inl e)); omega
  have n2 : u2.ownBlock ≠ some b := fun e => by have := hnew b (.inr (.inr e)); omega
  have o1 := ownsRow_setCell_other (a := ⟨b, 1, none⟩) (ownsRow_setCell_other (a := ⟨b, 3, none⟩) (ownsRow_setCell_other (a := ⟨b, 2, none⟩) hT1.own1 n1 u1) n1 u2) n1 (.int .i64 ((c + 1 : Nat) : Int))
  have o2 := ownsRow_setCell_other (a := ⟨b, 1, none⟩) (ownsRow_setCell_other (a := ⟨b, 3, none⟩) (ownsRow_setCell_other (a := ⟨b, 2, none⟩) hT1.own2 n2 u1) n2 u2) n2 (.int .i64 ((c + 1 : Nat) : Int))
  have tr : ∀ {e : TypeId} {v : Value} {n : Nat} {xs : List Value} {W3 : World}, w2.heap = W3.heap → W3.ownsRow w.heap.size e 1 v n xs → w2.ownsRow base e 1 v n xs := by
    intro e v n xs W3 he h3
    have h4 := own_base h3 hb'
    unfold World.ownsRow at h4 ⊢
    rw [he]
    exact h4
  refine ⟨⟨by rw [hw2]; exact e3, tr hw2 o1, tr hw2 o2⟩, ?_, ⟨ho.trans kr.os, ht.trans kr.tape, hp.trans kr.output, by rw [hw2]; exact k3.size, fun k hk hs => by rw [hw2]; exact k3.block k hk hs⟩, ?_, ?_, ?_⟩
  · intro k hk
    rcases hk with rfl | hk | hk
    · exact .inl (.inl rfl)
    · exact .inr (hnew k (.inr (.inl hk)))
    · exact .inr (hnew k (.inr (.inr hk)))
  · intro j a y hj hy
    have ha := List.mem_of_getElem? hj
    rw [World.cell?_of_block (w := wr) (by rw [hw2, Below.heap_setCell _ _ _ _ (hbr a ha), Below.heap_setCell _ _ _ _ (hbr a ha), Below.heap_setCell _ _ _ _ (hbr a ha)])]
    exact hw.done j a y (List.getElem?_eq_some_iff.1 hj).1 hj hy
  · intro a ha
    have e : w2.frozen? a = wr.frozen? a := World.frozen?_of_block (by rw [hw2, Below.heap_setCell _ _ _ _ (hbr a ha), Below.heap_setCell _ _ _ _ (hbr a ha), Below.heap_setCell _ _ _ _ (hbr a ha)])
    rw [e]
    exact hw.free a ha
  · intro k cur ty fr ⟨a, ha, e⟩ hcur
    subst e
    obtain ⟨cur', g1, g2⟩ := hw.shape a.block cur ty fr ⟨a, ha, rfl⟩ ((hk.block _ (hR.lt a ha) (fun hs => hR.apartSS.cells a ha hs)).trans hcur)
    refine ⟨cur', ?_, g2⟩
    rw [hw2, Below.heap_setCell _ _ _ _ (hbr a ha), Below.heap_setCell _ _ _ _ (hbr a ha), Below.heap_setCell _ _ _ _ (hbr a ha)]
    exact g1

theorem col_post {w w3 wr w2 : World} {b base q c t gt : Nat} {v1 v2 u2 rv : Value} {W : List Nat} {F : List Bool} {rs : List Addr} {xs : List Nat} (hR : RootsOK w b v1 v2 rv rs xs) (hM : MS w3 b base q c v1 v2 t w.heap.size gt u2 W F (goP W F (W.length + 1) 0 (mvs W F ([], []) xs).1)) (hb' : base ≤ w.heap.size)
    (hb : b < w.heap.size) (hk : Kept (SS b v1 v2 w.heap.size) w w3) (hw : WR w3 wr rs (mvs W F ([], []) xs).2 rs.length) (hw2 : w2.heap = (((wr.setCell ⟨b, 2, none⟩ (.slice (some ⟨gt, 0, none⟩) (goP W F (W.length + 1) 0 (mvs W F ([], []) xs).1).2.length W.length)).setCell ⟨b, 3, none⟩ u2).setCell ⟨b, 1, none⟩ (.int .i64 ((c + 1 : Nat) : Int))).heap) (ho : w2.os = wr.os) (ht : w2.tape = wr.tape) (hp : w2.output = wr.output) :
    ColPost w w2 b base q c v1 v2 W F rs xs (.returned (.tuple #[])) := by
  obtain ⟨e1, e2, e3, e4, e5, e6⟩ := col_end hR hM.h hM.to hM.toB hb' hb hk hw hw2 ho ht hp
  exact ⟨rfl, _, _, e1, e2, e3, e4, e5, e6, hM.inv⟩

/-- The row of the roots' new words stays while parts are moved. -/
theorem row_parts {w2 w3 : World} {b base q c t B0 gt gw n cap : Nat} {v1 v2 u2 : Value} {W : List Nat} {F : List Bool} {s : St} {l : List Value} (hm : MS w2 b base q c v1 v2 t B0 gt u2 W F s) (ho : w2.ownsRow B0 37 1 (.slice (some ⟨gw, 0, none⟩) n cap) n l) (h1 : gw ≠ gt) (h2 : gw ≠ t) (hk : Kept (SB w2 b v1 v2 t gt B0) w2 w3) : w3.ownsRow B0 37 1 (.slice (some ⟨gw, 0, none⟩) n cap) n l := by
  refine own_kept ho hk fun k hk hs => ?_
  simp only [Value.ownBlock, Option.some.injEq] at hk
  subst hk
  have hB := (ho.lt gw rfl).1
  rcases hs with hs | ⟨_, hs | hs | ⟨cur, hs⟩⟩
  · have := hm.far gw hs; omega
  · exact h2 hs
  · exact h1 hs
  · rcases ho.2 with ⟨e, _⟩ | ⟨g', cap', cur', e, _, hg', _⟩
    · cases e
    · simp only [Value.slice.injEq, Option.some.injEq, Addr.mk.injEq, and_true] at e
      obtain ⟨rfl, -⟩ := e
      rw [hs] at hg'
      injection hg' with hg'
      injection hg' with _ h2
      exact absurd h2 (by decide)

set_option maxHeartbeats 8000000 in
set_option maxRecDepth 100000 in
theorem collect_t (b base q c : Nat) (v1 v2 rv : Value) (W : List Nat) (F : List Bool) (rs : List Addr) (xs : List Nat) (w : World) (h : HAt w b base q c v1 v2 W F) (hg : Good W F) (hbase : base ≤ w.heap.size) (hc : c ≤ 1000000000) (hR : RootsOK w b v1 v2 rv rs xs) :
    Calls Try.prog 16 #[.pointer (some ⟨b, 0, none⟩), rv] w fun e w' => ColPost w w' b base q c v1 v2 W F rs xs e := by
  obtain ⟨c0, c1, c2, c3⟩ := h.cells
  have hlt := h.lt
  have hF := hg.len
  have hmx := hg.max
  obtain ⟨o1, k1, hv1, _⟩ := own_slice h.own1
  obtain ⟨o2, k2, hv2, _⟩ := own_slice h.own2
  obtain ⟨o, cap, hrv, hcap, hcm⟩ := hR.roots.rd.slice
  rw [List.length_map] at hrv hcap
  have hnum := hR.num
  have H := Lib.hid h
  have HG := Lib.hid hg
  have HR := Lib.hid hR
  clear h hg hR
  have mw := madeW0 W.length (by omega)
  have mf := madeF0 W.length (by omega)
  rw [hF] at hv2
  rw [hv1] at c2
  rw [hv2] at c3
  have HV1 := Lib.hid hv1
  have HV2 := Lib.hid hv2
  clear hv1 hv2 hF
  have sw : (Ws (List.replicate W.length 0)).toArray.size = W.length := by simp [Ws]
  have sf : (Fs (List.replicate W.length false)).toArray.size = W.length := by simp [Fs]
  generalize (Ws (List.replicate W.length 0)).toArray = CW at *
  generalize (Fs (List.replicate W.length false)).toArray = CF at *
  have SW := Lib.hid sw
  have SF := Lib.hid sf
  clear sw sf
  unfold maxLen at hcm
  have hnum' : (rs.length : Int) ≤ 1000000000 := by omega
  have HAP : Hid (Apart (SS b v1 v2 w.heap.size) rv rs) := HR.out.apartSS
  have HLX : Hid (xs.length = rs.length) := HR.out.roots.len
  subst hrv
  go_enter Try.func16, Try.ntmps16
  go_wp2_with fail
  go_region
  all_goals clear mw mf c0 c1 c2 c3
  · have hT := toHeap w W.length CW CF SW.out SF.out (by omega)
    have hB : Below w.heap.size w (((w.alloc (.cells CW 37)).alloc (.cells CF 4)).alloc (.cells #[.int .i64 0, .int .i64 0, .slice (some ⟨w.heap.size, 0, none⟩) 0 W.length, .slice (some ⟨w.heap.size + 1, 0, none⟩) 0 W.length] 63)).drew := ((((Below.refl _ _).alloc (Nat.le_refl _) _).alloc (by simp) _).alloc (by simp; omega) _).drew
    generalize (((w.alloc (.cells CW 37)).alloc (.cells CF 4)).alloc (.cells #[.int .i64 0, .int .i64 0, .slice (some ⟨w.heap.size, 0, none⟩) 0 W.length, .slice (some ⟨w.heap.size + 1, 0, none⟩) 0 W.length] 63)).drew = w1 at *
    obtain ⟨gt, uf, hms⟩ : ∃ gt uf, MS w1 b base q c v1 v2 (w.heap.size + 1 + 1) w.heap.size gt uf W F ([], []) := ⟨w.heap.size, .slice (some ⟨w.heap.size + 1, 0, none⟩) 0 W.length, H.out.below hB (Nat.le_refl _), hT, Inv.nil W F, fun k hk => H.out.own_lt k hk, by omega, hB.size⟩
    have hbt : b ≠ w.heap.size + 1 + 1 := by omega
    have hbt' : w.heap.size + 1 + 1 ≠ b := by omega
    clear hT
    have HMS := Lib.hid hms
    have HB := Lib.hid hB
    clear hms hB
    have hr1 : Roots w1 (.slice o rs.length cap) rs xs := HR.out.roots.kept HAP.out (Below.kept (n := w.heap.size) HB.out (fun k h1 h2 => by omega))
    have HR1 := Lib.hid hr1
    have HMR := Lib.hid (moveRoots_t b base q c v1 v2 (w.heap.size + 1 + 1) w.heap.size gt uf W F ([], []) (.slice o rs.length cap) rs xs w1 HMS.out HG.out hr1 HAP.out hnum)
    clear hr1
    go_wp2_with fail
    refine HMR.out.mono ?_
    rintro e w2 ⟨gw, uf2, rfl, hm2, hrow2, hw1, hw2, hk2⟩
    have HMP := Lib.hid (moveParts_t b base q c v1 v2 (w.heap.size + 1 + 1) w.heap.size gt uf2 W F _ w2 hm2 HG.out)
    have hyl : (mvs W F ([], []) xs).2.length = rs.length := by rw [mvs_length, HLX.out]
    have HYL := Lib.hid hyl
    simp only [hyl] at hrow2
    rw [hyl]
    have HR2 : Hid (Roots w2 (.slice o rs.length cap) rs xs) := HR1.out.kept HAP.out hk2
    have HM2 := Lib.hid hm2
    have HK2 := Lib.hid hk2
    have HROW2 := Lib.hid hrow2
    clear hm2 hk2 hrow2 hyl
    go_wp2_with fail
    refine HMP.out.mono ?_
    rintro e w3 ⟨rfl, uf3, hm3, hk3⟩
    have hrow3 := row_parts HM2.out HROW2.out hw1 hw2 hk3
    have hk3' : Kept (SS b v1 v2 w.heap.size) w2 w3 := hk3.weak fun k _ hk => by
      rcases hk with hk | hk
      · exact .inl hk
      · exact .inr hk.1
    have HR3 : Hid (Roots w3 (.slice o rs.length cap) rs xs) := HR2.out.kept HAP.out hk3'
    have hk03 : Kept (SS b v1 v2 w.heap.size) w w3 := ((Below.kept (n := w.heap.size) HB.out (fun k h1 h2 => by omega)).trans HK2.out).trans hk3'
    have HK03 := Lib.hid hk03
    have HM3 := Lib.hid hm3
    have HROW3 := Lib.hid hrow3
    have HWR0 : Hid (WR w3 w3 rs (mvs W F ([], []) xs).2 0) := by
      refine ⟨Kept.refl _ _, fun j a y hj => by omega, fun a ha => ?_, fun a ha => ?_, Shape.refl _ _⟩
      · have h1 : w3.frozen? a = w.frozen? a := World.frozen?_of_block (HK03.out.block _ (HR.out.lt a ha) (fun hs => HAP.out.cells a ha hs))
        rw [h1]
        exact HR.out.free a ha
      · obtain ⟨j, hj⟩ := List.getElem?_of_mem ha
        have hl := (List.getElem?_eq_some_iff.1 hj).1
        have hx := List.getElem?_eq_getElem (show j < xs.length by rw [HLX.out]; exact hl)
        exact ⟨_, HR3.out.cell j a _ hj hx⟩
    clear hk3 hrow3 hk3' hk03 hm3
    go_wp2_with fail
    go_loopw [33] (fun i wr => ∃ k : Nat, k ≤ rs.length ∧ i = .int .i64 k ∧ Hid (WR w3 wr rs (mvs W F ([], []) xs).2 k)) (fun i _ => rs.length - (intOf i).toNat)
    case atStart => exact ⟨0, Nat.zero_le _, rfl, HWR0.out⟩
    case round =>
      obtain ⟨k, hk, rfl, HK⟩ := hrel
      by_cases hlt' : k < rs.length
      · have hk0 : (k : Int) < (rs.length : Int) := by omega
        obtain ⟨a, _, ho, hcell3⟩ := HR3.out.rd.at (k := k) (u := .pointer (some rs[k])) (by simp [hlt'])
        simp only [Value.slice.injEq] at ho
        obtain ⟨rfl, -⟩ := ho
        have hrow0 := HR.out.row a _ _ rfl
        have hcell := (HK.out.kept.cell (World.block_lt_of_cell? w3 _ hcell3) (fun ⟨r, hr, e⟩ => hrow0.2.2 r hr (e.trans (by unfold Addr.add; split <;> rfl)))).trans hcell3
        have hyk : k < (mvs W F ([], []) xs).2.length := by rw [HYL.out]; exact hlt'
        have hyc3 : w3.cell? ⟨gw, k, none⟩ = some (.int .u64 ((mvs W F ([], []) xs).2[k] : Int)) := by
          rw [HROW3.out.cellAt _ (by omega)]
          simp only [Ws, List.getElem?_map]
          rw [List.getElem?_eq_getElem hyk]
          rfl
        have hgw := (HROW3.out.lt gw rfl).1
        have hyc := (HK.out.kept.cell (p := ⟨gw, k, none⟩) (World.block_lt_of_cell? w3 _ hyc3) (fun ⟨r, hr, e⟩ => by have := HR.out.lt r hr; simp only at e; omega)).trans hyc3
        have hmem : rs[k] ∈ rs := List.getElem_mem hlt'
        have hfree := HK.out.free rs[k] hmem
        obtain ⟨ov, hov⟩ := HK.out.some_ rs[k] hmem
        have hst := HK.out.step HR.out.nodup (List.getElem?_eq_getElem hlt') (List.getElem?_eq_getElem hyk)
        have HST := Lib.hid hst
        clear hcell3 hrow0 hyc3 hst hmem
        generalize (mvs W F ([], []) xs).2[k] = y at *
        generalize rs[k] = r at *
        go_wp2_with fail
        go_roundw
        case rel => exact ⟨k + 1, by omega, by go_num, HST.out⟩
        case measure => simp [intOf]; omega
      · obtain rfl : k = rs.length := by omega
        have h2 := (HM3.out.h).kept HK.out.kept (fun k hk ⟨r, hr, e⟩ => HR.out.apart r hr (e ▸ hk))
        have hT2 := (HM3.out.to).kept HK.out.kept (fun k hk ⟨r, hr, e⟩ => by have h1 := HM3.out.toB k hk; have h2 := HR.out.lt r hr; omega)
        obtain ⟨_, d1, d2, d3⟩ := h2.cells
        obtain ⟨_, _, t2, t3⟩ := hT2.cells
        have f2 := h2.free 2
        have f3 := h2.free 3
        have f1 := h2.free 1
        have ec : IntKind.i64.wrap ((c : Int) + 1) = (c : Int) + 1 := IntWalk.i64_in _ (by omega)
        obtain ⟨p1, m1, hp1, _⟩ := own_slice h2.own1
        obtain ⟨p2, m2, hp2, _⟩ := own_slice h2.own2
        obtain ⟨p3, m3, hp3, _⟩ := own_slice hT2.own2
        clear h2 hT2
        go_wp2
        go_region
        go_wp2
        go_end0
        exact col_post HR.out HM3.out hbase hlt HK03.out HK.out (by rw [hp3]; rfl) rfl rfl rfl
  · have hT := toHeap' w W.length CW CF SW.out SF.out (by omega)
    have hB : Below w.heap.size w (((w.alloc (.cells CF 4)).alloc (.cells CW 37)).alloc (.cells #[.int .i64 0, .int .i64 0, .slice (some ⟨w.heap.size + 1, 0, none⟩) 0 W.length, .slice (some ⟨w.heap.size, 0, none⟩) 0 W.length] 63)).drew := ((((Below.refl _ _).alloc (Nat.le_refl _) _).alloc (by simp) _).alloc (by simp; omega) _).drew
    generalize (((w.alloc (.cells CF 4)).alloc (.cells CW 37)).alloc (.cells #[.int .i64 0, .int .i64 0, .slice (some ⟨w.heap.size + 1, 0, none⟩) 0 W.length, .slice (some ⟨w.heap.size, 0, none⟩) 0 W.length] 63)).drew = w1 at *
    obtain ⟨gt, uf, hms⟩ : ∃ gt uf, MS w1 b base q c v1 v2 (w.heap.size + 1 + 1) w.heap.size gt uf W F ([], []) := ⟨w.heap.size + 1, .slice (some ⟨w.heap.size, 0, none⟩) 0 W.length, H.out.below hB (Nat.le_refl _), hT, Inv.nil W F, fun k hk => H.out.own_lt k hk, by omega, hB.size⟩
    have hbt : b ≠ w.heap.size + 1 + 1 := by omega
    have hbt' : w.heap.size + 1 + 1 ≠ b := by omega
    clear hT
    have HMS := Lib.hid hms
    have HB := Lib.hid hB
    clear hms hB
    have hr1 : Roots w1 (.slice o rs.length cap) rs xs := HR.out.roots.kept HAP.out (Below.kept (n := w.heap.size) HB.out (fun k h1 h2 => by omega))
    have HR1 := Lib.hid hr1
    have HMR := Lib.hid (moveRoots_t b base q c v1 v2 (w.heap.size + 1 + 1) w.heap.size gt uf W F ([], []) (.slice o rs.length cap) rs xs w1 HMS.out HG.out hr1 HAP.out hnum)
    clear hr1
    go_wp2_with fail
    refine HMR.out.mono ?_
    rintro e w2 ⟨gw, uf2, rfl, hm2, hrow2, hw1, hw2, hk2⟩
    have HMP := Lib.hid (moveParts_t b base q c v1 v2 (w.heap.size + 1 + 1) w.heap.size gt uf2 W F _ w2 hm2 HG.out)
    have hyl : (mvs W F ([], []) xs).2.length = rs.length := by rw [mvs_length, HLX.out]
    have HYL := Lib.hid hyl
    simp only [hyl] at hrow2
    rw [hyl]
    have HR2 : Hid (Roots w2 (.slice o rs.length cap) rs xs) := HR1.out.kept HAP.out hk2
    have HM2 := Lib.hid hm2
    have HK2 := Lib.hid hk2
    have HROW2 := Lib.hid hrow2
    clear hm2 hk2 hrow2 hyl
    go_wp2_with fail
    refine HMP.out.mono ?_
    rintro e w3 ⟨rfl, uf3, hm3, hk3⟩
    have hrow3 := row_parts HM2.out HROW2.out hw1 hw2 hk3
    have hk3' : Kept (SS b v1 v2 w.heap.size) w2 w3 := hk3.weak fun k _ hk => by
      rcases hk with hk | hk
      · exact .inl hk
      · exact .inr hk.1
    have HR3 : Hid (Roots w3 (.slice o rs.length cap) rs xs) := HR2.out.kept HAP.out hk3'
    have hk03 : Kept (SS b v1 v2 w.heap.size) w w3 := ((Below.kept (n := w.heap.size) HB.out (fun k h1 h2 => by omega)).trans HK2.out).trans hk3'
    have HK03 := Lib.hid hk03
    have HM3 := Lib.hid hm3
    have HROW3 := Lib.hid hrow3
    have HWR0 : Hid (WR w3 w3 rs (mvs W F ([], []) xs).2 0) := by
      refine ⟨Kept.refl _ _, fun j a y hj => by omega, fun a ha => ?_, fun a ha => ?_, Shape.refl _ _⟩
      · have h1 : w3.frozen? a = w.frozen? a := World.frozen?_of_block (HK03.out.block _ (HR.out.lt a ha) (fun hs => HAP.out.cells a ha hs))
        rw [h1]
        exact HR.out.free a ha
      · obtain ⟨j, hj⟩ := List.getElem?_of_mem ha
        have hl := (List.getElem?_eq_some_iff.1 hj).1
        have hx := List.getElem?_eq_getElem (show j < xs.length by rw [HLX.out]; exact hl)
        exact ⟨_, HR3.out.cell j a _ hj hx⟩
    clear hk3 hrow3 hk3' hk03 hm3
    go_wp2_with fail
    go_loopw [33] (fun i wr => ∃ k : Nat, k ≤ rs.length ∧ i = .int .i64 k ∧ Hid (WR w3 wr rs (mvs W F ([], []) xs).2 k)) (fun i _ => rs.length - (intOf i).toNat)
    case atStart => exact ⟨0, Nat.zero_le _, rfl, HWR0.out⟩
    case round =>
      obtain ⟨k, hk, rfl, HK⟩ := hrel
      by_cases hlt' : k < rs.length
      · have hk0 : (k : Int) < (rs.length : Int) := by omega
        obtain ⟨a, _, ho, hcell3⟩ := HR3.out.rd.at (k := k) (u := .pointer (some rs[k])) (by simp [hlt'])
        simp only [Value.slice.injEq] at ho
        obtain ⟨rfl, -⟩ := ho
        have hrow0 := HR.out.row a _ _ rfl
        have hcell := (HK.out.kept.cell (World.block_lt_of_cell? w3 _ hcell3) (fun ⟨r, hr, e⟩ => hrow0.2.2 r hr (e.trans (by unfold Addr.add; split <;> rfl)))).trans hcell3
        have hyk : k < (mvs W F ([], []) xs).2.length := by rw [HYL.out]; exact hlt'
        have hyc3 : w3.cell? ⟨gw, k, none⟩ = some (.int .u64 ((mvs W F ([], []) xs).2[k] : Int)) := by
          rw [HROW3.out.cellAt _ (by omega)]
          simp only [Ws, List.getElem?_map]
          rw [List.getElem?_eq_getElem hyk]
          rfl
        have hgw := (HROW3.out.lt gw rfl).1
        have hyc := (HK.out.kept.cell (p := ⟨gw, k, none⟩) (World.block_lt_of_cell? w3 _ hyc3) (fun ⟨r, hr, e⟩ => by have := HR.out.lt r hr; simp only at e; omega)).trans hyc3
        have hmem : rs[k] ∈ rs := List.getElem_mem hlt'
        have hfree := HK.out.free rs[k] hmem
        obtain ⟨ov, hov⟩ := HK.out.some_ rs[k] hmem
        have hst := HK.out.step HR.out.nodup (List.getElem?_eq_getElem hlt') (List.getElem?_eq_getElem hyk)
        have HST := Lib.hid hst
        clear hcell3 hrow0 hyc3 hst hmem
        generalize (mvs W F ([], []) xs).2[k] = y at *
        generalize rs[k] = r at *
        go_wp2_with fail
        go_roundw
        case rel => exact ⟨k + 1, by omega, by go_num, HST.out⟩
        case measure => simp [intOf]; omega
      · obtain rfl : k = rs.length := by omega
        have h2 := (HM3.out.h).kept HK.out.kept (fun k hk ⟨r, hr, e⟩ => HR.out.apart r hr (e ▸ hk))
        have hT2 := (HM3.out.to).kept HK.out.kept (fun k hk ⟨r, hr, e⟩ => by have h1 := HM3.out.toB k hk; have h2 := HR.out.lt r hr; omega)
        obtain ⟨_, d1, d2, d3⟩ := h2.cells
        obtain ⟨_, _, t2, t3⟩ := hT2.cells
        have f2 := h2.free 2
        have f3 := h2.free 3
        have f1 := h2.free 1
        have ec : IntKind.i64.wrap ((c : Int) + 1) = (c : Int) + 1 := IntWalk.i64_in _ (by omega)
        obtain ⟨p1, m1, hp1, _⟩ := own_slice h2.own1
        obtain ⟨p2, m2, hp2, _⟩ := own_slice h2.own2
        obtain ⟨p3, m3, hp3, _⟩ := own_slice hT2.own2
        clear h2 hT2
        go_wp2
        go_region
        go_wp2
        go_end0
        exact col_post HR.out HM3.out hbase hlt HK03.out HK.out (by rw [hp3]; rfl) rfl rfl rfl
end Go.Proofs.Ytkdhajiplonloaa
