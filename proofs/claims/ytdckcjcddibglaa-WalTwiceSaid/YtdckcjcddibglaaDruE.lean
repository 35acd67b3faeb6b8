/- Read, Append, Write, Sync. -/
import Derived.Test.YtdckcjcddibglaaDruD
namespace Go.Proofs.Ytdckcjcddibglaa
open Go.RowKit

theorem DAt.same {w w' : World} {S : Nat → Prop} {D T : Nat} {vn vd : Nat → Value} {d : Dr} (h : DAt w S D T vn vd d) (hk : Below w.heap.size w w') : DAt w' S D T vn vd d :=
  h.block (fun g _ hg => hk.block g hg) (fun _ h => h)

/-- What Read leaves. -/
def ReadP (w : World) (d : Dr) (i : Int) (e : Ending) (w' : World) : Prop :=
  (chk d i ≠ 0 ∧ e = .returned (.tuple #[.slice none 0 0, .int .i64 (chk d i)]) ∧ w = w') ∨
  (chk d i = 0 ∧ ∃ v, e = .returned (.tuple #[v, .int .i64 0]) ∧ Own w' w.heap.size v (d.tr i.toNat).now ∧ Below w.heap.size w w')

theorem chk_zero {d : Dr} {i : Int} (h : chk d i = 0) : 0 ≤ i ∧ i.toNat < d.n ∧ d.off = false := by
  unfold chk at h
  split at h
  · cases h
  · split at h
    · cases h
    · next h1 h2 => exact ⟨by omega, by omega, by simpa using h2⟩

set_option maxHeartbeats 4000000 in
set_option maxRecDepth 100000 in
theorem read_any (i : Int) (w : World) {S : Nat → Prop} {D T : Nat} {vn vd : Nat → Value} {d : Dr} (h : DAt w S D T vn vd d) :
    Calls Try.prog 29 #[.pointer (some ⟨D, 0, none⟩), .int .i64 i] w (ReadP w d i) := by
  have C := Lib.hid (check_any i w h)
  by_cases hz : chk d i = 0
  · obtain ⟨k0, k1, k2⟩ := chk_zero hz
    obtain ⟨j, rfl⟩ : ∃ j : Nat, i = (j : Int) := ⟨i.toNat, by omega⟩
    rw [Int.toNat_natCast] at k1
    obtain ⟨-, c1, -⟩ := h.cells
    obtain ⟨t0, -, -⟩ := h.tcells k1
    have hfit := (h.fit j k1).1
    have hlim := h.lim
    have F := Lib.hid (fresh_any (vn j) (d.tr j).now w (Rd.of_own (h.tk j k1).now) (by omega))
    have fin : ∀ (e : Ending) (w' : World), (∃ v', e = .returned v' ∧ Own w' w.heap.size v' (d.tr j).now ∧ Below w.heap.size w w') → ∃ v', e = .returned v' ∧ ReadP w d (j : Int) (.returned (.tuple #[v', .int .i64 0])) w' := by
      rintro e w' ⟨v', rfl, h1, h2⟩
      exact ⟨v', rfl, .inr ⟨hz, v', rfl, by rw [Int.toNat_natCast]; exact h1, h2⟩⟩
    have FIN := Lib.hid fin
    have H := Lib.hid h
    rw [hz] at C
    have hj : (j : Int) < (d.n : Int) := by omega
    clear fin h hz k0 k2
    go_enter Try.func29, Try.ntmps29
    go_wp2_with fail
    refine C.out.mono ?_
    rintro e w' ⟨rfl, rfl⟩
    go_wp2_with fail
    refine F.out.mono ?_
    intro e w' he
    obtain ⟨v', rfl, hR⟩ := FIN.out e w' he
    have HR := Lib.hid hR
    clear hR he
    go_wp2_with fail
    go_ret2
    exact HR.out
  · have hne : (chk d i == 0) = false := by simpa using hz
    have hne2 : (chk d i != 0) = true := by simp [hz]
    have FIN := Lib.hid (show ReadP w d i (.returned (.tuple #[.slice none 0 0, .int .i64 (chk d i)])) w from .inl ⟨hz, rfl, rfl⟩)
    generalize chk d i = x at C hne hne2 FIN
    clear hz h
    go_enter Try.func29, Try.ntmps29
    go_wp2_with fail
    refine C.out.mono ?_
    rintro e w' ⟨rfl, rfl⟩
    go_wp2_with fail
    go_ret2
    exact FIN.out
/-- What a writing call leaves. -/
def APost (w : World) (S : Nat → Prop) (D T : Nat) (r : Int × Dr) (e : Ending) (w' : World) : Prop :=
  e = .returned (.int .i64 r.1) ∧ (∃ vn' vd', DAt w' (Fr S w w') D T vn' vd' r.2) ∧ Kept S w w'

theorem Fr.mono {S : Nat → Prop} {a b c d : World} (h1 : a.heap.size ≤ b.heap.size) (h2 : c.heap.size ≤ d.heap.size) : ∀ k, Fr S b c k → Fr S a d k := fun k hk => by
  rcases hk with hk | ⟨hk, hk'⟩
  · exact .inl hk
  · exact .inr ⟨by omega, by omega⟩

/-- Behind a step that left S' and w2, a call of count. -/
theorem APost.count {w w2 : World} {S : Nat → Prop} {D T : Nat} {vn vd : Nat → Value} {d : Dr} (hk : Kept S w w2) (hD : S D) (e : Ending) (w' : World) (h : CPost w2 (Fr S w w2) D T vn vd (cnt d) e w') : APost w S D T (cnt d) e w' := by
  obtain ⟨he, hd, hk'⟩ := h
  exact ⟨he, ⟨vn, vd, hd.block (fun _ _ _ => rfl) (Fr.mono (Nat.le_refl _) hk'.size)⟩, hk.trans (hk'.weak fun k _ hk => by rw [hk]; exact hD)⟩

def appS (d : Dr) (i : Int) (p : List UInt8) : Int × Dr :=
  if chk d i ≠ 0 then (chk d i, d) else if d.most < (d.tr i.toNat).now.length + p.length then (13, d) else
    cnt (d.set i.toNat ⟨(d.tr i.toNat).now ++ p, (d.tr i.toNat).dur, (d.tr i.toNat).wr⟩)

/-- The row grows by p, and is stored. -/
theorem DAt.grew {w w1 : World} {S : Nat → Prop} {D T : Nat} {vn vd : Nat → Value} {d : Dr} {j : Nat} {v : Value} {p : List UInt8} (h : DAt w S D T vn vd d) (hj : j < d.n) (hfit : (d.tr j).now.length + p.length ≤ d.most)
    (ho : Own w1 0 v ((d.tr j).now ++ p)) (hg : w.grownBy w1 (vn j).ownBlock) (hv : v.ownBlock = (vn j).ownBlock ∨ v.ownBlock = some w.heap.size)
    (hkeep : ∀ u m, Own w 0 u m → (u.ownBlock = (vn j).ownBlock → m.length ≤ (d.tr j).now.length) → Own w1 0 u m) :
    DAt (w1.setCell ⟨T, j * 3, none⟩ v) (Fr S w (w1.setCell ⟨T, j * 3, none⟩ v)) D T (upd vn j v) (upd vd j (vd j)) (d.set j ⟨(d.tr j).now ++ p, (d.tr j).dur, (d.tr j).wr⟩) ∧ Kept S w (w1.setCell ⟨T, j * 3, none⟩ v) := by
  have hlt := h.lt
  have hm := h.mine j hj
  have ht := h.tk j hj
  have hD : ∀ g, (vn j).ownBlock = some g → S g ∧ g ≠ D ∧ g ≠ T := fun g hg => hm g (.inl hg)
  have hvT : v.ownBlock ≠ some T := fun e => by
    rcases hv with h1 | h1
    · exact (hD T (h1.symm.trans e)).2.2 rfl
    · rw [h1] at e; injection e with e; omega
  have hb : ∀ g, g < w.heap.size → (vn j).ownBlock ≠ some g → w1.heap[g]? = w.heap[g]? := fun g h1 h2 => hg.block g h1 (fun e => h2 e.symm)
  have hb2 : ∀ g, g < w.heap.size → (vn j).ownBlock ≠ some g → g ≠ T → (w1.setCell ⟨T, j * 3, none⟩ v).heap[g]? = w.heap[g]? := fun g h1 h2 h3 => (heap_setCell_other _ _ _ _ h3).trans (hb g h1 h2)
  have hrow : w1.rowIs T 67 (d.n * 3) (tc vn vd d.tr) := h.row.of_block (hb T hlt.2 fun e => (hD T e).2.2 rfl)
  have hk : Kept S w (w1.setCell ⟨T, j * 3, none⟩ v) := ((Kept.refl S w).grown hg (fun k hk => .inl (hD k hk).1)).setCell (p := ⟨T, j * 3, none⟩) (.inl h.sT) v
  refine ⟨h.put hj (hb2 D hlt.1 (fun e => (hD D e).2.1 rfl) h.ne) ((hrow.set (j * 3) v).congr fun k _ => ?_) ⟨?_, ?_, fun hw => ?_, fun hw g h1 h2 => ?_⟩ ⟨by simpa using hfit, (h.fit j hj).2⟩ (fun k hk hne g hg => ?_) (fun g hg => ?_) (fun _ h => .inl h), hk⟩
  · rw [tc_set]
    have e1 := tc_dur vn vd d.tr j
    have e2 := tc_wr vn vd d.tr j
    repeat' split
    all_goals first
      | rfl
      | (subst_vars; first | exact e1 | exact e2 | (exfalso; omega))
      | (exfalso; omega)
  · exact ownsRow_setCell_other ho hvT _
  · exact ownsRow_setCell_other (hkeep _ _ ht.dur fun e => ht.le e) (fun e => (hm T (.inr e)).2.2 rfl) _
  · exact (ht.pre hw).trans (List.prefix_append _ _)
  · rcases hv with h3 | h3
    · exact ht.sep hw g h1 (h3.symm.trans h2)
    · have := (ht.dur.lt g h1).2
      rw [h3] at h2
      injection h2 with h2
      omega
  · have hgl := (h.tk k hk).lt g hg
    exact hb2 g hgl (fun e => h.alone k j hk hj hne g hg (.inl e)) (h.mine k hk g hg).2.2
  · rcases hg with hg | hg
    · rcases hv with h3 | h3
      · exact .inl (.inl (h3.symm.trans hg))
      · have := (ho.lt g hg).2
        rw [h3] at hg
        injection hg with hg
        exact .inr ⟨.inr ⟨by omega, by simpa using this⟩, by omega⟩
    · exact .inl (.inr hg)

end Go.Proofs.Ytdckcjcddibglaa
