/- Restart. -/
import Derived.Test.YtonahfpnlaolpaaDruH
namespace Go.Proofs.Ytonahfpnlaolpaa
open Go.RowKit

/-- A slice that reads as whole numbers. -/
def RdI (w : World) (v : Value) (l : List Int) : Prop :=
  ∃ o c, v = .slice o l.length c ∧ l.length ≤ 9223372036854775807 ∧ ∀ j x, l[j]? = some x → ∃ b off, o = some ⟨b, off, none⟩ ∧ w.cell? ⟨b, off + j, none⟩ = some (.int .i64 x)

theorem RdI.nil (w : World) : RdI w (.slice none 0 0) [] := ⟨none, 0, rfl, by simp, fun j x h => by simp at h⟩

theorem RdI.kept {w w' : World} {v : Value} {l : List Int} (h : RdI w v l) (hk : ∀ b, l ≠ [] → v.ownBlock = some b → b < w.heap.size → w'.heap[b]? = w.heap[b]?) : RdI w' v l := by
  obtain ⟨o, c, rfl, h1, h2⟩ := h
  refine ⟨o, c, rfl, h1, fun j x hx => ?_⟩
  obtain ⟨b, off, rfl, hc⟩ := h2 j x hx
  exact ⟨b, off, rfl, (World.cell?_of_block (w := w) (hk b (by rintro rfl; simp at hx) rfl (World.block_lt_of_cell? w _ hc))).trans hc⟩

theorem RdI.lt {w : World} {v : Value} {l : List Int} (h : RdI w v l) (hl : l ≠ []) : ∀ g, v.ownBlock = some g → g < w.heap.size := by
  obtain ⟨o, c, rfl, h1, h2⟩ := h
  rcases l with _ | ⟨x, t⟩
  · exact absurd rfl hl
  · obtain ⟨b, off, rfl, hc⟩ := h2 0 x rfl
    intro g hg
    have : b = g := by simpa [Value.ownBlock] using hg
    subst this
    exact World.block_lt_of_cell? w _ hc

/-- The tracks behind a fall: the first k of them have fallen. -/
def fell (d : Dr) (cuts : List Int) (k : Nat) : Dr := { d with tr := fun j => if j < k then loseT (d.tr j) (cuts.getD j (-1)) else d.tr j }
def restartS (d : Dr) (cuts : List Int) : Dr := { fell d cuts d.n with off := false, fuse := 0 }

theorem fell_zero (d : Dr) (cuts : List Int) : fell d cuts 0 = d := by
  obtain ⟨n, m, tr, o, p, f⟩ := d
  simp [fell]

theorem fell_succ (d : Dr) (cuts : List Int) (k : Nat) : (fell d cuts k).set k (loseT ((fell d cuts k).tr k) (cuts.getD k (-1))) = fell d cuts (k + 1) := by
  obtain ⟨n, m, tr, o, p, f⟩ := d
  simp only [fell, Dr.set, Dr.mk.injEq, true_and, and_true]
  funext j
  simp only [upd]
  by_cases h : j = k
  · subst h
    rw [if_pos rfl, if_neg (by omega), if_pos (by omega)]
  · rw [if_neg h]
    by_cases h2 : j < k
    · rw [if_pos h2, if_pos (by omega)]
    · rw [if_neg h2, if_neg (by omega)]

/-- At a round's head. -/
def RLoop (w : World) (S : Nat → Prop) (D T : Nat) (d : Dr) (cuts : List Int) (k : Nat) (wr : World) : Prop :=
  (∃ vn vd, DAt wr S D T vn vd (fell d cuts k)) ∧ Kept (fun k => k = T) w wr

/-- What Restart leaves. -/
def RPost (w : World) (S : Nat → Prop) (D T : Nat) (d : Dr) (e : Ending) (w' : World) : Prop :=
  e = .returned (.int .i64 0) ∧ (∃ vn' vd', DAt w' S D T vn' vd' d) ∧ Kept S w w'

set_option maxHeartbeats 8000000 in
set_option maxRecDepth 100000 in
theorem restart_any (x : Value) (cuts : List Int) (w : World) {S : Nat → Prop} {D T : Nat} {vn vd : Nat → Value} {d : Dr} (h : DAt w S D T vn vd d) (hx : RdI w x cuts) (hT : cuts ≠ [] → x.ownBlock ≠ some T) :
    Calls Try.prog 23 #[.pointer (some ⟨D, 0, none⟩), x] w (RPost w S D T (restartS d cuts)) := by
  have HX := Lib.hid hx
  obtain ⟨ox, cx, hxv, hxl, -⟩ := hx
  subst hxv
  have HT := Lib.hid hT
  obtain ⟨-, c1, -⟩ := h.cells
  have hlim := h.lim.1
  have ST : Hid (RLoop w S D T d cuts 0 w) := Lib.hid ⟨⟨vn, vd, by rw [fell_zero]; exact h⟩, Kept.refl _ w⟩
  have sT := Lib.hid h.sT
  have sD := Lib.hid h.sD
  have hn8 : (d.n : Int) ≤ 8 := by omega
  clear h hT
  go_enter Try.func23, Try.ntmps23
  go_wp2
  go_loopw [14] (fun i wr => ∃ k : Nat, k ≤ d.n ∧ i = .int .i64 k ∧ Hid (RLoop w S D T d cuts k wr)) (fun i _ => d.n - (intOf i).toNat)
  case atStart => exact ⟨0, Nat.zero_le _, rfl, ST⟩
  case round =>
    obtain ⟨k, hk, rfl, hL⟩ := hrel
    clear ST
    obtain ⟨⟨vn', vd', hD⟩, hKp⟩ := hL.out
    obtain ⟨-, c1', c2', -, c4'⟩ := hD.cells
    have fD := hD.free
    by_cases hlt : k < d.n
    · have hki : (k : Int) < (d.n : Int) := by omega
      have LS : ∀ cut : Int, Hid (Calls Try.prog 48 #[.pointer (some ⟨T, k * 3, none⟩), .int .i64 cut] wr fun e w' => e = .returned (.tuple #[]) ∧ (∃ v, DAt w' S D T (upd vn' k v) (upd vd' k v) ((fell d cuts k).set k (loseT ((fell d cuts k).tr k) cut))) ∧ Kept (fun k => k = T) wr w') :=
        fun cut => Lib.hid (lose_any k cut wr hD hlt)
      have HX' : RdI wr (.slice ox cuts.length cx) cuts := HX.out.kept fun b hne hb hlt => hKp.block b hlt (fun e => HT.out hne (by rw [hb, e]))
      have c1'' : wr.cell? ⟨D, 1, none⟩ = some (.slice (some ⟨T, 0, none⟩) d.n d.n) := c1'
      by_cases hc : k < cuts.length
      · have hkc : (k : Int) < (cuts.length : Int) := by omega
        obtain ⟨o, c, he, -, hcell⟩ := HX'
        injection he with he1 _ he2
        subst he1 he2
        obtain ⟨b, off, rfl, hcc⟩ := hcell k cuts[k] (List.getElem?_eq_getElem hc)
        have hgd : cuts.getD k (-1) = cuts[k] := by simp [hc]
        have L1 := LS cuts[k]
        have hsn := fell_succ d cuts k
        rw [hgd] at hsn
        rw [hsn] at L1
        have NX : ∀ w', (∃ v, DAt w' S D T (upd vn' k v) (upd vd' k v) (fell d cuts (k + 1))) → Kept (fun k => k = T) wr w' → Hid (RLoop w S D T d cuts (k + 1) w') := fun w' ⟨v, h1⟩ h2 => Lib.hid ⟨⟨_, _, h1⟩, hKp.trans h2⟩
        generalize cuts[k] = cut at *
        clear LS hD hKp hL hcell hgd hsn c2' c4' fD c1'
        go_wp2_with fail
        refine L1.out.mono ?_
        rintro e w' ⟨rfl, h1, h2⟩
        have N1 := NX _ h1 h2
        clear h1 h2 NX
        go_wp2_with fail
        go_roundw
        case rel => exact ⟨k + 1, by omega, by go_num, N1⟩
        case measure => simp [intOf]; omega
      · have hkc : ¬ (k : Int) < (cuts.length : Int) := by omega
        have hgd : cuts.getD k (-1) = -1 := by simp [List.getD_eq_getElem?_getD, List.getElem?_eq_none (Nat.le_of_not_lt hc)]
        have L1 := LS (-1)
        have hsn := fell_succ d cuts k
        rw [hgd] at hsn
        rw [hsn] at L1
        have NX : ∀ w', (∃ v, DAt w' S D T (upd vn' k v) (upd vd' k v) (fell d cuts (k + 1))) → Kept (fun k => k = T) wr w' → Hid (RLoop w S D T d cuts (k + 1) w') := fun w' ⟨v, h1⟩ h2 => Lib.hid ⟨⟨_, _, h1⟩, hKp.trans h2⟩
        clear LS hD hKp hL hgd hsn c2' c4' fD c1' HX'
        go_wp2_with fail
        refine L1.out.mono ?_
        rintro e w' ⟨rfl, h1, h2⟩
        have N1 := NX _ h1 h2
        clear h1 h2 NX
        go_wp2_with fail
        go_roundw
        case rel => exact ⟨k + 1, by omega, by go_num, N1⟩
        case measure => simp [intOf]; omega
    · obtain rfl : k = d.n := by omega
      have f2 := fD 2
      have f4 := fD 4
      have FIN : Hid (RPost w S D T (restartS d cuts) (.returned (.int .i64 0)) ((wr.setCell ⟨D, 2, none⟩ (.bool false)).setCell ⟨D, 4, none⟩ (.int .i64 0))) :=
        Lib.hid ⟨rfl, ⟨vn', vd', hD.head (d' := restartS d cuts) (heap_setCell_same _ _ _ _ _ _ (heap_setCell_same _ _ _ _ _ _ hD.cell)) (fun g hg => (heap_setCell_other _ _ _ _ hg).trans (heap_setCell_other _ _ _ _ hg)) rfl rfl rfl (Nat.zero_le _)⟩,
          ((hKp.weak fun k _ hk => by rw [hk]; exact sT.out).setCell (p := ⟨D, 2, none⟩) (.inl sD.out) _).setCell (p := ⟨D, 4, none⟩) (.inl sD.out) _⟩
      clear hL hD hKp fD c1'
      go_wp2
      go_ret
      exact FIN.out
end Go.Proofs.Ytonahfpnlaolpaa
