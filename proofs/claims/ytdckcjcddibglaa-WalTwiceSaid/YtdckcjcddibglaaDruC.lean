/- check, count, settle, fresh. -/
import Derived.Test.YtdckcjcddibglaaDruA
namespace Go.Proofs.Ytdckcjcddibglaa
open Go.RowKit

def chk (d : Dr) (i : Int) : Int := if i < 0 ∨ (d.n : Int) ≤ i then 1 else if d.off = true then 12 else 0

def cnt (d : Dr) : Int × Dr :=
  if d.fuse = 0 then (0, { d with ops := d.ops + 1 }) else if 1 < d.fuse then (0, { d with ops := d.ops + 1, fuse := d.fuse - 1 }) else (12, { d with ops := d.ops + 1, fuse := 0, off := true })

theorem DAt.cells {w : World} {S : Nat → Prop} {D T : Nat} {vn vd : Nat → Value} {d : Dr} (h : DAt w S D T vn vd d) :
    w.cell? ⟨D, 0, none⟩ = some (.int .i64 (d.most : Int)) ∧ w.cell? ⟨D, 1, none⟩ = some (.slice (some ⟨T, 0, none⟩) d.n d.n) ∧ w.cell? ⟨D, 2, none⟩ = some (.bool d.off) ∧ w.cell? ⟨D, 3, none⟩ = some (.int .i64 (d.ops : Int)) ∧ w.cell? ⟨D, 4, none⟩ = some (.int .i64 (d.fuse : Int)) := by
  have hc := h.cell
  exact ⟨by simp [World.cell?, hc], by simp [World.cell?, hc], by simp [World.cell?, hc], by simp [World.cell?, hc], by simp [World.cell?, hc]⟩

theorem DAt.free {w : World} {S : Nat → Prop} {D T : Nat} {vn vd : Nat → Value} {d : Dr} (h : DAt w S D T vn vd d) (j : Nat) : w.frozen? ⟨D, j, none⟩ = false := by
  have hc := h.cell
  simp [World.frozen?, hc]

theorem DAt.tcells {w : World} {S : Nat → Prop} {D T : Nat} {vn vd : Nat → Value} {d : Dr} (h : DAt w S D T vn vd d) {i : Nat} (hi : i < d.n) :
    w.cell? ⟨T, i * 3, none⟩ = some (vn i) ∧ w.cell? ⟨T, i * 3 + 1, none⟩ = some (vd i) ∧ w.cell? ⟨T, i * 3 + 2, none⟩ = some (.bool (d.tr i).wr) := by
  refine ⟨?_, ?_, ?_⟩
  · rw [h.row.cell (by omega), tc_now]
  · rw [h.row.cell (by omega), tc_dur]
  · rw [h.row.cell (by omega), tc_wr]

/-- A change of the drum's own cells alone. -/
theorem DAt.head {w w' : World} {S : Nat → Prop} {D T : Nat} {vn vd : Nat → Value} {d d' : Dr} (h : DAt w S D T vn vd d) (hc : w'.heap[D]? = some (.cells #[.int .i64 (d'.most : Int), .slice (some ⟨T, 0, none⟩) d'.n d'.n, .bool d'.off, .int .i64 (d'.ops : Int), .int .i64 (d'.fuse : Int)] 64 (0, 0)))
    (hk : ∀ g, g ≠ D → w'.heap[g]? = w.heap[g]?) (hn : d'.n = d.n) (hm : d'.most = d.most) (ht : d'.tr = d.tr) (hf : d'.fuse ≤ 1048576) : DAt w' S D T vn vd d' := by
  obtain ⟨n', m', tr', o', p', f'⟩ := d'
  simp only at hn hm ht
  subst hn hm ht
  exact
  { cell := hc
    row := h.row.of_block (hk T (Ne.symm h.ne))
    tk := fun i hi => (h.tk i hi).block fun g hg => hk g (h.mine i hi g hg).2.1
    mine := h.mine
    alone := h.alone
    sD := h.sD
    sT := h.sT
    ne := h.ne
    lim := ⟨h.lim.1, h.lim.2.1, hf⟩
    fit := h.fit }

def Fr (S : Nat → Prop) (w w' : World) : Nat → Prop := fun k => S k ∨ (w.heap.size ≤ k ∧ k < w'.heap.size)

def CPost (w : World) (S : Nat → Prop) (D T : Nat) (vn vd : Nat → Value) (r : Int × Dr) (e : Ending) (w' : World) : Prop :=
  e = .returned (.int .i64 r.1) ∧ DAt w' S D T vn vd r.2 ∧ Kept (fun k => k = D) w w'

set_option maxHeartbeats 2000000 in
set_option maxRecDepth 100000 in
theorem check_nil (i : Int) (w : World) : Calls Try.prog 24 #[.pointer none, .int .i64 i] w fun e w' => e = .returned (.int .i64 6) ∧ w = w' := by
  go_enter Try.func24, Try.ntmps24
  go_wp2
  go_ret
  exact ⟨rfl, rfl⟩

set_option maxHeartbeats 2000000 in
set_option maxRecDepth 100000 in
theorem check_any (i : Int) (w : World) {S : Nat → Prop} {D T : Nat} {vn vd : Nat → Value} {d : Dr} (h : DAt w S D T vn vd d) :
    Calls Try.prog 24 #[.pointer (some ⟨D, 0, none⟩), .int .i64 i] w fun e w' => e = .returned (.int .i64 (chk d i)) ∧ w = w' := by
  obtain ⟨c0, c1, c2, c3, c4⟩ := h.cells
  have hl := h.lim.1
  by_cases h1 : i < 0
  · have hz : chk d i = 1 := by unfold chk; rw [if_pos (.inl h1)]
    rw [hz]
    go_enter Try.func24, Try.ntmps24
    go_wp2
    go_ret
    exact ⟨rfl, rfl⟩
  · by_cases h2 : (d.n : Int) ≤ i
    · have hz : chk d i = 1 := by unfold chk; rw [if_pos (.inr h2)]
      rw [hz]
      go_enter Try.func24, Try.ntmps24
      go_wp2
      go_ret
      exact ⟨rfl, rfl⟩
    · have hz : chk d i = if d.off = true then 12 else 0 := by unfold chk; rw [if_neg (by omega)]
      rw [hz]
      cases ho : d.off with
      | true =>
        rw [ho] at c2
        go_enter Try.func24, Try.ntmps24
        go_wp2
        go_ret
        exact ⟨rfl, rfl⟩
      | false =>
        rw [ho] at c2
        go_enter Try.func24, Try.ntmps24
        go_wp2
        go_ret
        exact ⟨rfl, rfl⟩

set_option maxHeartbeats 2000000 in
set_option maxRecDepth 100000 in
theorem count_any (w : World) {S : Nat → Prop} {D T : Nat} {vn vd : Nat → Value} {d : Dr} (h : DAt w S D T vn vd d) (ho : d.ops ≤ 1000000) :
    Calls Try.prog 26 #[.pointer (some ⟨D, 0, none⟩)] w (CPost w S D T vn vd (cnt d)) := by
  obtain ⟨c0, c1, c2, c3, c4⟩ := h.cells
  have hl := h.lim
  have hfr := h.free
  have f3 := hfr 3
  have f4 := hfr 4
  have f2 := hfr 2
  have H := Lib.hid h
  clear hfr c0 c1 h
  have hk : ∀ (x : World), Kept (fun k => k = D) w x → ∀ j u, Kept (fun k => k = D) w (x.setCell ⟨D, j, none⟩ u) := fun x hx j u => hx.setCell (p := ⟨D, j, none⟩) (.inl rfl) u
  by_cases hf0 : d.fuse = 0
  · have hz : cnt d = (0, { d with ops := d.ops + 1 }) := by unfold cnt; rw [if_pos hf0]
    rw [hz]
    have e4 : ((d.fuse : Int) == 0) = true := by simp [hf0]
    have o1 : (d.ops : Int) + 1 ≤ 9223372036854775807 := by omega
    clear hz
    have HK := Lib.hid hk
    have HF := Lib.hid hf0
    clear hk hf0
    go_enter Try.func26, Try.ntmps26
    go_wp2
    go_ret
    refine ⟨rfl, H.out.head ?_ (fun g hg => heap_setCell_other _ _ _ _ hg) rfl rfl rfl hl.2.2, HK.out _ (Kept.refl _ _) _ _⟩
    exact heap_setCell_same _ _ _ _ _ _ H.out.cell
  · obtain ⟨m, hm⟩ : ∃ m : Nat, d.fuse = m + 1 := ⟨d.fuse - 1, by omega⟩
    have e4 : (((m : Int) + 1) == 0) = false := by simp; omega
    have o1 : (d.ops : Int) + 1 ≤ 9223372036854775807 := by omega
    have o2 : (m : Int) ≤ 1048576 := by omega
    rw [hm, Int.natCast_add, Int.natCast_one] at c4
    by_cases hf1 : 0 < m
    · have hz : cnt d = (0, { d with ops := d.ops + 1, fuse := m }) := by unfold cnt; rw [if_neg hf0, if_pos (by omega), hm]; rfl
      rw [hz]
      have o3 : decide (0 < m) = true := by simpa using hf1
      have o4 : (0 : Int) < (m : Int) := by omega
      have HK := Lib.hid hk
      have HM := Lib.hid hm
      clear hk hf0 hm hz hf1
      go_enter Try.func26, Try.ntmps26
      go_wp2
      go_ret
      refine ⟨rfl, H.out.head ?_ (fun g hg => (heap_setCell_other _ _ _ _ hg).trans (heap_setCell_other _ _ _ _ hg)) rfl rfl rfl (by show m ≤ _; omega), HK.out _ (HK.out _ (Kept.refl _ _) _ _) _ _⟩
      exact heap_setCell_same _ _ _ _ _ _ (heap_setCell_same _ _ _ _ _ _ H.out.cell)
    · have hz : cnt d = (12, { d with ops := d.ops + 1, fuse := m, off := true }) := by obtain rfl : m = 0 := by omega
                                                                                        unfold cnt; rw [if_neg hf0, if_neg (by omega)]
      rw [hz]
      have o3 : decide (0 < m) = false := by simpa using hf1
      have o4 : ¬ (0 : Int) < (m : Int) := by omega
      have HK := Lib.hid hk
      have HM := Lib.hid hm
      clear hk hf0 hm hz hf1
      go_enter Try.func26, Try.ntmps26
      go_wp2
      go_ret
      refine ⟨rfl, H.out.head ?_ (fun g hg => (heap_setCell_other _ _ _ _ hg).trans ((heap_setCell_other _ _ _ _ hg).trans (heap_setCell_other _ _ _ _ hg))) rfl rfl rfl (by show m ≤ _; omega), HK.out _ (HK.out _ (HK.out _ (Kept.refl _ _) _ _) _ _) _ _⟩
      exact heap_setCell_same _ _ _ _ _ _ (heap_setCell_same _ _ _ _ _ _ (heap_setCell_same _ _ _ _ _ _ H.out.cell))

set_option maxHeartbeats 2000000 in
set_option maxRecDepth 100000 in
theorem settle_at (T i : Nat) (a b c : Value) (w : World) (ha : w.cell? ⟨T, i, none⟩ = some a) (hb : w.cell? ⟨T, i + 1, none⟩ = some b) (hc : w.cell? ⟨T, i + 2, none⟩ = some c) (hf : ∀ j, w.frozen? ⟨T, j, none⟩ = false) (hs : ∃ o n c, a = .slice o n c) :
    Calls Try.prog 27 #[.pointer (some ⟨T, i, none⟩)] w fun e w' => e = .returned (.tuple #[]) ∧ w' = (w.setCell ⟨T, i + 1, none⟩ a).setCell ⟨T, i + 2, none⟩ (.bool false) := by
  obtain ⟨o, n, cc, rfl⟩ := hs
  have f1 := hf (i + 1)
  have f2 := hf (i + 2)
  have n1 : (⟨T, i + 1, none⟩ : Addr) ≠ ⟨T, i + 2, none⟩ := by simp
  clear hf
  go_enter Try.func27, Try.ntmps27
  go_wp2
  go_end0
  exact ⟨rfl, rfl⟩

set_option maxHeartbeats 2000000 in
set_option maxRecDepth 100000 in
theorem fresh_any (v : Value) (l : List UInt8) (w : World) (h : Rd w v l) (hl : l.length ≤ 140737488355328) :
    Calls Try.prog 25 #[v] w fun e w' => ∃ v', e = .returned v' ∧ Own w' w.heap.size v' l ∧ Below w.heap.size w w' := by
  obtain ⟨o, cap, w', hr, h1, h2, _, _⟩ := append_two (World.ownsRow_nil w w.heap.size 5 1) (l := []) h (by simpa using hl) (Nat.le_refl _) 22
  simp only [List.length_nil, Nat.zero_add, List.nil_append] at hr h1
  have hx : ∀ k, v = k → v = k := fun _ h => h
  clear hx
  go_enter Try.func25, Try.ntmps25
  go_wp2_with (at_builtin; refine wpList_append_known rfl _ _ _ _ rfl _ _ _ rfl rfl hr ?_)
  go_ret
  exact ⟨_, rfl, h1, (Below.refl _ w).grown h2 (Nat.le_refl _) (by intro k hk; cases hk)⟩

end Go.Proofs.Ytdckcjcddibglaa
