/- New: a machine with predefined functions. -/
import Derived.Test.YtpmbdncackneoaaDoorMacR
namespace Go.Proofs.YtpmbdncackneoaaDoor
open Go.RowKit HeaM Ma

set_option maxHeartbeats 1000000 in
set_option maxRecDepth 100000 in
/-- Put, where there is room. -/
theorem put_room (b base q c k : Nat) (v1 v2 : Value) (W : List Nat) (F : List Bool) (ps : List Nat) (pv r : Value) (w : World) (h : HAt w b base q c v1 v2 W F) (hq : q ≤ 1048576) (hbase : base ≤ w.heap.size) (hk : k = 1 ∨ k = 2 ∨ k = 4 ∨ k = 5 ∨ k = 6) (hF : F.length = W.length) (hW : W.length + (1 + ps.length) ≤ q)
    (hp : ∀ w', Kept (three b v1 v2) w w' → RdW w' pv ps) :
    Calls Tryd.prog 13 #[.pointer (some ⟨b, 0, none⟩), .int .u8 (k : Int), pv, r] w fun e w' => e = .returned (.tuple #[.int .u64 ((2 * W.length : Nat) : Int), .int .i64 0]) ∧
      ∃ v1' v2', LPost w w' b base q c v1 v2 v1' v2' (W ++ (ps.length * 256 + k) :: ps) (F ++ true :: List.replicate ps.length false) := by
  have hk3 : k ≠ 3 := by omega
  have hk3' : ((k : Int) == 3) = false := by rw [beq_eq_false_iff_ne]; omega
  have HKI : Hid (isK k = true) := decide_eq_true (by omega)
  have HIK : Hid (∀ w, Calls Tryd.prog 22 #[.int .u8 (k : Int)] w fun e w' => e = .returned (.bool true) ∧ w = w') := fun w => (iskind_t k w (by omega)).mono fun e w' ⟨h1, h2⟩ => ⟨by rw [h1, HKI.out], h2⟩
  have hnd : need k ps.length = 1 + ps.length := by unfold need; rw [if_neg hk3]
  have HR := Lib.hid (room_yes b base q c v1 v2 W F (1 + ps.length) pv r w h hq hW)
  have HND : Hid (∀ w, Calls Tryd.prog 12 #[.int .u8 (k : Int), .int .i64 (ps.length : Int)] w fun e w' => e = .returned (.int .i64 ((1 + ps.length : Nat) : Int)) ∧ w = w') := fun w => (need_any k ps.length _ w (by omega) hnd).mono fun _ _ h => ⟨h.1, h.2.symm⟩
  obtain ⟨o, cp, rfl⟩ : ∃ o c, pv = .slice o ps.length c := by
    rcases hp w (Kept.refl _ _) with ⟨rfl, hr⟩ | ⟨a, c, rfl, _⟩
    · have : ps = [] := by simpa [Ws] using hr
      subst this
      exact ⟨_, _, rfl⟩
    · exact ⟨some a, c, by rw [Ws_length]⟩
  have HL := Lib.hid fun nq => lay_t b base q c v1 v2 W F (ps.length * 256 + k) (.slice o ps.length cp) ps (w.drewN nq) (h.below (below_drewN _ _ _) (Nat.le_refl _)) hbase (fun w' hk => hp w' ⟨hk.os, hk.tape, hk.output, hk.size, hk.block⟩) (by omega) (by omega)
  have HB := Lib.hid fun nq (w' : World) (v1' v2' : Value) (hL : LPost (w.drewN nq) w' b base q c v1 v2 v1' v2' (W ++ (ps.length * 256 + k) :: ps) (F ++ true :: List.replicate ps.length false)) => hL.before (below_drewN w.heap.size nq w)
  have hki : (k : Int) ≤ 6 := by omega
  have hpi : (ps.length : Int) ≤ 1048576 := by omega
  have HH : Hid (∀ w, Calls Tryd.prog 25 #[.int .u8 (k : Int), .int .i64 (ps.length : Int)] w fun e w' => e = .returned (.int .u64 ((ps.length * 256 + k : Nat) : Int)) ∧ w = w') := fun w => head_t k ps.length w (by omega) (by omega)
  clear h hp hF hW hq hbase hnd hk
  generalize ps.length * 256 + k = X at *
  go_enter Tryd.func13, Tryd.ntmps13
  go_wp2_with fail
  refine (HIK.out _).mono ?_
  rintro e w' ⟨rfl, rfl⟩
  go_wp2_with fail
  refine (HND.out _).mono ?_
  rintro e w' ⟨rfl, rfl⟩
  go_wp2_with fail
  refine HR.out.mono ?_
  rintro e w2 ⟨rfl, nq, rfl⟩
  have HLQ := Lib.hid (HL.out nq)
  have HBQ := Lib.hid (HB.out nq)
  clear HL HB
  generalize w.drewN nq = w2 at *
  go_wp2_with fail
  refine (HH.out _).mono ?_
  rintro e w' ⟨rfl, rfl⟩
  go_wp2_with fail
  refine HLQ.out.mono ?_
  rintro e w3 ⟨rfl, y1, y2, hL, _⟩
  have HL3 := Lib.hid (HBQ.out _ _ _ hL)
  clear hL
  go_wp2
  go_ret2
  exact ⟨rfl, _, _, HL3.out⟩

section
variable {w w' : World} {M H base c : Nat} {vf vg v1 v2 u1 u2 : Value} {m : Mc} {W R : List Nat} {F FR : List Bool}
theorem MachE.put (h : MachE w M H base c vf vg v1 v2 m W F) (hL : LPost w w' H base m.q c v1 v2 u1 u2 (W ++ R) (F ++ FR)) (hl : FR.length = R.length) (hq : W.length + R.length ≤ m.q) (hR : ∀ x ∈ R, x < 18446744073709551616) :
    MachE w' M H base c vf vg u1 u2 m (W ++ R) (F ++ FR) := by
  have hk := hL.kept
  have hMT : ¬ three H v1 v2 M := by
    rintro (e | e | e)
    · have h1 : TgB w M 54 := ⟨_, h.cell⟩
      have h2 : TgB w M 72 := ⟨_, e ▸ h.heap.cell⟩
      exact h1.ne h2 (by decide)
    · exact (own_tag h.heap.own1 _ e).ne ⟨_, h.cell⟩ (by decide)
    · exact (own_tag h.heap.own2 _ e).ne ⟨_, h.cell⟩ (by decide)
  refine ⟨(hk.block M (lt_of_block h.cell) hMT).trans h.cell, hL.at_, fun w2 hk2 => h.funs w2 (hk.step hk2 hL.new), own_kept h.glb hk ?_, ?_, ?_, ?_, ?_, fun v hv => Rep.left (h.rglb v hv) _ _, Nat.le_trans h.base hk.size, h.q, h.fl, h.gl⟩
  · rintro k a (b | b | b)
    · subst b
      exact (own_tag h.glb _ a).ne ⟨_, h.heap.cell⟩ (by decide)
    · exact h.gne k a b
    · exact (own_tag h.glb k a).ne (own_tag h.heap.own2 k b) (by decide)
  · intro k a b
    rcases hL.new k (.inr (.inl b)) with (e | e | e) | e
    · subst e
      exact (own_tag h.glb _ a).ne ⟨_, h.heap.cell⟩ (by decide)
    · exact h.gne k a e
    · exact (own_tag h.glb k a).ne (own_tag h.heap.own2 k e) (by decide)
    · have := (h.glb.lt k a).2
      omega
  · rw [List.length_append, List.length_append, hl, h.len]
  · rw [List.length_append]; exact hq
  · intro x hx
    rcases List.mem_append.1 hx with hx | hx
    · exact h.ws x hx
    · exact hR x hx

/-- One global more, as long as there are no functions. -/
theorem MachE.glob {v : V} {x : Nat} (h : MachE w M H base c (.slice none 0 0) vg v1 v2 m W F) (hf : m.funs = []) (hv : Rep W F v) (hx : v.word = x) (hg : m.globs.length ≤ 100000) :
    ∃ o k w2, (Builtin.append_ #[52, 52] 52 #[vg, .slice (some ⟨w.heap.size, 0, none⟩) 1 1]).run Tryd.prog (w.alloc (.cells #[.int .u64 (x : Int)] 31)) = .ok (.slice o (m.globs.length + 1) k) w2 ∧ w2.cell? ⟨M, 2, none⟩ = some vg ∧ w2.frozen? ⟨M, 2, none⟩ = false ∧ w.heap.size ≤ w2.heap.size ∧
      (∀ b0, b0 ≤ base → Below b0 w (w2.setCell ⟨M, 2, none⟩ (.slice o (m.globs.length + 1) k)) ∨ M < b0) ∧
      MachE (w2.setCell ⟨M, 2, none⟩ (.slice o (m.globs.length + 1) k)) M H base c (.slice none 0 0) (.slice o (m.globs.length + 1) k) v1 v2 { m with globs := m.globs ++ [v] } W F := by
  obtain ⟨v', w2, r2, o2, g2, a2⟩ := append_one (ty := 52) (t := 52) wordInfo Tryd.underlying52 rfl (h.glb.alloc (.cells #[.int .u64 (x : Int)] 31)) (RdV.lit w (.int .u64 (x : Int)) 31) (by intro u hu; simp at hu; subst hu; rfl) (by simp; omega) (by simp; omega) (by have := h.base; simp; omega)
  simp only [List.length_singleton] at r2 o2 a2
  have hk : Kept (fun k => vg.ownBlock = some k) w w2 := ((Kept.refl _ _).alloc _).grown g2 fun j hj => .inl hj
  have hMl := lt_of_block h.cell
  have hMg : vg.ownBlock ≠ some M := fun a => (own_tag h.glb _ a).ne ⟨_, h.cell⟩ (by decide)
  have hM : w2.heap[M]? = some (.cells #[.pointer (some ⟨H, 0, none⟩), .slice none 0 0, vg] 54 (0, 0)) := (hk.block M hMl hMg).trans h.cell
  have hH : HAt w2 H base m.q c v1 v2 W F := h.heap.kept hk (by
    rintro k (a | a | a) b
    · subst a
      exact (own_tag h.glb _ b).ne ⟨_, h.heap.cell⟩ (by decide)
    · exact h.gne k b a
    · exact (own_tag h.glb k b).ne (own_tag h.heap.own2 k a) (by decide))
  have hMT : ¬ three H v1 v2 M := by
    rintro (e | e | e)
    · have h1 : TgB w M 54 := ⟨_, h.cell⟩
      have h2 : TgB w M 72 := ⟨_, e ▸ h.heap.cell⟩
      exact h1.ne h2 (by decide)
    · exact (own_tag h.heap.own1 _ e).ne ⟨_, h.cell⟩ (by decide)
    · exact (own_tag h.heap.own2 _ e).ne ⟨_, h.cell⟩ (by decide)
  obtain ⟨o, k, rfl, hok, hkm⟩ := own_slice o2
  have hnew : ∀ j, (Value.slice o (m.globs.length + 1) k).ownBlock = some j → vg.ownBlock = some j ∨ w.heap.size ≤ j := by
    intro j hj
    rcases a2 with a2 | a2
    · exact .inl (a2 ▸ hj)
    · rw [a2] at hj; injection hj with hj; right; rw [← hj]; simp
  have hnM : (Value.slice o (m.globs.length + 1) k).ownBlock ≠ some M := by
    intro e
    rcases hnew M e with e | e
    · exact hMg e
    · omega
  refine ⟨o, k, w2, r2, (cell_of_row w2 M 2 _ _ (0, 0) hM).trans rfl, frozen_of_row w2 M 2 _ _ hM, hk.size, fun b0 hb0 => ?_, ?_⟩
  · by_cases hMb : M < b0
    · exact .inr hMb
    · exact .inl ((((Below.refl b0 w).alloc (Nat.le_trans hb0 h.base) _).grown g2 (by have := h.base; simp; omega) (fun j hj => Nat.le_trans hb0 (h.glb.lt j hj).1)).setCell (by show b0 ≤ M; omega) _)
  · refine ⟨heap_setCell_same w2 M 2 _ _ _ hM, hH.setOther hMT, fun w3 _ => .inl ⟨none, 0, rfl, hf⟩, ?_, ?_, h.len, h.wl, h.ws, ?_, ?_, h.q, h.fl, by show (m.globs ++ [v]).length ≤ _; rw [List.length_append]; simp; omega⟩
    · have e : ((m.globs ++ [v]).map V.word) = m.globs.map V.word ++ [x] := by rw [List.map_append, List.map_singleton, hx]
      show (w2.setCell _ _).ownsRow base 31 1 _ (m.globs ++ [v]).length (Ws ((m.globs ++ [v]).map V.word))
      rw [e, Ws_append, List.length_append, List.length_singleton]
      exact ownsRow_setCell_other o2 hnM _
    · intro j hj hs
      rcases hnew j hj with e | e
      · exact h.gne j e hs
      · have := (h.heap.own1.lt j hs).2
        omega
    · intro u hu
      rcases List.mem_append.1 hu with hu | hu
      · exact h.rglb u hu
      · rw [List.mem_singleton] at hu
        subst hu
        exact hv
    · have := h.base
      have := hk.size
      simp [World.setCell]
      omega
end

/-- The predefined functions in a heap. -/
def primW (k : Nat) : List Nat := (List.range k).flatMap fun (i : Nat) => ([262, numW (i : Int)] : List Nat)
def primF (k : Nat) : List Bool := (List.range k).flatMap fun _ => [true, false]
def primG (k : Nat) : List V := (List.range k).map fun i => .prim (2 * i) i
theorem primW_length (k : Nat) : (primW k).length = 2 * k := by
  unfold primW
  induction k with
  | zero => rfl
  | succ k ih => rw [List.range_succ, List.flatMap_append, List.length_append, ih]; simp; omega
theorem primW_succ (k : Nat) : primW (k + 1) = primW k ++ [262, numW (k : Int)] := by
  unfold primW; rw [List.range_succ, List.flatMap_append]; simp
theorem primF_succ (k : Nat) : primF (k + 1) = primF k ++ [true, false] := by
  unfold primF; rw [List.range_succ, List.flatMap_append]; simp
theorem primG_succ (k : Nat) : primG (k + 1) = primG k ++ [.prim (2 * k) k] := by
  unfold primG; rw [List.range_succ, List.map_append]; simp
theorem primF_length (k : Nat) : (primF k).length = (primW k).length := by
  unfold primF primW
  induction k with
  | zero => rfl
  | succ k ih => rw [List.range_succ, List.flatMap_append, List.flatMap_append, List.length_append, List.length_append, ih]; simp
theorem rep_prim {W : List Nat} {F : List Bool} {p : Nat} (hF : F.length = W.length) (hp : p ≤ 1000000) : Rep (W ++ [262, numW p]) (F ++ [true, false]) (.prim W.length p) := by
  refine ⟨⟨by rw [← hF, List.getElem?_append_right (Nat.le_refl _)]; simp, by rw [List.getElem?_append_right (Nat.le_refl _)]; simp, by decide, by decide, by decide, rfl, by simp⟩, ?_, hp⟩
  rw [List.getElem?_append_right (by omega), show W.length + 1 - W.length = 1 by omega]
  rfl
end Go.Proofs.YtpmbdncackneoaaDoor
