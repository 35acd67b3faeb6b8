/- New, walked. -/
import Derived.Test.YtpmbdncackneoaaDoorMacS
import Derived.BigRegion
namespace Go.Proofs.YtpmbdncackneoaaDoor
open Go.RowKit HeaM Ma

def mcOf (k q moves : Nat) : Mc := ⟨[], primG k, q, moves⟩
/-- What New leaves. -/
def NewPost (w w' : World) (p q moves : Nat) (e : Ending) : Prop :=
  ∃ M H vg v1 v2, e = .returned (.tuple #[.pointer (some ⟨M, 0, none⟩), .int .i64 0]) ∧ MachE w' M H w.heap.size 0 (.slice none 0 0) vg v1 v2 (mcOf p q moves) (primW p) (primF p) ∧ Below w.heap.size w w' ∧ w.heap.size ≤ M ∧ w.heap.size ≤ H

/-- One predefined function more. -/
theorem MachE.more {w w2 : World} {M H base : Nat} {vg v1 v2 u1 u2 : Value} {k q moves : Nat} (h : MachE w M H base 0 (.slice none 0 0) vg v1 v2 (mcOf k q moves) (primW k) (primF k)) (hL : LPost w w2 H base q 0 v1 v2 u1 u2 (primW k ++ [262, numW (k : Int)]) (primF k ++ [true, false])) (hk : 2 * (k + 1) ≤ q) (hk2 : k ≤ 1000) (hM : base ≤ M) (hH : base ≤ H) :
    Below base w w2 ∧ ∃ o c w3, (Builtin.append_ #[52, 52] 52 #[vg, .slice (some ⟨w2.heap.size, 0, none⟩) 1 1]).run Tryd.prog (w2.alloc (.cells #[.int .u64 ((4 * k : Nat) : Int)] 31)) = .ok (.slice o (k + 1) c) w3 ∧ w2.cell? ⟨M, 0, none⟩ = some (.pointer (some ⟨H, 0, none⟩)) ∧ w2.cell? ⟨M, 2, none⟩ = some vg ∧ w3.cell? ⟨M, 2, none⟩ = some vg ∧ w3.frozen? ⟨M, 2, none⟩ = false ∧
      Below base w2 (w3.setCell ⟨M, 2, none⟩ (.slice o (k + 1) c)) ∧ MachE (w3.setCell ⟨M, 2, none⟩ (.slice o (k + 1) c)) M H base 0 (.slice none 0 0) (.slice o (k + 1) c) u1 u2 (mcOf (k + 1) q moves) (primW (k + 1)) (primF (k + 1)) := by
  have hpl : (primG k).length = k := by unfold primG; simp
  have h2 := h.put (R := [262, numW (k : Int)]) (FR := [true, false]) hL rfl (by rw [primW_length]; show 2 * k + 2 ≤ q; omega) (by
    intro x hx
    simp only [List.mem_cons, List.not_mem_nil, or_false] at hx
    rcases hx with rfl | rfl
    · omega
    · exact numW_lt _)
  have hr := rep_prim (W := primW k) (F := primF k) (p := k) (primF_length k) (by omega)
  rw [primW_length] at hr
  obtain ⟨o, c, w3, r3, d3, f3, _, hb, h3⟩ := h2.glob (v := .prim (2 * k) k) (x := 4 * k) rfl hr (by show 2 * (2 * k) = 4 * k; omega) (by show (primG k).length ≤ _; omega)
  have hk1 : Below base w w2 := hL.kept.below h.base (by
    rintro j (a | a | a)
    · omega
    · exact (h.heap.own1.lt j a).1
    · exact (h.heap.own2.lt j a).1)
  have e := fun j => cell_of_row w2 M j _ _ (0, 0) h2.cell
  refine ⟨hk1, o, c, w3, ?_, (e 0).trans rfl, (e 2).trans rfl, d3, f3, ?_, ?_⟩
  · have r4 := r3
    simp only [mcOf, hpl] at r4
    exact r4
  · rcases hb base (Nat.le_refl _) with hb | hb
    · simp only [mcOf, hpl] at hb
      exact hb
    · omega
  · have h4 := h3
    simp only [mcOf, hpl] at h4
    rw [primW_succ, primF_succ]
    unfold mcOf
    rw [primG_succ]
    exact h4

set_option maxHeartbeats 4000000 in
set_option maxRecDepth 100000 in
theorem new_mach (p q moves : Nat) (w : World) (h1 : 1 ≤ q) (h2 : q ≤ 1048576) (hp : 2 * p ≤ q) (hp2 : p ≤ 1000) :
    Calls Tryd.prog 8 #[.int .i64 (q : Int), .int .i64 (p : Int)] w fun e w' => NewPost w w' p q moves e := by
  have HN := Lib.hid (new_ok q w h1 h2)
  have HND : Hid (∀ w, Calls Tryd.prog 12 #[.int .u8 6, .int .i64 1] w fun e w' => e = .returned (.int .i64 2) ∧ w = w') := fun w => (need_any 6 1 2 w (by omega) rfl).mono fun _ _ h => ⟨h.1, h.2.symm⟩
  have hqi : (q : Int) ≤ 1048576 := by omega
  have hpi : (p : Int) ≤ 1000 := by omega
  have hpq : (p : Int) ≤ (q : Int) / 2 := by omega
  go_enter Tryd.func8, Tryd.ntmps8
  go_wp2_with fail
  refine HN.out.mono ?_
  rintro e w1 ⟨rfl, rfl⟩
  go_wp2_with fail
  refine (HND.out _).mono ?_
  rintro e w1 ⟨rfl, rfl⟩
  go_wp2_with fail
  have hst : MachE ((w.alloc (emptyHeap q)).alloc (.cells #[.pointer (some ⟨w.heap.size, 0, none⟩), .slice none 0 0, .slice none 0 0] 54)) (w.heap.size + 1) w.heap.size w.heap.size 0 (.slice none 0 0) (.slice none 0 0) (.slice none 0 0) (.slice none 0 0) (mcOf 0 q moves) (primW 0) (primF 0) := by
    have hM := heap_alloc_new (w.alloc (emptyHeap q)) (.cells #[.pointer (some ⟨w.heap.size, 0, none⟩), .slice none 0 0, .slice none 0 0] 54)
    have hs1 : (w.alloc (emptyHeap q)).heap.size = w.heap.size + 1 := by simp
    rw [hs1] at hM
    exact ⟨hM, (HAt.fresh w q).below ((Below.refl _ _).alloc (Nat.le_refl _) _) (Nat.le_refl _), fun _ _ => .inl ⟨none, 0, rfl, rfl⟩, World.ownsRow_nil _ _ _ _, by simp [Value.ownBlock], rfl, Nat.zero_le _, by simp [primW], by simp [mcOf, primG], by simp; omega, h2, by simp [mcOf], by simp [mcOf, primG]⟩
  have hbs : Below w.heap.size w ((w.alloc (emptyHeap q)).alloc (.cells #[.pointer (some ⟨w.heap.size, 0, none⟩), .slice none 0 0, .slice none 0 0] 54)) := ((Below.refl _ _).alloc (Nat.le_refl _) _).alloc (by simp) _
  have HST := Lib.hid (And.intro hst hbs)
  clear hst hbs HN
  go_loopw [29] (fun i wr => ∃ k : Nat, k ≤ p ∧ i = .int .i64 k ∧ ∃ vg v1 v2, MachE wr (w.heap.size + 1) w.heap.size w.heap.size 0 (.slice none 0 0) vg v1 v2 (mcOf k q moves) (primW k) (primF k) ∧ Below w.heap.size w wr) (fun i _ => p - (intOf i).toNat)
  case atStart => exact ⟨0, Nat.zero_le _, rfl, _, _, _, HST.out⟩
  case round =>
    obtain ⟨k, hk, rfl, vg, v1, v2, hE, hb⟩ := hrel
    clear HST
    by_cases hlt : k < p
    · have hki : (k : Int) < (p : Int) := by omega
      have HNUM : Hid (∀ w, Calls Tryd.prog 7 #[.int .i64 (k : Int)] w fun e w' => e = .returned (.int .u64 ((numW (k : Int) : Nat) : Int)) ∧ w = w') := fun w => (num_t (k : Int) w).mono fun e w' h => ⟨by rw [h.1]; unfold numW; congr 2, h.2⟩
      have hput : Calls Tryd.prog 13 #[.pointer (some ⟨w.heap.size, 0, none⟩), .int .u8 6, .slice (some ⟨wr.heap.size, 0, none⟩) 1 1, .slice none 0 0] (wr.alloc (.cells #[.int .u64 ((numW (k : Int) : Nat) : Int)] 31)) fun e w' => e = .returned (.tuple #[.int .u64 ((4 * k : Nat) : Int), .int .i64 0]) ∧ ∃ u1 u2, LPost wr w' w.heap.size w.heap.size q 0 v1 v2 u1 u2 (primW k ++ [262, numW (k : Int)]) (primF k ++ [true, false]) := by
        have hba : Below wr.heap.size wr (wr.alloc (.cells #[.int .u64 ((numW (k : Int) : Nat) : Int)] 31)) := (Below.refl _ _).alloc (Nat.le_refl _) _
        have h4 := put_room w.heap.size w.heap.size q 0 6 v1 v2 (primW k) (primF k) [numW (k : Int)] (.slice (some ⟨wr.heap.size, 0, none⟩) 1 1) (.slice none 0 0) _ (hE.heap.below hba (Nat.le_refl _)) h2 (by have := hb.size; simp; omega) (by omega) (primF_length k) (by rw [primW_length]; simp; omega) (by
          intro w' hk'
          have hl := RdV.lit wr (.int .u64 ((numW (k : Int) : Nat) : Int)) 31
          rcases hl with ⟨h5, _⟩ | ⟨a, cc, h5, h6, h7, h8⟩
          · cases h5
          · cases h5
            refine .inr ⟨_, _, rfl, h6, h7, fun j u hu => ?_⟩
            have h9 := h8 j u hu
            rw [add_none] at h9 ⊢
            refine (hk'.cell (p := ⟨wr.heap.size, 0 + j, none⟩) (by simp) ?_).trans h9
            intro h10
            have := hE.heap.own_lt _ h10
            exact absurd this (Nat.lt_irrefl _))
        refine h4.mono ?_
        rintro e w' ⟨rfl, u1, u2, hL⟩
        refine ⟨?_, u1, u2, hL.before hba⟩
        rw [primW_length, show 2 * (2 * k) = 4 * k by omega]
      have HPUT := Lib.hid hput
      have HE := Lib.hid hE
      have HB := Lib.hid hb
      clear hE hb hput
      go_wp2_with fail
      refine (HNUM.out _).mono ?_
      rintro e w1 ⟨rfl, rfl⟩
      go_wp2_with fail
      refine HPUT.out.mono ?_
      rintro e w2 ⟨rfl, u1, u2, hL⟩
      obtain ⟨hb1, o, cp, w3, r3, m0, m2, d2, f2, hb2, hE3⟩ := HE.out.more hL (by omega) (by omega) (by omega) (Nat.le_refl _)
      have R3 := Lib.hid r3
      have FIN := Lib.hid (And.intro hE3 ((HB.out.trans hb1).trans hb2))
      clear hL hb1 hb2 hE3 r3
      go_wp2_with (at_builtin; refine wpList_append_known rfl (.tmp 47) (.tmp 49) 52 52 (by rfl) _ _ _ (by rfl) (by rfl) R3.out ?_)
      exact ⟨⟨k + 1, by omega, by go_num, _, _, _, FIN.out⟩, by simp [intOf]; omega⟩
    · obtain rfl : k = p := by omega
      have hki : ¬ (k : Int) < (k : Int) := by omega
      have HE := Lib.hid hE
      have HB := Lib.hid hb
      clear hE hb
      go_wp2_with fail
      go_ret2
      exact ⟨_, _, _, _, _, rfl, HE.out, HB.out, by omega, Nat.le_refl _⟩
end Go.Proofs.YtpmbdncackneoaaDoor
