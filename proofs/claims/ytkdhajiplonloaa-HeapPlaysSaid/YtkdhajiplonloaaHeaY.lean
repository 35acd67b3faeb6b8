/- moveRoots: where the roots stand. -/
import Derived.Test.YtkdhajiplonloaaHeaX
import Derived.Test.YtkdhajiplonloaaHeaC
namespace Go.Proofs.Ytkdhajiplonloaa
open Go.RowKit HeaM

theorem Ws_set (l : List Nat) (k x : Nat) : Ws (l.set k x) = (Ws l).set k (.int .u64 (x : Int)) := by unfold Ws; rw [List.map_set]; rfl

/-- Pointers in a slice, and what they point to. -/
structure Roots (w : World) (rv : Value) (rs : List Addr) (xs : List Nat) : Prop where
  rd : RdV w rv (rs.map fun a => .pointer (some a))
  len : xs.length = rs.length
  cell : ∀ (j : Nat) (a : Addr) (x : Nat), rs[j]? = some a → xs[j]? = some x → w.cell? a = some (.int .u64 (x : Int))
  lt : ∀ x ∈ xs, x < 18446744073709551616

/-- The roots and what they point to lie in no block of S. -/
structure Apart (S : Nat → Prop) (rv : Value) (rs : List Addr) : Prop where
  row : ∀ k, (∃ a n c, rv = .slice (some a) n c ∧ a.block = k) → ¬ S k
  cells : ∀ a ∈ rs, ¬ S a.block

theorem Roots.kept {S : Nat → Prop} {w w' : World} {rv : Value} {rs : List Addr} {xs : List Nat} (h : Roots w rv rs xs) (ha : Apart S rv rs) (hk : Kept S w w') : Roots w' rv rs xs := by
  refine ⟨?_, h.len, ?_, h.lt⟩
  · rcases h.rd with h0 | ⟨a, c, hv, hl, hm, hc⟩
    · exact .inl h0
    · refine .inr ⟨a, c, hv, hl, hm, fun j u hu => ?_⟩
      have h1 := hc j u hu
      have hb : (a.add j).block = a.block := by unfold Addr.add; split <;> rfl
      exact (hk.cell (World.block_lt_of_cell? w _ h1) (by rw [hb]; exact ha.row _ ⟨a, _, c, hv, rfl⟩)).trans h1
  · intro j a x h1 h2
    have h3 := h.cell j a x h1 h2
    exact (hk.cell (World.block_lt_of_cell? w _ h3) (ha.cells a (List.mem_of_getElem? h1))).trans h3

theorem row_type {w : World} {base base' g n cap m : Nat} {e e' : TypeId} {u : Value} {xs ys : List Value} (h : w.ownsRow base e 1 (.slice (some ⟨g, 0, none⟩) n cap) n xs) (h' : w.ownsRow base' e' 1 u m ys) (he : e ≠ e') : u.ownBlock ≠ some g := by
  intro hu
  rcases h.2 with ⟨h1, _⟩ | ⟨g1, cap1, cur1, h1, _, hg1, _⟩
  · cases h1
  · simp only [Value.slice.injEq, Option.some.injEq, Addr.mk.injEq, and_true, true_and] at h1
    obtain ⟨rfl, _⟩ := h1
    rcases h'.2 with ⟨rfl, _⟩ | ⟨g2, cap2, cur2, rfl, _, hg2, _⟩
    · simp [Value.ownBlock] at hu
    · simp only [Value.ownBlock, Option.some.injEq] at hu
      subst hu
      rw [hg1] at hg2
      injection hg2 with hg2
      injection hg2 with _ h2
      exact he h2

def RootsPost (w w' : World) (b base q c : Nat) (v1 v2 : Value) (t B0 gt : Nat) (W : List Nat) (F : List Bool) (r : St × List Nat) (e : Ending) : Prop :=
  ∃ gw u2', e = .returned (.slice (some ⟨gw, 0, none⟩) r.2.length r.2.length) ∧ MS w' b base q c v1 v2 t B0 gt u2' W F r.1 ∧ w'.ownsRow B0 37 1 (.slice (some ⟨gw, 0, none⟩) r.2.length r.2.length) r.2.length (Ws r.2) ∧ gw ≠ gt ∧ gw ≠ t ∧ Kept (SS b v1 v2 B0) w w'

set_option maxHeartbeats 2000000 in
set_option maxRecDepth 100000 in
theorem moveRoots_t (b base q c : Nat) (v1 v2 : Value) (t B0 gt : Nat) (u2 : Value) (W : List Nat) (F : List Bool) (s : St) (rv : Value) (rs : List Addr) (xs : List Nat) (w : World) (h : MS w b base q c v1 v2 t B0 gt u2 W F s) (hg : Good W F)
    (hr : Roots w rv rs xs) (ha : Apart (SS b v1 v2 B0) rv rs) (hn : rs.length ≤ 1000000000) :
    Calls Try.prog 30 #[.pointer (some ⟨b, 0, none⟩), .pointer (some ⟨t, 0, none⟩), rv] w fun e w' => RootsPost w w' b base q c v1 v2 t B0 gt W F (mvs W F s xs) e := by
  obtain ⟨o, cp, hv, hcp, hcm⟩ := hr.rd.slice
  rw [List.length_map] at hv hcp
  have mk := madeW rs.length hn
  have hgt : gt < w.heap.size := (h.to.own1.lt gt rfl).2
  have htl := h.to.lt
  have hB := h.size
  have hlen := hr.len
  have start : MS (w.alloc (.cells (Ws (List.replicate rs.length 0)).toArray 37)) b base q c v1 v2 t B0 gt u2 W F (mvs W F s (xs.take 0)).1 ∧ (w.alloc (.cells (Ws (List.replicate rs.length 0)).toArray 37)).ownsRow B0 37 1 (.slice (some ⟨w.heap.size, 0, none⟩) rs.length rs.length) rs.length (Ws ((mvs W F s (xs.take 0)).2 ++ List.replicate (rs.length - 0) 0)) ∧ Kept (SS b v1 v2 B0) w (w.alloc (.cells (Ws (List.replicate rs.length 0)).toArray 37)) := by
    refine ⟨h.below ((Below.refl _ _).alloc (Nat.le_refl _) _), ?_, (Kept.refl _ _).alloc _⟩
    exact World.ownsRow_lit (base := B0) (e := 37) (size := 1) w (Ws (List.replicate rs.length 0)).toArray rs.length hB (by unfold maxLen; omega) (by simp [Ws])
  have START := Lib.hid start
  have HR := Lib.hid hr
  have HA := Lib.hid ha
  have HG := Lib.hid hg
  have HLEN := Lib.hid hlen
  have hn' : (rs.length : Int) ≤ 1000000000 := by omega
  clear start hr ha h hg hlen
  subst hv
  go_enter Try.func30, Try.ntmps30
  go_wp2_with fail
  clear mk
  go_loopw [15] (fun i wr => ∃ k : Nat, ∃ u2', k ≤ rs.length ∧ i = .int .i64 k ∧ Hid (MS wr b base q c v1 v2 t B0 gt u2' W F (mvs W F s (xs.take k)).1 ∧ wr.ownsRow B0 37 1 (.slice (some ⟨w.heap.size, 0, none⟩) rs.length rs.length) rs.length (Ws ((mvs W F s (xs.take k)).2 ++ List.replicate (rs.length - k) 0)) ∧ Kept (SS b v1 v2 B0) w wr)) (fun i _ => rs.length - (intOf i).toNat)
  case atStart => exact ⟨0, u2, Nat.zero_le _, rfl, START.out⟩
  case round =>
    obtain ⟨k, u2', hk, rfl, HK⟩ := hrel
    clear START
    by_cases hlt : k < rs.length
    · have hkx : k < xs.length := by rw [HLEN.out]; exact hlt
      have hrk := HR.out.kept HA.out HK.out.2.2
      obtain ⟨a, _, ho, hcell⟩ := hrk.rd.at (k := k) (u := .pointer (some rs[k])) (by simp [hlt])
      simp only [Value.slice.injEq] at ho
      obtain ⟨rfl, -⟩ := ho
      have hx := hrk.cell k rs[k] xs[k] (List.getElem?_eq_getElem hlt) (List.getElem?_eq_getElem hkx)
      have hxl := hrk.lt xs[k] (List.getElem_mem hkx)
      have hmv := move_any b base q c v1 v2 t B0 gt u2' W F _ xs[k] wr HK.out.1 HG.out hxl
      have hsn := mvs_snoc W F s (xs.take k) xs[k]
      rw [← List.take_succ_eq_append_getElem hkx] at hsn
      have hk0 : (k : Int) < (rs.length : Int) := by omega
      have hl2 : (mvs W F s (xs.take k)).2.length = k := by rw [mvs_length, List.length_take]; omega
      have HMV := Lib.hid hmv
      have HSN := Lib.hid hsn
      have HL2 := Lib.hid hl2
      have hx' : (xs[k] : Int) ≤ 18446744073709551615 := by omega
      clear hmv hsn hrk hl2
      generalize xs[k] = x at *
      generalize rs[k] = r at *
      generalize hq : mv W F (mvs W F s (xs.take k)).1 x = r0 at *
      have hrow : ∀ j, (Value.slice (some (⟨w.heap.size, 0, none⟩ : Addr)) rs.length rs.length).ownBlock = some j → ¬ S2 b v1 v2 t gt u2' j := by
        intro j hj hs
        simp only [Value.ownBlock, Option.some.injEq] at hj
        subst hj
        rcases hs with hs | hs | hs | hs
        · have := HK.out.1.far _ hs; omega
        · omega
        · omega
        · exact row_type HK.out.2.1 HK.out.1.to.own2 (by decide) hs
      have HROW := Lib.hid hrow
      clear hq hrow
      go_wp2_with fail
      refine HMV.out.mono ?_
      rintro e w3 ⟨rfl, u3, hM3, hK3⟩
      have hown3 := own_kept HK.out.2.1 hK3 HROW.out
      have hst := (hown3.stored k (.int .u64 (r0.2 : Int))).1
      have hfree := hown3.frozenAt k
      obtain ⟨ov, hov⟩ : ∃ ov, w3.cell? ⟨w.heap.size, k, none⟩ = some ov := by
        rw [hown3.cellAt k (by omega)]
        exact ⟨_, List.getElem?_eq_getElem (by rw [hown3.1]; omega)⟩
      have fin : MS (w3.setCell ⟨w.heap.size, k, none⟩ (.int .u64 (r0.2 : Int))) b base q c v1 v2 t B0 gt u3 W F (mvs W F s (xs.take (k + 1))).1 ∧ (w3.setCell ⟨w.heap.size, k, none⟩ (.int .u64 (r0.2 : Int))).ownsRow B0 37 1 (.slice (some ⟨w.heap.size, 0, none⟩) rs.length rs.length) rs.length (Ws ((mvs W F s (xs.take (k + 1))).2 ++ List.replicate (rs.length - (k + 1)) 0)) ∧ Kept (SS b v1 v2 B0) w (w3.setCell ⟨w.heap.size, k, none⟩ (.int .u64 (r0.2 : Int))) := by
        rw [HSN.out]
        refine ⟨⟨hM3.h.setOther (fun hs => by have := hM3.far _ hs; omega), hM3.to.setOther (fun hs => ?_), hM3.inv, hM3.far, hM3.tB, by have := hM3.size; simpa using this⟩, ?_, ?_⟩
        · rcases hs with hs | hs | hs
          · omega
          · simp only [Value.ownBlock, Option.some.injEq] at hs; omega
          · exact row_type hown3 hM3.to.own2 (by decide) hs
        · have e : ((mvs W F s (xs.take k)).2 ++ List.replicate (rs.length - k) 0).set k r0.2 = (mvs W F s (xs.take k)).2 ++ [r0.2] ++ List.replicate (rs.length - (k + 1)) 0 := by
            obtain ⟨m, hm⟩ : ∃ m, rs.length - k = m + 1 := ⟨rs.length - k - 1, by omega⟩
            rw [hm, show rs.length - (k + 1) = m by omega, List.replicate_succ, List.set_append_right _ _ (by rw [HL2.out]; exact Nat.le_refl _), HL2.out, Nat.sub_self, List.set_cons_zero, List.append_assoc, List.singleton_append]
          rw [← e, Ws_set]
          exact hst
        · exact Kept.setCell (p := ⟨w.heap.size, k, none⟩) (HK.out.2.2.trans (hK3.weak fun j _ hj => HK.out.1.s2 j hj)) (.inl (.inr hB)) _
      have FIN := Lib.hid fin
      clear fin hst hown3 hM3 hK3
      go_wp2_with fail
      go_roundw
      case rel => exact ⟨k + 1, u3, by omega, by go_num, FIN.out⟩
      case measure => simp [intOf]; omega
    · obtain rfl : k = rs.length := by omega
      have hk := HK.out
      rw [show rs.length - rs.length = 0 by omega, List.replicate_zero, List.append_nil, ← HLEN.out, List.take_length] at hk
      have hml := mvs_length W F s xs
      have fin : RootsPost w wr b base q c v1 v2 t B0 gt W F (mvs W F s xs) (.returned (.slice (some ⟨w.heap.size, 0, none⟩) rs.length rs.length)) := by
        refine ⟨w.heap.size, u2', by rw [hml, HLEN.out], hk.1, ?_, by omega, by omega, hk.2.2⟩
        rw [hml]
        exact hk.2.1
      have FIN := Lib.hid fin
      clear hk hml fin HK
      go_wp2_with fail
      go_ret
      exact FIN.out
end Go.Proofs.Ytkdhajiplonloaa
