/- parts of an object. -/
import Derived.Test.YtmljelcmjagjjaaHeaI
namespace Go.Proofs.Ytmljelcmjagjjaa
open Go.RowKit HeaM

def PartsPost (w w' : World) (v1 : Value) (W : List Nat) (i N : Nat) (e : Ending) : Prop :=
  ∃ g cap A K nq, v1 = .slice (some ⟨g, 0, none⟩) W.length cap ∧ (N - 1 = 0 ∨ A = ⟨g, i + 1, none⟩) ∧ N - 1 ≤ K ∧ K ≤ maxLen ∧ e = .returned (.slice (some A) (N - 1) K) ∧ w' = w.drewN nq

set_option maxHeartbeats 2000000 in
set_option maxRecDepth 100000 in
theorem parts_text (b base q c : Nat) (v1 v2 : Value) (W : List Nat) (F : List Bool) (i X n N : Nat) (w : World) (h : HAt w b base q c v1 v2 W F) (hO : ObjAt W F i X 3 n N) (hF : F.length = W.length) (hW : W.length ≤ 1000000000) :
    Calls Try.prog 44 #[.pointer (some ⟨b, 0, none⟩), .int .u64 ((2 * i : Nat) : Int)] w fun e w' => e = .returned (.slice none 0 0) ∧ ∃ nq, w' = w.drewN nq := by
  have hpos := hO.pos
  have hfit := hO.fits
  have hXlt := hO.lt
  have HO := Lib.hid (object_t b base q c v1 v2 W F i X 3 n N w h hO hF hW)
  have HK := Lib.hid hO.kind
  obtain ⟨g, cap, hv1, hcap, hmax⟩ : ∃ g cap, v1 = .slice (some ⟨g, 0, none⟩) W.length cap ∧ W.length ≤ cap ∧ cap ≤ maxLen := by
    rcases h.own1.2 with ⟨_, hn⟩ | ⟨g, cap, cur, e, _, _, hc, hm, _⟩
    · omega
    · exact ⟨g, cap, e, hc, hm⟩
  have own1 := h.own1
  rw [hv1] at own1
  have hm : w.cell? ⟨g, i, none⟩ = some (.int .u64 (X : Int)) := by
    rw [own1.cellAt i (by omega)]
    simp [Ws, hO.get, Wv]
  have hgl := (own1.lt g rfl).2
  have HV := Lib.hid hv1
  clear h hO own1 hv1
  have hX' : (X : Int) ≤ 18446744073709551615 := by omega
  have hNz : ((N : Int) == 0) = false := by rw [beq_eq_false_iff_ne]; omega
  have hNp : 0 < N := by omega
  go_enter Try.func44, Try.ntmps44
  go_wp2_with fail
  refine HO.out.mono ?_
  rintro e w' ⟨g', cap', nq, hv, -, -, rfl, rfl⟩
  rw [HV.out] at hv
  simp only [Value.slice.injEq, Option.some.injEq, Addr.mk.injEq, and_true] at hv
  obtain ⟨rfl, -, rfl⟩ := hv
  have hmq := ((below_drewN w.heap.size nq w).cell (p := ⟨g, i, none⟩) hgl).trans hm
  go_wp2_with fail
  refine (kind_k X 3 _ hXlt HK).mono ?_
  rintro e w' ⟨rfl, rfl⟩
  go_wp2_with fail
  go_ret
  exact ⟨rfl, nq, rfl⟩

set_option maxHeartbeats 2000000 in
set_option maxRecDepth 100000 in
theorem parts_t (b base q c : Nat) (v1 v2 : Value) (W : List Nat) (F : List Bool) (i X k n N : Nat) (w : World) (h : HAt w b base q c v1 v2 W F) (hO : ObjAt W F i X k n N) (hF : F.length = W.length) (hW : W.length ≤ 1000000000) (hk3 : k ≠ 3) :
    Calls Try.prog 44 #[.pointer (some ⟨b, 0, none⟩), .int .u64 ((2 * i : Nat) : Int)] w fun e w' => PartsPost w w' v1 W i N e := by
  have hpos := hO.pos
  have hfit := hO.fits
  have hXlt := hO.lt
  have HO := Lib.hid (object_t b base q c v1 v2 W F i X k n N w h hO hF hW)
  have HK := Lib.hid hO.kind
  obtain ⟨g, cap, hv1, hcap, hmax⟩ : ∃ g cap, v1 = .slice (some ⟨g, 0, none⟩) W.length cap ∧ W.length ≤ cap ∧ cap ≤ maxLen := by
    rcases h.own1.2 with ⟨_, hn⟩ | ⟨g, cap, cur, e, _, _, hc, hm, _⟩
    · omega
    · exact ⟨g, cap, e, hc, hm⟩
  have own1 := h.own1
  rw [hv1] at own1
  have hm : w.cell? ⟨g, i, none⟩ = some (.int .u64 (X : Int)) := by
    rw [own1.cellAt i (by omega)]
    simp [Ws, hO.get, Wv]
  have hgl := (own1.lt g rfl).2
  have HV := Lib.hid hv1
  clear h hO own1 hv1
  have hX' : (X : Int) ≤ 18446744073709551615 := by omega
  have hNz : ((N : Int) == 0) = false := by rw [beq_eq_false_iff_ne]; omega
  have hNp : 0 < N := by omega
  have hNi : (1 : Int) ≤ (N : Int) := by omega
  have hk' : ((k : Int) == 3) = false := by rw [beq_eq_false_iff_ne]; omega
  unfold maxLen at hmax
  have fin1 : ∀ nq, cap - i = 1 → PartsPost w (w.drewN nq) v1 W i N (.returned (.slice (some ⟨g, i, none⟩) 0 0)) := fun nq h1 => ⟨g, cap, ⟨g, i, none⟩, 0, nq, HV.out, .inl (by omega), by omega, Nat.zero_le _, by rw [show N - 1 = 0 by omega], rfl⟩
  have fin2 : ∀ nq, PartsPost w (w.drewN nq) v1 W i N (.returned (.slice (some ⟨g, i + 1, none⟩) (N - 1) (cap - i - 1))) := fun nq => ⟨g, cap, _, _, nq, HV.out, .inr rfl, by omega, by unfold maxLen; omega, rfl, rfl⟩
  have FIN1 := Lib.hid fin1
  have FIN2 := Lib.hid fin2
  clear fin1 fin2 hk3
  by_cases hc1 : cap - i = 1
  · obtain rfl : N = 1 := by omega
    have HC1 : Hid (cap - i = 1) := hc1
    go_enter Try.func44, Try.ntmps44
    go_wp2_with fail
    refine HO.out.mono ?_
    rintro e w' ⟨g', cap', nq, hv, -, -, rfl, rfl⟩
    rw [HV.out] at hv
    simp only [Value.slice.injEq, Option.some.injEq, Addr.mk.injEq, and_true] at hv
    obtain ⟨rfl, -, rfl⟩ := hv
    have hmq := ((below_drewN w.heap.size nq w).cell (p := ⟨g, i, none⟩) hgl).trans hm
    go_wp2_with fail
    refine (kind_k X k _ hXlt HK).mono ?_
    rintro e w' ⟨rfl, rfl⟩
    go_wp2_with fail
    go_ret
    exact FIN1.out nq HC1.out
  · go_enter Try.func44, Try.ntmps44
    go_wp2_with fail
    refine HO.out.mono ?_
    rintro e w' ⟨g', cap', nq, hv, -, -, rfl, rfl⟩
    rw [HV.out] at hv
    simp only [Value.slice.injEq, Option.some.injEq, Addr.mk.injEq, and_true] at hv
    obtain ⟨rfl, -, rfl⟩ := hv
    have hmq := ((below_drewN w.heap.size nq w).cell (p := ⟨g, i, none⟩) hgl).trans hm
    go_wp2_with fail
    refine (kind_k X k _ hXlt HK).mono ?_
    rintro e w' ⟨rfl, rfl⟩
    go_wp2_with fail
    go_ret
    exact FIN2.out nq
end Go.Proofs.Ytmljelcmjagjjaa
