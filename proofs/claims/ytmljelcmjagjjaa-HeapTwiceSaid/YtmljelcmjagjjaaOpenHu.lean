/- A row of numbers, opened. -/
import Derived.Test.YtmljelcmjagjjaaOpenH
namespace Go.Proofs.Ytmljelcmjagjjaa
open Go.ChangeShapes Go.WideShapes Go.ChangeAt Go.RowKit

theorem open_u64s {H : Type} {enc : TypeId × Value → H} {W : World} {base : Nat} {v : Value} {d : DataW H} {p : List MemPlace} {ts : List TypeId} {ds : List (DataW H)} {j : Nat}
    (hv : Value.okWide Try.prog W .any base 34 v) (h : DataW.Trod enc Try.prog W 0 (fun _ => true) true 34 v d p)
    (_hsz : (DataW.weightsEach Try.prog ts ds).all (· ≤ reachBytes) = true) (_ht : ts[j]? = some 34) (_hd : ds[j]? = some d) : ∃ l : List Nat, RdW W v l ∧ ∀ x ∈ l, x < 18446744073709551616 := by
  obtain ⟨a, len, cap, rfl⟩ := okWide_slice Try.underlying34 hv
  obtain ⟨fuel, hf⟩ := h
  rcases open_ints Try.underlying34 Try.underlying22 (by kernel_rfl) hf with ⟨hcs, hx⟩ | ⟨x, len', cap', zs, hcs, _, hl, hm, hz, hx, hcell, hwz⟩
  · simp only [Value.cells] at hcs
    simp at hcs
    obtain ⟨rfl, rfl, rfl⟩ := hcs
    exact ⟨[], .inl ⟨rfl, rfl⟩, by simp⟩
  · simp only [Value.cells] at hcs
    simp at hcs
    obtain ⟨rfl, rfl, rfl⟩ := hcs
    simp only [if_true] at hz
    have hlen : (zs.take len).length = len := by rw [List.length_take]; omega
    refine ⟨(zs.take len).map fun z => z.toNat, .inr ⟨x, cap, by rw [Ws_length, List.length_map, hlen], by rw [Ws_length, List.length_map, hlen]; exact hl, hm, fun i u hu => ?_⟩, fun y hy => ?_⟩
    · have hi : i < len := by
        have := (List.getElem?_eq_some_iff.1 hu).1
        rw [Ws_length, List.length_map, hlen] at this
        exact this
      rw [hcell i (by omega)]
      have hw := bounds_u64 (hwz (zs[i]'(by omega)) (List.getElem_mem _))
      have e1 : zs.getD i 0 = zs[i]'(by omega) := by simp [List.getD, show i < zs.length by omega]
      unfold Ws at hu
      rw [List.getElem?_map, List.getElem?_map, List.getElem?_take, if_pos hi, List.getElem?_eq_getElem (by omega)] at hu
      simp only [Option.map_some, Option.some.injEq] at hu
      rw [e1, ← hu]
      unfold Wv
      rw [Int.toNat_of_nonneg hw.1]
    · obtain ⟨z, hz2, rfl⟩ := List.mem_map.1 hy
      have hw := bounds_u64 (hwz z (List.mem_of_mem_take hz2))
      omega
end Go.Proofs.Ytmljelcmjagjjaa
