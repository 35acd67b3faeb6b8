/- A row of words opened. -/
import Derived.Test.YtlfnblgpekilnaaOpenA
import Derived.Test.YtlfnblgpekilnaaSesW
namespace Go.Proofs.Ytlfnblgpekilnaa
open Go.ChangeShapes Go.WideShapes Go.ChangeAt Go.RowKit

theorem open_words {H : Type} {enc : TypeId × Value → H} {W : World} {base : Nat} {v : Value} {d : DataW H} {p : List MemPlace} {ts : List TypeId} {ds : List (DataW H)} {j : Nat}
    (hv : Value.okWide Try.prog W .any base 46 v) (h : DataW.Trod enc Try.prog W 0 (fun _ => true) true 46 v d p)
    (_hsz : (DataW.weightsEach Try.prog ts ds).all (· ≤ reachBytes) = true) (_ht : ts[j]? = some 46) (_hd : ds[j]? = some d) : ∃ l, RdW W v l := by
  obtain ⟨a, len, cap, rfl⟩ := okWide_slice Try.underlying46 hv
  obtain ⟨fuel, hf⟩ := h
  rcases open_ints Try.underlying46 Try.underlying30 (by kernel_rfl) hf with ⟨hcs, _⟩ | ⟨x, len', cap', zs, hcs, _, hl, hm, hz, _, hcell, hwz⟩
  · simp only [Value.cells] at hcs
    simp at hcs
    obtain ⟨rfl, rfl, rfl⟩ := hcs
    exact ⟨[], none, 0, rfl, fun j x hx => by simp at hx⟩
  · simp only [Value.cells] at hcs
    simp at hcs
    obtain ⟨rfl, rfl, rfl⟩ := hcs
    simp only [if_true] at hz
    have hlen : (zs.take len).length = len := by rw [List.length_take]; omega
    refine ⟨(zs.take len).map Int.toNat, some x, cap, by rw [List.length_map, hlen], fun i u hu => ?_⟩
    have hi : i < len := by
      have := (List.getElem?_eq_some_iff.1 hu).1
      rw [List.length_map, hlen] at this
      exact this
    have hc := hcell i (by omega)
    have hb := bounds_u64 (hwz (zs[i]'(by omega)) (List.getElem_mem _))
    have e0 : u = (zs[i]'(by omega)).toNat := by
      rw [List.getElem?_map, List.getElem?_take, if_pos hi, List.getElem?_eq_getElem (by omega)] at hu
      simpa using hu.symm
    have e1 : zs.getD i 0 = (u : Int) := by
      rw [List.getD_eq_getElem?_getD, List.getElem?_eq_getElem (by omega), e0]
      show zs[i] = _
      omega
    rw [e1] at hc
    have hspot : x.spot = none := by
      have h := World.cell?_spot (hcell 0 (by omega))
      unfold Addr.add at h
      rw [if_pos rfl] at h
      exact h
    obtain ⟨b, off, spot⟩ := x
    obtain rfl : spot = none := hspot
    rw [add_none] at hc
    exact ⟨⟨b, off, rfl, hc⟩, by rw [e0]; omega⟩
end Go.Proofs.Ytlfnblgpekilnaa
