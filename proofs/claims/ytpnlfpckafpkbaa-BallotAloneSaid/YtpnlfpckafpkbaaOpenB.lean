/- Rows of bytes that came in, opened. -/
import Derived.Test.YtpnlfpckafpkbaaBalP
import Derived.Test.YtpnlfpckafpkbaaOpenA
import Derived.Deep.Matrix
namespace Go.Proofs.Ytpnlfpckafpkbaa
open Go.ChangeShapes Go.WideShapes Go.ChangeAt Go.RowKit OctM

set_option maxRecDepth 100000 in
theorem open_bbs {H : Type} {enc : TypeId × Value → H} {W : World} {base : Nat} {v : Value} {d : DataW H} {p : List MemPlace} {ts : List TypeId} {ds : List (DataW H)} {j : Nat}
    (hv : Value.okWide Try.prog W .any base 64 v) (h : DataW.Trod enc Try.prog W 0 (fun _ => true) true 64 v d p)
    (_hsz : (DataW.weightsEach Try.prog ts ds).all (· ≤ reachBytes) = true) (_ht : ts[j]? = some 64) (_hd : ds[j]? = some d) : ∃ cs, RdBB W v cs := by
  obtain ⟨a, len, cap, rfl⟩ := okWide_slice Try.underlying64 hv
  obtain ⟨fuel, hf⟩ := h
  rcases Go.Deep.open_int_rows Try.underlying64 Try.underlying35 Try.underlying5 (by kernel_rfl) (by kernel_rfl) hf with ⟨hcs, _⟩ | ⟨x, len', cap', A, L, C, Z, hcs, _, hl, hm, _, hrow⟩
  · simp only [Value.cells] at hcs
    simp at hcs
    obtain ⟨rfl, rfl, rfl⟩ := hcs
    exact ⟨[], .inl ⟨_, _, rfl, rfl⟩⟩
  · simp only [Value.cells] at hcs
    simp at hcs
    obtain ⟨rfl, rfl, rfl⟩ := hcs
    rcases Nat.eq_zero_or_pos len with rfl | hpos
    · exact ⟨[], .inl ⟨_, _, rfl, rfl⟩⟩
    obtain ⟨b, off, spot⟩ := x
    obtain rfl : spot = none := by
      have h := World.cell?_spot (hrow 0 (by omega)).1
      unfold Addr.add at h
      rw [if_pos rfl] at h
      exact h
    refine ⟨(List.range len).map fun r => ((Z r).take (L r)).map fun z => UInt8.ofNat z.toNat, .inr ⟨b, off, cap, by simp, by simpa using hl, hm, fun i l hil => ?_⟩⟩
    rw [List.getElem?_map] at hil
    obtain ⟨r, hr, rfl⟩ := Option.map_eq_some_iff.1 hil
    have hri : r = i ∧ i < len := by
      have := List.getElem?_eq_some_iff.1 hr
      obtain ⟨h1, h2⟩ := this
      rw [List.getElem_range] at h2
      rw [List.length_range] at h1
      exact ⟨h2.symm, h1⟩
    obtain ⟨rfl, hrl⟩ := hri
    obtain ⟨hc, hLC, hCm, hZC, hwz, hA0, hA1⟩ := hrow r (by omega)
    rw [add_none] at hc
    refine ⟨_, hc, ?_⟩
    have hlen : ((Z r).take (L r)).length = L r := by rw [List.length_take]; omega
    rcases hAr : A r with _ | a'
    · have h0 := hA0 hAr
      have hL0 : L r = 0 := by omega
      have hC0 : C r = 0 := h0
      rw [hL0, hC0]
      exact .inl ⟨rfl, rfl⟩
    · refine .inr ⟨a', C r, by rw [List.length_map, hlen], by rw [List.length_map, hlen]; exact hLC, hCm, fun k u hu => ?_⟩
      have hk : k < L r := by
        have := (List.getElem?_eq_some_iff.1 hu).1
        rw [List.length_map, hlen] at this
        exact this
      rw [(hA1 a' hAr).2 k (by omega)]
      have hw := bounds_u8 (hwz ((Z r)[k]'(by omega)) (List.getElem_mem _))
      have e1 : (Z r).getD k 0 = (Z r)[k]'(by omega) := by simp [List.getD, show k < (Z r).length by omega]
      have e2 : u = UInt8.ofNat ((Z r)[k]'(by omega)).toNat := by
        rw [List.getElem?_map, List.getElem?_take, if_pos hk, List.getElem?_eq_getElem (by omega)] at hu
        simpa using hu.symm
      rw [e1, e2]
      have := B_ofNat ((Z r)[k]'(by omega)).toNat (by omega)
      rw [← this, Int.toNat_of_nonneg hw.1]
end Go.Proofs.Ytpnlfpckafpkbaa
