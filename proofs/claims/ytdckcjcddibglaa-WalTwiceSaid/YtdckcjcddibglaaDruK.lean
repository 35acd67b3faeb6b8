/- Texts and slices cut, for all worlds. -/
import Derived.Test.YtdckcjcddibglaaDruJ
namespace Go.Proofs.Ytdckcjcddibglaa
open Go.RowKit

theorem cutH {w : World} {v : Value} {l : List UInt8} (h : Rd w v l) (k : Nat) (hk : k ≤ l.length) :
    ∃ SV, (∀ W : World, (Instr.slice 22 v none (some (.int .i64 (k : Int))) none).run Try.prog W = .ok SV W) ∧ ∀ W : World, Rd W v l → Rd W SV (l.take k) := by
  have ht : Try.prog.underlying 22 = some (.slice (Try.prog.elem 22)) := by kernel_rfl
  obtain ⟨o, c, rfl, hlc⟩ : ∃ o c, v = .slice o l.length c ∧ l.length ≤ c := by
    rcases h with ⟨rfl, rfl⟩ | ⟨_, c, rfl, hc, _⟩
    · exact ⟨_, _, rfl, by simp⟩
    · exact ⟨_, _, rfl, hc⟩
  refine ⟨sliced o 0 k c 1, fun W => ?_, fun W hW => ?_⟩
  · rw [run_slice_h W _ o _ c ht .i64 k (by omega) (by omega), sizeByteD]
    show Result.ok (sliced o 0 (k : Int).toNat c 1) W = _
    rw [Int.toNat_natCast]
  · have hl2 : (l.take k).length = k := by rw [List.length_take]; omega
    unfold sliced
    rcases hW with ⟨hv, hl0⟩ | ⟨a, c', hv, h1, h2, h3⟩
    · injection hv with e1 e2 e3
      subst e1 e3 hl0
      simp at hk
      subst hk
      exact .inl ⟨rfl, rfl⟩
    · injection hv with e1 e2 e3
      subst e1 e3
      have hcell : ∀ j u, (l.take k)[j]? = some u → W.cell? (a.add j) = some (B u) := fun j u hj => by
        have hjk : j < k := by
          have := (List.getElem?_eq_some_iff.1 hj).1
          omega
        rw [List.getElem?_take, if_pos hjk] at hj
        exact h3 j u hj
      by_cases hck : c = 0
      · rw [if_pos hck]
        refine .inr ⟨a, c - 0, by rw [hl2]; rfl, by omega, by omega, hcell⟩
      · rw [if_neg hck]
        refine .inr ⟨a.add (0 * 1), c - 0, by rw [hl2]; rfl, by omega, by omega, fun j u hj => ?_⟩
        have : (a.add (0 * 1)).add j = a.add j := by
          obtain ⟨b, off, spot⟩ := a
          cases spot <;> simp [Addr.add]
        rw [this]
        exact hcell j u hj

/-- A text cut. -/
theorem cutT (l : List UInt8) (k : Nat) (hk : k ≤ l.length) (W : World) :
    (Instr.slice 9 (.string ⟨l.toArray⟩) none (some (.int .i64 (k : Int))) none).run Try.prog W = .ok (.string ⟨(l.take k).toArray⟩) W := by
  rw [run_slice_string_h (P := Try.prog) W 9 ⟨l.toArray⟩ Try.underlying9 .i64 (k : Int) (by omega) (by simp [ByteArray.size]; omega)]
  congr 2
  apply ByteArray.ext
  rw [ByteArray.data_extract]
  simp

theorem cutTl (l : List UInt8) (k : Nat) (hk : k ≤ l.length) (W : World) :
    (Instr.slice 9 (.string ⟨l.toArray⟩) (some (.int .i64 (k : Int))) none none).run Try.prog W = .ok (.string ⟨(l.drop k).toArray⟩) W := by
  rw [run_slice_string_l (P := Try.prog) W 9 ⟨l.toArray⟩ Try.underlying9 .i64 (k : Int) (by omega) (by simp [ByteArray.size]; omega)]
  congr 2
  apply ByteArray.ext
  rw [ByteArray.data_extract]
  apply Array.ext'
  simp only [ByteArray.size, List.size_toArray, Int.toNat_natCast, List.extract_toArray, List.extract_eq_take_drop]
  exact List.take_of_length_le (by simp)

theorem lenT (l : List UInt8) (W : World) : (Builtin.len_ #[9] 3 #[.string ⟨l.toArray⟩]).run Try.prog W = .ok (.int .i64 (l.length : Int)) W := by
  simp [go_sem, ByteArray.size]

end Go.Proofs.Ytdckcjcddibglaa
