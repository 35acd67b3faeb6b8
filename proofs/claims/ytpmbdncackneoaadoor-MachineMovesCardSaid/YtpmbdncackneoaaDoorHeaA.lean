/- A text that was put is read; the law's example. -/
import Derived.Test.YtpmbdncackneoaaDoorHeaR
namespace Go.Proofs.YtpmbdncackneoaaDoor
open Go.RowKit HeaM

theorem txt_put (A Z : List Nat) (X : Nat) (l : List UInt8) : txt (A ++ X :: (pk l ++ Z)) A.length l.length = l := by
  apply List.ext_getElem (by rw [txt_length])
  intro j h1 h2
  simp only [txt, List.getElem_map, List.getElem_range]
  have hw : j / 8 < nw l.length := by unfold nw; omega
  have e : (A ++ X :: (pk l ++ Z)).getD (A.length + (1 + j / 8)) 0 = wd l l.length (j / 8) := by
    rw [List.getD_eq_getElem?_getD, List.getElem?_append_right (by omega), show A.length + (1 + j / 8) - A.length = j / 8 + 1 by omega, List.getElem?_cons_succ, List.getElem?_append_left (by rw [pk_length]; exact hw)]
    unfold pk
    rw [pkTo_get l _ _ hw]
    rfl
  rw [e]
  apply UInt8.toNat_inj.1
  rw [UInt8.toNat_ofNat']
  exact wd_byte l j h2

theorem objAt_put (A Z : List Nat) (FA FZ : List Bool) (l : List UInt8) (hF : FA.length = A.length) (hl : l.length ≤ 1000000) :
    ObjAt (A ++ (l.length * 256 + 3) :: (pk l ++ Z)) (FA ++ true :: (List.replicate (nw l.length) false ++ FZ)) A.length (l.length * 256 + 3) 3 l.length (need 3 l.length) where
  mark := by rw [← hF, List.getElem?_append_right (Nat.le_refl _)]; simp
  get := by rw [List.getElem?_append_right (Nat.le_refl _)]; simp
  lt := by omega
  kind := by omega
  size := by omega
  need := rfl
  fits := by
    show A.length + (1 + (l.length + 7) / 8) ≤ _
    simp only [List.length_append, List.length_cons, pk_length]
    unfold nw
    omega
theorem pk_lt (l : List UInt8) : ∀ x ∈ pk l, x < 18446744073709551616 := by
  intro x hx
  simp only [pk, pkTo, List.mem_map] at hx
  obtain ⟨i, _, rfl⟩ := hx
  exact wd_lt _ _ _

/-- Text of what was put at the place A.length. -/
theorem text_put (b base q c : Nat) (v1 v2 : Value) (A Z : List Nat) (FA FZ : List Bool) (l : List UInt8) (w : World) (h : HAt w b base q c v1 v2 (A ++ (l.length * 256 + 3) :: (pk l ++ Z)) (FA ++ true :: (List.replicate (nw l.length) false ++ FZ))) (hF : FA.length = A.length) (hZ : FZ.length = Z.length) (hl : l.length ≤ 1000000) (hW : A.length + Z.length ≤ 10000000)
    (hA : ∀ x ∈ A, x < 18446744073709551616) (hZl : ∀ x ∈ Z, x < 18446744073709551616) :
    Calls Tryd.prog 59 #[.pointer (some ⟨b, 0, none⟩), .int .u64 ((2 * A.length : Nat) : Int)] w fun e w' => e = .returned (S l) ∧ Below w.heap.size w w' := by
  have hn : nw l.length ≤ 1000000 := by unfold nw; omega
  have h1 := text_t b base q c v1 v2 _ _ A.length _ l.length _ w h (objAt_put A Z FA FZ l hF hl) (by simp [pk_length, hF, hZ]) (by simp only [List.length_append, List.length_cons, pk_length]; omega) (by
    intro x hx
    simp only [List.mem_append, List.mem_cons] at hx
    rcases hx with hx | rfl | hx | hx
    · exact hA x hx
    · omega
    · exact pk_lt l x hx
    · exact hZl x hx)
  rw [txt_put] at h1
  exact h1

end Go.Proofs.YtpmbdncackneoaaDoor
