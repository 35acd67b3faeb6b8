/- A text that was put is read; the law's example. -/
import Derived.Test.YtkdhajiplonloaaHeaR
namespace Go.Proofs.Ytkdhajiplonloaa
open Go.RowKit HeaM

theorem txt_put (A Z : List Nat) (X : Nat) (l : List UInt8) : txt (A ++ X :: (pk l ++ Z)) A.length l.length = l := by
  apply List.ext_getElem (by rw [txt_length])
  intro j h1 h2
  simp only [txt, List.getElem_map, List.getElem_range]
  have hw : j / 8 < nw l.length := by unfold nw; omega
  have e : (A ++ X :: (pk l ++ Z)).getD (A.length + (1 + j / 8)) 0 = wd l l.length (j / 8) := by
    rw [List.getD_eq_getElem?_getD, List.getElem?_append_right (by omega), show A.length + (1 + j / 8) - A.length = j / 8 + 1 by omega, List.getElem?_cons_succ, List.getElem?_append_left (by rw [pk_length]; exact hw)]
    unfold pk
    rw [pkTo_get l _ _ hw]
    rfl
  rw [e]
  apply UInt8.toNat_inj.1
  rw [UInt8.toNat_ofNat']
  exact wd_byte l j h2

theorem objAt_put (A Z : List Nat) (FA FZ : List Bool) (l : List UInt8) (hF : FA.length = A.length) (hl : l.length ≤ 1000000) :
    ObjAt (A ++ (l.length * 256 + 3) :: (pk l ++ Z)) (FA ++ true :: (List.replicate (nw l.length) false ++ FZ)) A.length (l.length * 256 + 3) 3 l.length (need 3 l.length) where
  mark := by rw [← hF, List.getElem?_append_right (Nat.le_refl _)]; simp
  get := by rw [List.getElem?_append_right (Nat.le_refl _)]; simp
  lt := by omega
  kind := by omega
  size := by omega
  need := rfl
  fits := by
    show A.length + (1 + (l.length + 7) / 8) ≤ _
    simp only [List.length_append, List.length_cons, pk_length]
    unfold nw
    omega
theorem pk_lt (l : List UInt8) : ∀ x ∈ pk l, x < 18446744073709551616 := by
  intro x hx
  simp only [pk, pkTo, List.mem_map] at hx
  obtain ⟨i, _, rfl⟩ := hx
  exact wd_lt _ _ _

/-- Text of what was put at the place A.length. -/
theorem text_put (b base q c : Nat) (v1 v2 : Value) (A Z : List Nat) (FA FZ : List Bool) (l : List UInt8) (w : World) (h : HAt w b base q c v1 v2 (A ++ (l.length * 256 + 3) :: (pk l ++ Z)) (FA ++ true :: (List.replicate (nw l.length) false ++ FZ))) (hF : FA.length = A.length) (hZ : FZ.length = Z.length) (hl : l.length ≤ 1000000) (hW : A.length + Z.length ≤ 10000000)
    (hA : ∀ x ∈ A, x < 18446744073709551616) (hZl : ∀ x ∈ Z, x < 18446744073709551616) :
    Calls Try.prog 22 #[.pointer (some ⟨b, 0, none⟩), .int .u64 ((2 * A.length : Nat) : Int)] w fun e w' => e = .returned (S l) ∧ Below w.heap.size w w' := by
  have hn : nw l.length ≤ 1000000 := by unfold nw; omega
  have h1 := text_t b base q c v1 v2 _ _ A.length _ l.length _ w h (objAt_put A Z FA FZ l hF hl) (by simp [pk_length, hF, hZ]) (by simp only [List.length_append, List.length_cons, pk_length]; omega) (by
    intro x hx
    simp only [List.mem_append, List.mem_cons] at hx
    rcases hx with hx | rfl | hx | hx
    · exact hA x hx
    · omega
    · exact pk_lt l x hx
    · exact hZl x hx)
  rw [txt_put] at h1
  exact h1

set_option maxHeartbeats 2000000 in
set_option maxRecDepth 100000 in
theorem awake (w : World) : Calls Try.prog 4 #[] w fun e w' => e = .returned (.bool true) ∧ Below w.heap.size w w' := by
  have h0 := HAt.fresh w 2
  have c1 := puttext_room w.heap.size w.heap.size 2 0 _ _ [] [] ⟨#[97, 98, 99]⟩ (.slice none 0 0) _ h0 (by omega) (by simp) (by decide) rfl (by decide)
  have HB0 : Hid (Below w.heap.size w (w.alloc (emptyHeap 2))) := (Below.refl _ _).alloc (Nat.le_refl _) _
  have C1 := Lib.hid c1
  clear c1 h0
  have hsz : (w.alloc (emptyHeap 2)).heap.size = w.heap.size + 1 := by simp
  go_enter Try.func4, Try.ntmps4
  go_wp2_with fail
  refine (new_ok 2 _ (by omega) (by omega)).mono ?_
  rintro e w' ⟨rfl, rfl⟩
  go_wp2_with fail
  refine C1.out.mono ?_
  rintro e w1 ⟨rfl, u1, u2, hP⟩
  have hT := text_put w.heap.size w.heap.size 2 0 u1 u2 [] [] [] [] [97, 98, 99] w1 (by rw [List.append_nil, List.append_nil]; exact hP.at_) rfl rfl (by simp) (by simp) (by simp) (by simp)
  have HT := Lib.hid hT
  have HP := Lib.hid hP
  clear hT hP
  go_wp2_with fail
  refine HT.out.mono ?_
  rintro e w2 ⟨rfl, hb2⟩
  have c2 := puttext_none w.heap.size w.heap.size 2 0 u1 u2 _ _ ⟨#[120, 121, 122]⟩ w2 (HP.out.at_.below hb2 (Nat.le_refl _)) (by omega) (by have := HP.out.kept.size; have := hb2.size; simp at *; omega) (by decide) (by decide) (by decide) (by omega) (by decide) (by decide)
  have C2 := Lib.hid c2
  have HB2 := Lib.hid hb2
  clear c2 hb2
  unfold S
  go_wp2_with fail
  refine C2.out.mono ?_
  rintro e w3 ⟨rfl, x1, x2, hQ⟩
  have hT := text_put w.heap.size w.heap.size 2 1 x1 x2 [] [] [] [] [120, 121, 122] w3 (by rw [List.append_nil, List.append_nil]; exact hQ.at_) rfl rfl (by simp) (by simp) (by simp) (by simp)
  have HT3 := Lib.hid hT
  have HQ := Lib.hid hQ
  clear hT hQ
  unfold S at HT3
  go_wp2_with fail
  refine HT3.out.mono ?_
  rintro e w4 ⟨rfl, hb4⟩
  have HB4 := Lib.hid hb4
  have h4 := HQ.out.at_.below hb4 (Nat.le_refl _)
  have HU := Lib.hid (used_t _ _ _ _ _ _ _ _ _ h4)
  have HCo := Lib.hid (collections_t _ _ _ _ _ _ _ _ _ h4)
  have el : (((⟨#[120, 121, 122]⟩ : ByteArray).size * 256 + 3) :: pk (⟨#[120, 121, 122]⟩ : ByteArray).data.toList).length = 2 := by decide
  have HEL := Lib.hid el
  clear el h4 hb4
  go_wp2_with fail
  refine HU.out.mono ?_
  rw [HEL.out]
  rintro e w' ⟨rfl, rfl⟩
  go_wp2_with fail
  refine HCo.out.mono ?_
  rintro e w' ⟨rfl, rfl⟩
  go_wp2
  go_ret
  refine ⟨rfl, ?_⟩
  have k1 : Below w.heap.size w w1 := HB0.out.trans (HP.out.kept.below (by simp) (by intro k hk; rcases hk with rfl | hk | hk <;> simp [Value.ownBlock] at *))
  have k2 := k1.trans (HB2.out.mono k1.size)
  have k3 : Below w.heap.size w2 w3 := HQ.out.kept.below k2.size (fun k hk => by
    rcases HP.out.new k hk with h | h
    · rcases h with rfl | h | h
      · exact Nat.le_refl _
      · simp [Value.ownBlock] at h
      · simp [Value.ownBlock] at h
    · simp at h; omega)
  exact (k2.trans k3).trans (HB4.out.mono (k2.trans k3).size)
end Go.Proofs.Ytkdhajiplonloaa
