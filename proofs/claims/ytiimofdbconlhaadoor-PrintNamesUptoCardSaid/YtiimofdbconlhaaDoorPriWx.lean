/- How long a type's text is. -/
import Derived.Test.YtiimofdbconlhaaDoorPriWq
namespace Go.Proofs.YtiimofdbconlhaaDoor
open Go.RowKit PriM

/-- How long the texts of kids are together, with what stands between. -/
def tot : List (Nat × List UInt8) → Nat
  | [] => 0
  | p :: ps => p.2.length + 6 + tot ps

theorem inter_len (gap : List UInt8) (f : Nat × List UInt8 → List UInt8) (hg : gap.length ≤ 4) (hf : ∀ p, (f p).length + gap.length ≤ p.2.length + 6) :
    ∀ ps : List (Nat × List UInt8), (inter gap (ps.map f)).length ≤ tot ps
  | [] => Nat.le_refl _
  | [p] => by have := hf p; simp only [List.map_cons, List.map_nil, inter, tot]; omega
  | p :: q :: ps => by
    have h1 := hf p
    have h2 := inter_len gap f hg hf (q :: ps)
    simp only [List.map_cons, inter, List.length_append, tot] at h2 ⊢
    omega
theorem body_len (f : Int → List UInt8) (n : List UInt8) (v : Int) (ps : List (Nat × List UInt8)) (hv : (f v).length ≤ 26) : (body f n v ps).length ≤ n.length + tot ps + 26 := by
  have star := inter_len sStar (fun p => paren (p.1 != 0) p.2) (by decide) (fun p => by have := (paren_len (p.1 != 0) p.2).2; show _ + 3 ≤ _; omega) ps
  have comma := inter_len sComma (·.2) (by decide) (fun p => by show _ + 2 ≤ _; omega) ps
  unfold body
  split
  · omega
  split
  · next h1 =>
    obtain ⟨-, h1⟩ := h1
    match ps, h1 with
    | [p, q], _ =>
      have := (paren_len (p.1 == 1) p.2).2
      simp only [List.getD, List.getElem?_cons_zero, List.getElem?_cons_succ, Option.getD_some, List.length_append, tot]
      have : sArrow.length = 4 := rfl
      omega
  split
  · omega
  split
  · omega
  split
  · next h1 =>
    match ps, h1 with
    | [p], _ =>
      have := (paren_len (p.1 != 0) p.2).2
      simp only [List.getD, List.getElem?_cons_zero, Option.getD_some, List.length_append, List.length_cons, tot]
      omega
  · simp only [List.length_append, List.length_cons]
    omega

theorem vn_len (v : Int) (h0 : -9223372036854775808 ≤ v) (h1 : v ≤ 9223372036854775807) : (vn v).length ≤ 26 := by
  unfold vn
  split
  · simp
  · have := Lib.itoa_length_le v h0 h1
    simp only [List.length_cons]
    omega

mutual
theorem rT_len {n : Nat} {w : World} : ∀ (t : Ty) {c0 c1 c2 : Value}, TyV n w t c0 c1 c2 → (rT vn t).length + 14 ≤ wN t + 4 * wT t
  | .mk nm v ks, c0, c1, c2, ⟨_, _, h0, h1, o, cap, _, h⟩ => by
    have hb := body_len vn nm v (rTs vn ks) (vn_len v h0 h1)
    have hk : tot (rTs vn ks) ≤ wNs ks + 4 * wTs ks := by
      rcases h with rfl | ⟨b, off, _, _, _, _, hk⟩
      · exact Nat.zero_le _
      · exact rTs_len ks hk
    rw [wN_mk]
    unfold wT rT
    omega
theorem rTs_len {n b : Nat} {w : World} : ∀ (ts : List Ty) {off : Nat}, TysV n w ts b off → tot (rTs vn ts) ≤ wNs ts + 4 * wTs ts
  | [], _, _ => Nat.zero_le _
  | t :: ts, off, ⟨⟨c0, c1, c2, _, _, _, h⟩, hs⟩ => by
    have h1 := rT_len t h
    have h2 := rTs_len ts hs
    simp only [rTs, tot, wNs, wTs]
    omega
end
end Go.Proofs.YtiimofdbconlhaaDoor
