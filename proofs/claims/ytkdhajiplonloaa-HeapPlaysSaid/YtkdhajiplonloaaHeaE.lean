/- Texts one behind the other as words (plain). -/
import Derived.Test.YtkdhajiplonloaaHeaC
namespace Go.Proofs.Ytkdhajiplonloaa
open Go.RowKit HeaM

def enc1 (l : List UInt8) : List Nat := (l.length * 256 + 3) :: pk l
def mrk1 (l : List UInt8) : List Bool := true :: List.replicate (nw l.length) false
def encW (ls : List (List UInt8)) : List Nat := ls.flatMap enc1
def encF (ls : List (List UInt8)) : List Bool := ls.flatMap mrk1
/-- Where the texts stand: twice the index. -/
def places (ls : List (List UInt8)) (k : Nat) : List Nat := (List.range k).map fun i => 2 * (encW (ls.take i)).length

theorem enc1_length (l : List UInt8) : (enc1 l).length = 1 + nw l.length := by simp [enc1, pk_length]; omega
theorem mrk1_length (l : List UInt8) : (mrk1 l).length = 1 + nw l.length := by simp [mrk1]; omega
theorem encW_append (a b : List (List UInt8)) : encW (a ++ b) = encW a ++ encW b := by simp [encW]
theorem encF_append (a b : List (List UInt8)) : encF (a ++ b) = encF a ++ encF b := by simp [encF]
theorem encW_one (l : List UInt8) : encW [l] = enc1 l := by simp [encW]
theorem encF_one (l : List UInt8) : encF [l] = mrk1 l := by simp [encF]
theorem encFW (ls : List (List UInt8)) : (encF ls).length = (encW ls).length := by
  induction ls with
  | nil => rfl
  | cons l t ih =>
    have e1 : encF (l :: t) = mrk1 l ++ encF t := rfl
    have e2 : encW (l :: t) = enc1 l ++ encW t := rfl
    rw [e1, e2, List.length_append, List.length_append, ih, mrk1_length, enc1_length]
theorem encW_le (ls : List (List UInt8)) (h : ∀ l ∈ ls, l.length ≤ 1000) : (encW ls).length ≤ 126 * ls.length := by
  induction ls with
  | nil => simp [encW]
  | cons l t ih =>
    have e2 : encW (l :: t) = enc1 l ++ encW t := rfl
    have h1 := ih fun x hx => h x (List.mem_cons_of_mem _ hx)
    have h2 := h l (List.mem_cons_self ..)
    rw [e2, List.length_append, enc1_length, List.length_cons]
    unfold nw
    omega
theorem encW_lt (ls : List (List UInt8)) (h : ∀ l ∈ ls, l.length ≤ 1000) : ∀ x ∈ encW ls, x < 18446744073709551616 := by
  intro x hx
  simp only [encW, List.mem_flatMap] at hx
  obtain ⟨l, hl, hx⟩ := hx
  simp only [enc1, List.mem_cons] at hx
  rcases hx with rfl | hx
  · have := h l hl; omega
  · exact pk_lt l x hx
theorem encW_succ (ls : List (List UInt8)) (k : Nat) (hk : k < ls.length) : encW (ls.take (k + 1)) = encW (ls.take k) ++ (ls[k].length * 256 + 3) :: pk ls[k] := by
  rw [List.take_succ_eq_append_getElem hk, encW_append, encW_one]; rfl
theorem encF_succ (ls : List (List UInt8)) (k : Nat) (hk : k < ls.length) : encF (ls.take (k + 1)) = encF (ls.take k) ++ true :: List.replicate (nw ls[k].length) false := by
  rw [List.take_succ_eq_append_getElem hk, encF_append, encF_one]; rfl
theorem encW_split (ls : List (List UInt8)) (k : Nat) (hk : k < ls.length) : encW ls = encW (ls.take k) ++ (ls[k].length * 256 + 3) :: (pk ls[k] ++ encW (ls.drop (k + 1))) := by
  conv => lhs; rw [← List.take_append_drop k ls, List.drop_eq_getElem_cons hk]
  rw [encW_append]; rfl
theorem encF_split (ls : List (List UInt8)) (k : Nat) (hk : k < ls.length) : encF ls = encF (ls.take k) ++ true :: (List.replicate (nw ls[k].length) false ++ encF (ls.drop (k + 1))) := by
  conv => lhs; rw [← List.take_append_drop k ls, List.drop_eq_getElem_cons hk]
  rw [encF_append]; rfl
theorem places_length (ls : List (List UInt8)) (k : Nat) : (places ls k).length = k := by simp [places]
theorem places_succ (ls : List (List UInt8)) (k : Nat) : places ls (k + 1) = places ls k ++ [2 * (encW (ls.take k)).length] := by
  unfold places; rw [List.range_succ, List.map_append]; rfl
theorem places_get (ls : List (List UInt8)) (k i : Nat) (hi : i < k) : (places ls k)[i]? = some (2 * (encW (ls.take i)).length) := by simp [places, hi]

/-- Text at a text's place, in a heap of texts. -/
theorem text_at (b base q c : Nat) (v1 v2 : Value) (ls : List (List UInt8)) (k : Nat) (w : World) (hk : k < ls.length) (h : HAt w b base q c v1 v2 (encW ls) (encF ls)) (hl : ∀ l ∈ ls, l.length ≤ 1000) (hn : ls.length ≤ 1000) :
    Calls Try.prog 22 #[.pointer (some ⟨b, 0, none⟩), .int .u64 ((2 * (encW (ls.take k)).length : Nat) : Int)] w fun e w' => e = .returned (S ls[k]) ∧ Below w.heap.size w w' := by
  have h1 : ∀ l ∈ ls.take k, l.length ≤ 1000 := fun l hm => hl l (List.mem_of_mem_take hm)
  have h2 : ∀ l ∈ ls.drop (k + 1), l.length ≤ 1000 := fun l hm => hl l (List.mem_of_mem_drop hm)
  have g1 := encW_le _ h1
  have g2 := encW_le _ h2
  rw [List.length_take] at g1
  rw [List.length_drop] at g2
  rw [encW_split ls k hk, encF_split ls k hk] at h
  have hlk := hl ls[k] (List.getElem_mem hk)
  exact text_put b base q c v1 v2 (encW (ls.take k)) (encW (ls.drop (k + 1))) (encF (ls.take k)) (encF (ls.drop (k + 1))) ls[k] w h (encFW _) (encFW _) (by omega) (by omega) (encW_lt _ h1) (encW_lt _ h2)
end Go.Proofs.Ytkdhajiplonloaa
