/- HeapCopies: the law's walk. -/
import Derived.Test.YtkdhajiplonloaaHeaE
namespace Go.Proofs.Ytkdhajiplonloaa
open Go.RowKit HeaM

def lsOf (ss : List ByteArray) : List (List UInt8) := ss.map fun s => s.data.toList
theorem lsOf_length (ss : List ByteArray) : (lsOf ss).length = ss.length := by simp [lsOf]
theorem lsOf_get (ss : List ByteArray) (k : Nat) (_h : k < ss.length) (h' : k < (lsOf ss).length) : (lsOf ss)[k] = ss[k].data.toList := by simp [lsOf]
theorem S_of (s : ByteArray) : S s.data.toList = .string s := by
  unfold S
  congr 1

/-- Behind k texts. -/
def CpR (w wr : World) (hb q c : Nat) (ls : List (List UInt8)) (k : Nat) (rv : Value) : Prop :=
  ∃ v1 v2, HAt wr hb w.heap.size q c v1 v2 (encW (ls.take k)) (encF (ls.take k)) ∧ OwnW wr w.heap.size rv (places ls k) ∧ (∀ j, rv.ownBlock = some j → ¬ three hb v1 v2 j) ∧ (∀ j, three hb v1 v2 j → w.heap.size ≤ j) ∧ Below w.heap.size w wr

/-- One text more, its place behind the others. -/
theorem cpr_step {w wr w1 : World} {hb q c k : Nat} {ls : List (List UInt8)} {rv v1 v2 u1 u2 : Value} (hk : k < ls.length) (hk30 : ls.length ≤ 1000)
    (_h : HAt wr hb w.heap.size q c v1 v2 (encW (ls.take k)) (encF (ls.take k))) (ho : OwnW wr w.heap.size rv (places ls k)) (hd : ∀ j, rv.ownBlock = some j → ¬ three hb v1 v2 j) (hn : ∀ j, three hb v1 v2 j → w.heap.size ≤ j) (hbl : Below w.heap.size w wr)
    (hP : LPost wr w1 hb w.heap.size q c v1 v2 u1 u2 (encW (ls.take (k + 1))) (encF (ls.take (k + 1)))) :
    ∃ rv' w2, (Builtin.append_ #[29, 29] 29 #[rv, .slice (some ⟨w1.heap.size, 0, none⟩) 1 1]).run Try.prog (w1.alloc (.cells #[.int .u64 ((2 * (encW (ls.take k)).length : Nat) : Int)] 37)) = .ok rv' w2 ∧ CpR w w2 hb q c ls (k + 1) rv' := by
  have hlen := places_length ls k
  have ho1 : w1.ownsRow w.heap.size 37 1 rv k (Ws (places ls k)) := by
    have := own_kept ho hP.kept hd
    rw [hlen] at this
    exact this
  have hs1 := hP.kept.size
  have hs0 := hbl.size
  obtain ⟨rv', w2, r2, o2, g2, a2⟩ := append_one (ty := 29) (t := 29) wordInfo Try.underlying29 rfl (ho1.alloc (.cells #[.int .u64 ((2 * (encW (ls.take k)).length : Nat) : Int)] 37)) (RdV.lit w1 (.int .u64 ((2 * (encW (ls.take k)).length : Nat) : Int)) 37) (by intro u hu; simp at hu; subst hu; rfl) (by simp; omega) (by simp; omega) (by simp; omega)
  have hb1 : Below w.heap.size w w1 := hbl.trans (hP.kept.below hs0 hn)
  have hn1 : ∀ j, three hb u1 u2 j → w.heap.size ≤ j := fun j hj => (hP.new j hj).elim (hn j) (fun e => by omega)
  have hd1 : ∀ j, rv.ownBlock = some j → ¬ three hb u1 u2 j := fun j hj hs => (hP.new j hs).elim (hd j hj) (fun e => by have := (ho.lt j hj).2; omega)
  refine ⟨rv', w2, r2, u1, u2, ?_, ?_, ?_, hn1, ?_⟩
  · refine (hP.at_.below ((Below.refl _ _).alloc (Nat.le_refl _) _) (Nat.le_refl _)).kept (S := fun j => rv.ownBlock = some j) ⟨g2.os, g2.tape, g2.output, g2.size, fun j hj hs => g2.block j hj (fun e => hs e.symm)⟩ (fun j hj hs => hd1 j hs hj)
  · unfold OwnW
    rw [places_length, places_succ, Ws_append]
    exact o2
  · intro j hj hs
    rcases a2 with a2 | a2
    · exact hd1 j (by rw [← a2]; exact hj) hs
    · rw [a2] at hj
      injection hj with hj
      have := hP.at_.own_lt j hs
      simp at hj
      omega
  · exact (hb1.alloc (by omega) _).grown g2 (by simp; omega) (fun j hj => (ho.lt j hj).1)

end Go.Proofs.Ytkdhajiplonloaa
