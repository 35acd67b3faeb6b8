/- Seal, Open, Equal: contracts. -/
import Derived.Test.YtlfnblgpekilnaaOctE
import Derived.Laws.MakeOwn
namespace Go.Proofs.Ytlfnblgpekilnaa
open Go.RowKit OctM

/-- The four bytes of a sum, the lowest first. -/
def le4 (n : Nat) : List UInt8 := [UInt8.ofNat n, UInt8.ofNat (n / 256), UInt8.ofNat (n / 65536), UInt8.ofNat (n / 16777216)]

/-- Bytes with their sum. -/
def sealed (l : List UInt8) : List UInt8 := l ++ le4 (sum l)

theorem sealed_length (l : List UInt8) : (sealed l).length = l.length + 4 := by simp [sealed, le4]

/-- An append to whatever row of the call's own. -/
theorem append_own {w : World} {base : Nat} {v s : Value} {l k : List UInt8} (hown : Own w base v l) (hs : Rd w s k) (hb : l.length + k.length ≤ 140737488355328) (hbase : base ≤ w.heap.size) (ty : TypeId) :
    ∃ v' w', (Builtin.append_ #[31, 31] ty #[v, s]).run Try.prog w = .ok v' w' ∧ Own w' base v' (l ++ k) ∧ w.grownBy w' v.ownBlock := by
  obtain ⟨i0, hi0, hz0, hz1, hz2⟩ := info_parts u8info
  rcases hs with ⟨rfl, rfl⟩ | ⟨a, c, rfl, hn, hm, hc⟩
  · exact ⟨v, w, run_append_owned_none (P := Try.prog) (w := w) base 31 ty 5 i0 1 Try.underlying31 hi0 _ _ _ hown, by simpa [Own] using hown, World.grownBy.refl w _⟩
  · obtain ⟨v', w', hr, h2, h3, _, _⟩ := run_append_own_at (P := Try.prog) w base 31 ty 5 i0 (.int .u8 0) 1 1 Try.underlying31 hi0 hz0 hz1 hz2 rfl (by decide) v l.length (Bs l) hown a k.length c (Bs k)
      (by rw [Bs_length, Nat.mul_one]) (fun j u hj => by
        obtain ⟨b, hb, rfl⟩ : ∃ b, k[j]? = some b ∧ B b = u := by simpa [Bs] using hj
        exact hc j b hb) (Bs_one k) (by unfold maxLen; omega) (by omega) hbase
    refine ⟨v', w', hr, ?_, h3⟩
    unfold Own
    rw [List.length_append, Bs_append]
    exact h2

theorem made (n : Nat) (hn : n ≤ 140737488355332) : ∃ cs : Array Value, cs.size = n ∧ ∀ W, (Instr.makeSlice 31 (.int .i64 0) (.int .i64 (n : Int))).run Try.prog W = .ok (.slice (some ⟨W.heap.size, 0, none⟩) 0 n) (W.alloc (.cells cs 5)) := by
  obtain ⟨i0, hi0, hz0, hz1, hz2⟩ := info_parts u8info
  have h := fun W => run_make (P := Try.prog) W 31 5 i0 (.int .u8 0) Try.underlying31 hi0 hz0 .i64 .i64 0 (n : Int) (by omega) (by omega) (by rw [hz2]; omega) (by omega)
  simp only [Int.toNat_natCast, hz1, Nat.mul_one] at h
  exact ⟨_, by simp [madeCells], h⟩

theorem le4_take (n j : Nat) (h : j < 4) : (le4 n).take (j + 1) = (le4 n).take j ++ [UInt8.ofNat (n / 256 ^ j)] := by
  match j, h with
  | 0, _ => simp [le4]
  | 1, _ => simp [le4]
  | 2, _ => simp [le4]
  | 3, _ => simp [le4]

theorem le4_byte (n j : Nat) : (n : Int) / 2 ^ (8 * j) % 256 = ((UInt8.ofNat (n / 256 ^ j)).toNat : Int) := by
  have h := dig_int n j
  rw [show (8 * (j : Int)).toNat = 8 * j by omega, IntKind.wrap_u8] at h
  rw [dig] at h
  omega

/-- Behind the bytes and j of the sum's. -/
structure SRel (w wr : World) (v : Value) (l : List UInt8) (n j : Nat) : Prop where
  own : wr.ownsRow w.heap.size 5 1 v (l.length + j) (Bs (l ++ (le4 n).take j))
  bel : Below w.heap.size w wr

theorem srel_step {w wr w2 : World} {v v2 : Value} {l : List UInt8} {n j : Nat} (hr : SRel w wr v l n j) (hj : j < 4)
    (h2 : w2.ownsRow w.heap.size 5 1 v2 (l.length + j + 1) (Bs (l ++ (le4 n).take j) ++ [.int .u8 ((n : Int) / 2 ^ (8 * j) % 256)]))
    (hg : (wr.alloc (.cells #[.int .u8 ((n : Int) / 2 ^ (8 * j) % 256)] 5)).grownBy w2 v.ownBlock) : SRel w w2 v2 l n (j + 1) := by
  refine ⟨?_, ?_⟩
  · rw [le4_take n j hj, ← List.append_assoc, Bs_append]
    rw [le4_byte] at h2
    exact h2
  · have hs := hr.bel.size
    exact (hr.bel.alloc hs _).grown hg (by simp; omega) (fun k hk => (hr.own.lt k hk).1)

theorem srel_end {w wr : World} {v : Value} {l : List UInt8} {n : Nat} (hr : SRel w wr v l n 4) (hn : n = sum l) : Own wr w.heap.size v (sealed l) := by
  have h := hr.own
  have e : (le4 n).take 4 = le4 n := rfl
  rw [e, hn] at h
  unfold Own
  rw [sealed_length]
  exact h

end Go.Proofs.Ytlfnblgpekilnaa
