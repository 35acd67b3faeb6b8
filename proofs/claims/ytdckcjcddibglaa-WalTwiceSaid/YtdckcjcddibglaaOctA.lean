/- Conversions to text; the law's examples. -/
import Derived.Test.YtdckcjcddibglaaOctS
import Derived.Laws.BytesArg
import Derived.Lib.SlBytesConst
namespace Go.Proofs.Ytdckcjcddibglaa
open Go.RowKit OctM

/-- Bytes as a text. -/
def S (l : List UInt8) : Value := .string ⟨l.toArray⟩

theorem strOf (l : List UInt8) : strOfNums (l.map fun b => (b.toNat : Int)) = ⟨l.toArray⟩ := by
  unfold strOfNums
  congr 2
  rw [List.map_map]
  exact (List.map_congr_left fun b _ => by simp).trans (List.map_id l)

theorem nums_getD (l : List UInt8) (i : Nat) (hi : i < l.length) : (l.map fun b => (b.toNat : Int)).getD i 0 = (l[i].toNat : Int) := by
  rw [List.getD_eq_getElem?_getD, List.getElem?_map, List.getElem?_eq_getElem hi]
  rfl

theorem toStr {w : World} {v : Value} {l : List UInt8} (h : Rd w v l) : (convert 22 9 v).run Try.prog w = .ok (S l) w := by
  rcases h with ⟨rfl, rfl⟩ | ⟨a, c, rfl, hn, hm, hc⟩
  · rw [run_convert_bytes_nil w 22 5 Try.underlying22 Try.underlying5 0 0 9 Try.underlying9]
    rfl
  · rcases l with _ | ⟨x, t⟩
    · rw [run_convert_bytes_string w 22 9 5 (some a) _ c Try.underlying22 Try.underlying5 Try.underlying9, List.length_nil, run_bytesToString w a 0 c [] (by simp [loadCells, loadCellsFrom])]
      rfl
    · obtain ⟨b, off, spot⟩ := a
      have h0 := hc 0 x rfl
      obtain rfl : spot = none := by simpa [Addr.add] using World.cell?_spot h0
      rw [run_convert_bytes_arg w 22 5 Try.underlying22 Try.underlying5 b off _ c ((x :: t).map fun b => (b.toNat : Int)) (by simp) (fun i hi => by
        rw [← add_none, hc i _ (List.getElem?_eq_getElem hi), nums_getD _ i hi]
        rfl) 9 Try.underlying9, strOf]
      rfl

/-- A block that is known whole. -/
theorem Rd.of_block {w : World} {b : Nat} {cs : Array Value} {t : TypeId} {fr : Nat × Nat} {l : List UInt8} (hb : w.heap[b]? = some (.cells cs t fr)) (hcs : cs.toList = Bs l) (hm : l.length ≤ 1000) : Rd w (.slice (some ⟨b, 0, none⟩) l.length l.length) l :=
  .inr ⟨_, _, rfl, Nat.le_refl _, by unfold maxLen; omega, fun j u hu => World.news_of_block hb j (B u) (by rw [hcs]; simp [Bs, hu])⟩

theorem wnew {w : World} {base : Nat} (hb : w.heap[base]? = some (.cells #[.slice none 0 0] 79 (0, 0))) (b0 : Nat) : WAt w base b0 (.slice none 0 0) [] :=
  ⟨hb, World.ownsRow_nil _ _ _ _⟩

theorem WAt.kept {T : Nat → Prop} {w w' : World} {b base : Nat} {v : Value} {l : List UInt8} (h : WAt w b base v l) (hk : Kept T w w') (hb : ¬ T b) (hv : ∀ k, v.ownBlock = some k → ¬ T k) : WAt w' b base v l :=
  ⟨(hk.block b (lt_of_block h.cell) hb).trans h.cell, own_kept h.own hk hv⟩
theorem WAt.below {w w' : World} {b base : Nat} {v : Value} {l : List UInt8} (h : WAt w b base v l) (hb : Below w.heap.size w w') : WAt w' b base v l :=
  h.kept (T := fun k => w.heap.size ≤ k) (Below.kept hb fun _ h _ => h) (by have := lt_of_block h.cell; simp; omega) (fun k hk => by have := (h.own.lt k hk).2; simp; omega)

theorem WAt.drew {w : World} {b base : Nat} {v : Value} {l : List UInt8} (h : WAt w b base v l) : WAt w.drew b base v l := ⟨h.cell, h.own⟩

theorem toStr' {w : World} {v : Value} {l : List UInt8} {base : Nat} (h : Own w base v l) : (convert 22 9 v).run Try.prog w = .ok (.string ⟨l.toArray⟩) w := toStr (Rd.of_own h)

theorem own_below {w w' : World} {base n : Nat} {v : Value} {l : List UInt8} (h : Own w base v l) (hb : Below n w w') (hn : w.heap.size ≤ n) : Own w' base v l :=
  own_kept h (S := fun k => n ≤ k) (Below.kept hb fun _ h _ => h) (fun k hk => by have := (h.lt k hk).2; simp; omega)

theorem enc300 : ([] : List UInt8) ++ enc (300 : Int).toNat = [2, 1, 44] := by decide
theorem enc_1 : ([] : List UInt8) ++ enc (zig (-1)) = [1, 1] := by decide
theorem sum9 : sum [49, 50, 51, 52, 53, 54, 55, 56, 57] = 3808858755 := by decide +kernel

end Go.Proofs.Ytdckcjcddibglaa
