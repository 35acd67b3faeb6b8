/- Conversions to text; the law's examples. -/
import Derived.Test.YtjmfgpklemhomaaOctS
import Derived.Laws.BytesArg
import Derived.Lib.SlBytesConst
namespace Go.Proofs.Ytjmfgpklemhomaa
open Go.RowKit OctM

/-- Bytes as a text. -/
def S (l : List UInt8) : Value := .string ⟨l.toArray⟩

theorem strOf (l : List UInt8) : strOfNums (l.map fun b => (b.toNat : Int)) = ⟨l.toArray⟩ := by
  unfold strOfNums
  congr 2
  rw [List.map_map]
  exact (List.map_congr_left fun b _ => by simp).trans (List.map_id l)

theorem nums_getD (l : List UInt8) (i : Nat) (hi : i < l.length) : (l.map fun b => (b.toNat : Int)).getD i 0 = (l[i].toNat : Int) := by
  rw [List.getD_eq_getElem?_getD, List.getElem?_map, List.getElem?_eq_getElem hi]
  rfl

theorem toStr {w : World} {v : Value} {l : List UInt8} (h : Rd w v l) : (convert 25 9 v).run Try.prog w = .ok (S l) w := by
  rcases h with ⟨rfl, rfl⟩ | ⟨a, c, rfl, hn, hm, hc⟩
  · rw [run_convert_bytes_nil w 25 5 Try.underlying25 Try.underlying5 0 0 9 Try.underlying9]
    rfl
  · rcases l with _ | ⟨x, t⟩
    · rw [run_convert_bytes_string w 25 9 5 (some a) _ c Try.underlying25 Try.underlying5 Try.underlying9, List.length_nil, run_bytesToString w a 0 c [] (by simp [loadCells, loadCellsFrom])]
      rfl
    · obtain ⟨b, off, spot⟩ := a
      have h0 := hc 0 x rfl
      obtain rfl : spot = none := by simpa [Addr.add] using World.cell?_spot h0
      rw [run_convert_bytes_arg w 25 5 Try.underlying25 Try.underlying5 b off _ c ((x :: t).map fun b => (b.toNat : Int)) (by simp) (fun i hi => by
        rw [← add_none, hc i _ (List.getElem?_eq_getElem hi), nums_getD _ i hi]
        rfl) 9 Try.underlying9, strOf]
      rfl

/-- A block that is known whole. -/
theorem Rd.of_block {w : World} {b : Nat} {cs : Array Value} {t : TypeId} {fr : Nat × Nat} {l : List UInt8} (hb : w.heap[b]? = some (.cells cs t fr)) (hcs : cs.toList = Bs l) (hm : l.length ≤ 1000) : Rd w (.slice (some ⟨b, 0, none⟩) l.length l.length) l :=
  .inr ⟨_, _, rfl, Nat.le_refl _, by unfold maxLen; omega, fun j u hu => World.news_of_block hb j (B u) (by rw [hcs]; simp [Bs, hu])⟩

theorem wnew {w : World} {base : Nat} (hb : w.heap[base]? = some (.cells #[.slice none 0 0] 27 (0, 0))) (b0 : Nat) : WAt w base b0 (.slice none 0 0) [] :=
  ⟨hb, World.ownsRow_nil _ _ _ _⟩

theorem WAt.kept {T : Nat → Prop} {w w' : World} {b base : Nat} {v : Value} {l : List UInt8} (h : WAt w b base v l) (hk : Kept T w w') (hb : ¬ T b) (hv : ∀ k, v.ownBlock = some k → ¬ T k) : WAt w' b base v l :=
  ⟨(hk.block b (lt_of_block h.cell) hb).trans h.cell, own_kept h.own hk hv⟩
theorem WAt.below {w w' : World} {b base : Nat} {v : Value} {l : List UInt8} (h : WAt w b base v l) (hb : Below w.heap.size w w') : WAt w' b base v l :=
  h.kept (T := fun k => w.heap.size ≤ k) (Below.kept hb fun _ h _ => h) (by have := lt_of_block h.cell; simp; omega) (fun k hk => by have := (h.own.lt k hk).2; simp; omega)

theorem WAt.drew {w : World} {b base : Nat} {v : Value} {l : List UInt8} (h : WAt w b base v l) : WAt w.drew b base v l := ⟨h.cell, h.own⟩

theorem toStr' {w : World} {v : Value} {l : List UInt8} {base : Nat} (h : Own w base v l) : (convert 25 9 v).run Try.prog w = .ok (.string ⟨l.toArray⟩) w := toStr (Rd.of_own h)

theorem own_below {w w' : World} {base n : Nat} {v : Value} {l : List UInt8} (h : Own w base v l) (hb : Below n w w') (hn : w.heap.size ≤ n) : Own w' base v l :=
  own_kept h (S := fun k => n ≤ k) (Below.kept hb fun _ h _ => h) (fun k hk => by have := (h.lt k hk).2; simp; omega)

theorem enc300 : ([] : List UInt8) ++ enc (300 : Int).toNat = [2, 1, 44] := by decide
theorem enc_1 : ([] : List UInt8) ++ enc (zig (-1)) = [1, 1] := by decide
theorem sum9 : sum [49, 50, 51, 52, 53, 54, 55, 56, 57] = 3808858755 := by decide +kernel

set_option maxHeartbeats 4000000 in
set_option maxRecDepth 100000 in
theorem awake (w : World) : Calls Try.prog 10 #[] w fun e w' => e = .returned (.bool true) ∧ Below w.heap.size w w' := by
  have hA : WAt ((w.alloc (.cells #[.slice none 0 0] 27)).alloc (.cells #[.slice none 0 0] 27)) w.heap.size w.heap.size (.slice none 0 0) [] :=
    wnew ((Below.heap_alloc _ _ _ (by simp)).trans (heap_alloc_new w _)) _
  have hB : WAt ((w.alloc (.cells #[.slice none 0 0] 27)).alloc (.cells #[.slice none 0 0] 27)) (w.heap.size + 1) w.heap.size (.slice none 0 0) [] :=
    wnew (by have := heap_alloc_new (w.alloc (.cells #[.slice none 0 0] 27)) (.cells #[.slice none 0 0] 27); simpa using this) _
  have hsz : ((w.alloc (.cells #[.slice none 0 0] 27)).alloc (.cells #[.slice none 0 0] 27)).heap.size = w.heap.size + 2 := by simp
  have hbel : Below w.heap.size w ((w.alloc (.cells #[.slice none 0 0] 27)).alloc (.cells #[.slice none 0 0] 27)) := ((Below.refl _ w).alloc (Nat.le_refl _) _).alloc (by simp) _
  have c1 := wuint w.heap.size w.heap.size _ [] 300 _ (by omega) (by omega) hA (by omega) (by simp)
  rw [enc300] at c1
  have C1 := Lib.hid c1
  clear c1 hA
  have HB := Lib.hid hB
  have HS := Lib.hid hsz
  clear hB hsz
  go_enter Try.func10, Try.ntmps10
  go_wp2_with fail
  refine C1.out.mono ?_
  rintro e w1 ⟨rfl, ⟨v1, hA1, -⟩, hk1⟩
  have hB1 := HB.out.kept hk1 (by simp [two, Value.ownBlock]) (by simp [Value.ownBlock])
  have hbel1 : Below w.heap.size w w1 := hbel.trans (hk1.below (by have := HS.out; omega) (by simp [two, Value.ownBlock]))
  have hs1 := hk1.size
  rw [HS.out] at hs1
  clear hk1 hbel
  go_wp2_with fail
  refine (wdone _ _ _ _ _ hA1 (by decide)).mono ?_
  rintro e w2 ⟨v2, rfl, ho2, hb2⟩
  have ht2 : (convert 25 9 v2).run Try.prog w2 = .ok (.string ⟨#[2, 1, 44]⟩) w2 := toStr (Rd.of_own ho2)
  have hs2 := hb2.size
  have hbel2 : Below w.heap.size w w2 := hbel1.trans (hb2.mono (by omega))
  have c2 := wint (w.heap.size + 1) w.heap.size _ [] (-1) w2 (by omega) (by omega) (hB1.below hb2) (by omega) (by simp)
  rw [enc_1] at c2
  have C2 := Lib.hid c2
  clear c2 hb2 ho2 hA1 hB1
  go_wp2_with fail
  refine C2.out.mono ?_
  rintro e w3 ⟨rfl, ⟨v3, hB3, -⟩, hk3⟩
  have hbel3 : Below w.heap.size w w3 := hbel2.trans (hk3.below (by omega) (by simp [two, Value.ownBlock]))
  have hs3 := hk3.size
  clear hk3 hbel2 hbel1 ht2
  go_wp2_with fail
  refine (wdone _ _ _ _ _ hB3 (by decide)).mono ?_
  rintro e w4 ⟨v4, rfl, ho4, hb4⟩
  have ht4 : (convert 25 9 v4).run Try.prog w4 = .ok (.string ⟨#[1, 1]⟩) w4 := toStr (Rd.of_own ho4)
  have hs4 := hb4.size
  have hbel4 : Below w.heap.size w w4 := hbel3.trans (hb4.mono (by omega))
  have kc := fun (w : World) (C : Array Value) (n c : Nat) => Lib.run_convert_bytes_const (P := Try.prog) w 25 5 C n c Try.underlying25 Try.underlying5
  clear hb4 ho4 hB3 hbel3
  go_wp2_with fail
  refine (sum_any _ [49, 50, 51, 52, 53, 54, 55, 56, 57] _ (Rd.of_block (heap_alloc_new w4 _) rfl (by decide))).mono ?_
  rintro e w5 ⟨⟨x, rfl, hx⟩, rfl⟩
  rw [sum9] at hx
  subst hx
  clear kc
  go_wp2_with fail
  go_ret
  exact ⟨rfl, hbel4.alloc (by omega) _⟩
end Go.Proofs.Ytjmfgpklemhomaa
