/- BallotAlone: what a proposal leaves in a new box; bytes as a text. -/
import Derived.Test.YtpnlfpckafpkbaaBalM
import Derived.Test.YtpnlfpckafpkbaaBalO
namespace Go.Proofs.Ytpnlfpckafpkbaa
open Go.RowKit OctM

/-- Bytes as a text. -/
def TxS (l : List UInt8) : Value := .string ⟨l.toArray⟩
theorem txs_of (l : List UInt8) : strOfNums (l.map fun b => (b.toNat : Int)) = ⟨l.toArray⟩ := by
  unfold strOfNums
  congr 2
  rw [List.map_map]
  exact (List.map_congr_left fun b _ => by simp).trans (List.map_id l)
theorem txs_getD (l : List UInt8) (i : Nat) (hi : i < l.length) : (l.map fun b => (b.toNat : Int)).getD i 0 = (l[i].toNat : Int) := by
  rw [List.getD_eq_getElem?_getD, List.getElem?_map, List.getElem?_eq_getElem hi]
  rfl
theorem toTx {w : World} {v : Value} {l : List UInt8} (h : Rd w v l) : (convert 35 9 v).run Try.prog w = .ok (TxS l) w := by
  rcases h with ⟨rfl, rfl⟩ | ⟨a, c, rfl, hn, hm, hc⟩
  · rw [run_convert_bytes_nil w 35 5 Try.underlying35 Try.underlying5 0 0 9 Try.underlying9]
    rfl
  · rcases l with _ | ⟨x, t⟩
    · rw [run_convert_bytes_string w 35 9 5 (some a) _ c Try.underlying35 Try.underlying5 Try.underlying9, List.length_nil, run_bytesToString w a 0 c [] (by simp [loadCells, loadCellsFrom])]
      rfl
    · obtain ⟨b, off, spot⟩ := a
      have h0 := hc 0 x rfl
      obtain rfl : spot = none := by simpa [Addr.add] using World.cell?_spot h0
      rw [run_convert_bytes_arg w 35 5 Try.underlying35 Try.underlying5 b off _ c ((x :: t).map fun b => (b.toNat : Int)) (by simp) (fun i hi => by
        rw [← add_none, hc i _ (List.getElem?_eq_getElem hi), txs_getD _ i hi]
        rfl) 9 Try.underlying9, txs_of]
      rfl

/-- Rows of bytes that came in. -/
def RdBB (w : World) (v : Value) (cs : List (List UInt8)) : Prop :=
  (∃ o c, v = .slice o 0 c ∧ cs = []) ∨ ∃ b off c, v = .slice (some ⟨b, off, none⟩) cs.length c ∧ cs.length ≤ c ∧ c ≤ maxLen ∧ ∀ (j : Nat) (l : List UInt8), cs[j]? = some l → ∃ u, w.cell? ⟨b, off + j, none⟩ = some u ∧ Rd w u l
theorem RdBB.form {w : World} {v : Value} {cs : List (List UInt8)} (h : RdBB w v cs) : ∃ o c, v = .slice o cs.length c := by
  rcases h with ⟨_, _, rfl, rfl⟩ | ⟨b, off, c, rfl, _⟩ <;> exact ⟨_, _, rfl⟩

/-- A new box with what was proposed. -/
structure Nx (wj wx : World) (X : Nat) (p : Sc) (qs : List (En × Value)) (vs ns ms : List Value) (d l v n m : Value) : Prop where
  box : wx.heap[X]? = some (.cells (stC p d l v n m).toArray 41 (0, 0))
  st : StO wx wj.heap.size [] qs vs ns ms d l v n m
  bel : Below wj.heap.size wj wx
theorem Nx.drew {wj wx : World} {X : Nat} {p : Sc} {qs : List (En × Value)} {vs ns ms : List Value} {d l v n m : Value} (h : Nx wj wx X p qs vs ns ms d l v n m) : Nx wj wx.drew X p qs vs ns ms d l v n m :=
  ⟨h.box, h.st.kept (S := fun _ => False) (Kept.refl _ _).drew (fun _ _ h => h), h.bel.drew⟩
theorem nx_after {wj W4 : World} {p : Sc} {qs : List (En × Value)} {vs ns ms : List Value} {d l v n m : Value} (hst : StO W4 wj.heap.size [] qs vs ns ms d l v n m) (hb : Below wj.heap.size wj W4) : Nx wj ((W4.alloc (.cells zsC.toArray 41)).setRow W4.heap.size (stC p d l v n m).toArray) W4.heap.size p qs vs ns ms d l v n m := by
  rw [World.setRow_alloc_new]
  exact ⟨heap_alloc_new _ _, hst.below ((Below.refl _ _).alloc (Nat.le_refl _) _), hb.trans (((Below.refl _ _).alloc (Nat.le_refl _) _).mono hb.size)⟩
theorem nx_before {wj Wb W4 : World} {X : Nat} {p : Sc} {qs : List (En × Value)} {vs ns ms : List Value} {d l v n m : Value} (hX : wj.heap.size ≤ X) (hz : Wb.heap[X]? = some (.cells zsC.toArray 41 (0, 0))) (hbb : Below wj.heap.size wj Wb) (hst : StO W4 Wb.heap.size [] qs vs ns ms d l v n m) (hb : Below Wb.heap.size Wb W4) :
    W4.heap[X]? = some (.cells zsC.toArray 41 (0, 0)) ∧ Nx wj (W4.setRow X (stC p d l v n m).toArray) X p qs vs ns ms d l v n m := by
  have hlt := lt_of_block hz
  have hx := (hb.block X hlt).trans hz
  exact ⟨hx, setRow_heap _ _ _ _ _ _ hx, (hst.kept (row_kept W4 X _) (fun g hg e => by omega)).base hbb.size, (hbb.trans (hb.mono hbb.size)).trans ((row_kept W4 X _).below (Nat.le_trans hbb.size hb.size) (fun k hk => by omega))⟩
theorem nx_last {w : World} {base : Nat} {l : Value} {qs : List (En × Value)} {L0 : List En} {e : En} (h : OwnL w base l qs) (hq : qs.map Prod.fst = L0 ++ [e]) : ∃ g c y, l = .slice (some ⟨g, 0, none⟩) (L0.length + 1) c ∧ base ≤ g ∧ g < w.heap.size ∧ w.cell? ⟨g, L0.length * 4, none⟩ = some (.int .u64 (e.tm : Int)) ∧ w.cell? ⟨g, L0.length * 4 + 3, none⟩ = some y ∧ Own w base y e.cl := by
  obtain ⟨A, Bq, rfl, hA, hB⟩ := List.map_eq_append_iff.1 hq
  rcases Bq with _ | ⟨q, _ | ⟨q', r⟩⟩
  · simp at hB
  · have hq1 : q.1 = e := by simpa using hB
    have hl : L0.length = A.length := by rw [← hA]; simp
    have hc := CsE_length A
    obtain ⟨g, c, rfl, hb, hg, -, hcs⟩ := own_at h.row (by simp)
    have hfm : CsE (A ++ [q]) = CsE A ++ cE q := by simp [CsE]
    refine ⟨g, c, q.2, by rw [hl]; simp, hb, hg, ?_, ?_, ?_⟩
    · refine hcs _ _ ?_
      rw [hfm, hl, List.getElem?_append_right (by omega), hc, Nat.sub_self, ← hq1]
      rfl
    · refine hcs _ _ ?_
      rw [hfm, hl, List.getElem?_append_right (by omega), hc, show A.length * 4 + 3 - A.length * 4 = 3 by omega]
      rfl
    · rw [← hq1]
      exact h.cells q (by simp)
  · simp at hB
end Go.Proofs.Ytpnlfpckafpkbaa
