/- Arguments opened: what every frame of this folder wants. -/
/- A row of numbers, opened. -/
/- A script of deeds, opened. -/
import Derived.Test.YtkdhajiplonloaaHeaT
import Derived.ProofKit
import Derived.OpenShut
import Derived.SizedLaws
import Derived.Carry
import Derived.SliceStrings
import Derived.Test.YtkdhajiplonloaaHeaPq
import Derived.Deep.Slices
import Derived.Deep.Fields
import Derived.ChangeSame
namespace Go.Proofs.Ytkdhajiplonloaa
open Go.ChangeShapes Go.WideShapes Go.ChangeAt Go.RowKit

theorem ownFree : ownKnob Try.prog.godebug = none := by kernel_rfl
theorem laidOutP : laidOutB Try.prog = true := by kernel_rfl

end Go.Proofs.Ytkdhajiplonloaa
namespace Go.Proofs.Ytkdhajiplonloaa
open Go.ChangeShapes Go.WideShapes Go.ChangeAt Go.RowKit

theorem open_u64s {H : Type} {enc : TypeId × Value → H} {W : World} {base : Nat} {v : Value} {d : DataW H} {p : List MemPlace} {ts : List TypeId} {ds : List (DataW H)} {j : Nat}
    (hv : Value.okWide Try.prog W .any base 28 v) (h : DataW.Trod enc Try.prog W 0 (fun _ => true) true 28 v d p)
    (_hsz : (DataW.weightsEach Try.prog ts ds).all (· ≤ reachBytes) = true) (_ht : ts[j]? = some 28) (_hd : ds[j]? = some d) : ∃ l : List Nat, RdW W v l ∧ ∀ x ∈ l, x < 18446744073709551616 := by
  obtain ⟨a, len, cap, rfl⟩ := okWide_slice Try.underlying28 hv
  obtain ⟨fuel, hf⟩ := h
  rcases open_ints Try.underlying28 Try.underlying36 (by kernel_rfl) hf with ⟨hcs, hx⟩ | ⟨x, len', cap', zs, hcs, _, hl, hm, hz, hx, hcell, hwz⟩
  · simp only [Value.cells] at hcs
    simp at hcs
    obtain ⟨rfl, rfl, rfl⟩ := hcs
    exact ⟨[], .inl ⟨rfl, rfl⟩, by simp⟩
  · simp only [Value.cells] at hcs
    simp at hcs
    obtain ⟨rfl, rfl, rfl⟩ := hcs
    simp only [if_true] at hz
    have hlen : (zs.take len).length = len := by rw [List.length_take]; omega
    refine ⟨(zs.take len).map fun z => z.toNat, .inr ⟨x, cap, by rw [Ws_length, List.length_map, hlen], by rw [Ws_length, List.length_map, hlen]; exact hl, hm, fun i u hu => ?_⟩, fun y hy => ?_⟩
    · have hi : i < len := by
        have := (List.getElem?_eq_some_iff.1 hu).1
        rw [Ws_length, List.length_map, hlen] at this
        exact this
      rw [hcell i (by omega)]
      have hw := bounds_u64 (hwz (zs[i]'(by omega)) (List.getElem_mem _))
      have e1 : zs.getD i 0 = zs[i]'(by omega) := by simp [List.getD, show i < zs.length by omega]
      unfold Ws at hu
      rw [List.getElem?_map, List.getElem?_map, List.getElem?_take, if_pos hi, List.getElem?_eq_getElem (by omega)] at hu
      simp only [Option.map_some, Option.some.injEq] at hu
      rw [e1, ← hu]
      unfold Wv
      rw [Int.toNat_of_nonneg hw.1]
    · obtain ⟨z, hz2, rfl⟩ := List.mem_map.1 hy
      have hw := bounds_u64 (hwz z (List.mem_of_mem_take hz2))
      omega
end Go.Proofs.Ytkdhajiplonloaa
namespace Go.Proofs.Ytkdhajiplonloaa
open Go.ChangeShapes Go.WideShapes Go.ChangeAt Go.RowKit Go.Deep

section
variable {H : Type} {enc : TypeId × Value → H} {P : Program} {w : World} {base : Nat} {spare : Nat → Bool} {held : Bool}
theorem open_slice_fields {t e : TypeId} {fs : Array Field} {fuel : Nat} {cs : List Value} {x : DataW H × List MemPlace} (ht : P.underlying t = some (.slice e)) (he : P.underlying e = some (.struct fs))
    (hone : oneCellFields P fs = true) (hC : P.cellsOf e = fs.size) (h : DataW.trod enc P w base spare held fuel t cs = some x) :
    (cs = [.slice none 0 0] ∧ x = (.nil, [])) ∨
    ∃ (a : Addr) (len cap m : Nat) (D : Nat → DataW H) (Pl : Nat → List MemPlace), cs = [.slice (some a) len cap] ∧ base ≤ a.block ∧ len ≤ cap ∧ cap ≤ maxLen ∧ m = (if spare a.block then cap else len) ∧
      x = (.slice ((List.range len).map D) ((List.range (m - len)).map fun j => D (len + j)), MemPlace.row a (m * fs.size) ++ (List.range m).flatMap Pl) ∧
      ∀ i, i < m → ∃ (ys : List (DataW H × List MemPlace)) (n : Nat), D i = .agg (ys.map (·.1)) ∧ Pl i = ys.flatMap (·.2) ∧ ys.length = fs.size ∧
        ∀ (j : Nat) (f : Field), fs[j]? = some f → ∃ (v : Value) (y : DataW H × List MemPlace), w.cell? (a.add (i * fs.size + j)) = some v ∧ ys[j]? = some y ∧ DataW.trod enc P w base spare held n f.type [v] = some y := by
  rcases open_slice ht h with h0 | ⟨a, len, cap, m, n, D, Pl, hcs, hb, hl, hm, hmm, hx, hi⟩
  · exact .inl h0
  · refine .inr ⟨a, len, cap, m, D, Pl, hcs, hb, hl, hm, hmm, by rw [hC] at hx; exact hx, fun i him => ?_⟩
    obtain ⟨cs', hc, ht'⟩ := hi i him
    rw [hC] at hc
    obtain ⟨ys, n', hn', hy, hlen, hyl, hf⟩ := DataW.trod_struct he ht'
    obtain ⟨_, hcl, hat⟩ := World.cells?_some hc
    simp only [Prod.mk.injEq] at hy
    refine ⟨ys, n', hy.1, hy.2, hyl, fun j f hj => ?_⟩
    obtain ⟨ho, hk⟩ := hone_of hone j f hj
    have hjl : j < fs.size := (Array.getElem?_eq_some_iff.1 hj).1
    have hcell := hat j hjl
    have hv : cs'[j]? = some (cs'[j]'(by omega)) := List.getElem?_eq_getElem (by omega)
    have h1 := hf j f hj
    rw [ho, hk] at h1
    have hone' : (cs'.drop j).take 1 = [cs'[j]'(by omega)] := by
      rw [List.drop_eq_getElem_cons (by omega)]
      rfl
    rw [hone'] at h1
    have hys : ys[j]? = some (ys[j]'(by omega)) := List.getElem?_eq_getElem (by omega)
    refine ⟨_, _, ?_, hys, h1.trans hys⟩
    rw [← Go.Deep.add_add, hcell, hv]
end

theorem trod_u8 {H : Type} {enc : TypeId × Value → H} {W : World} {spare : Nat → Bool} {n : Nat} {v : Value} {y : DataW H × List MemPlace} (h : DataW.trod enc Try.prog W 0 spare true n 5 [v] = some y) : ∃ x, v = .int .u8 x ∧ 0 ≤ x ∧ x ≤ 255 := by
  cases n with
  | zero => simp [DataW.trod] at h
  | succ n =>
    simp only [DataW.trod, Try.underlying5] at h
    cases v <;> simp at h
    rename_i k x
    obtain ⟨⟨rfl, h1⟩, _⟩ := h
    have := bounds_u8 h1
    exact ⟨_, rfl, by omega, by omega⟩

theorem trod_str {H : Type} {enc : TypeId × Value → H} {W : World} {spare : Nat → Bool} {n : Nat} {v : Value} {y : DataW H × List MemPlace} (h : DataW.trod enc Try.prog W 0 spare true n 9 [v] = some y) : ∃ x, v = .string x := by
  cases n with
  | zero => simp [DataW.trod] at h
  | succ n =>
    simp only [DataW.trod, Try.underlying9] at h
    cases v <;> simp at h
    exact ⟨_, rfl⟩

theorem choose_list {α : Type} (len : Nat) (Q : Nat → α → Prop) (d : α) (h : ∀ i, i < len → ∃ q, Q i q) : ∃ l : List α, l.length = len ∧ ∀ (j : Nat) (q : α), l[j]? = some q → Q j q := by
  let f : Nat → α := fun i => if h' : i < len then Classical.choose (h i h') else d
  refine ⟨(List.range len).map f, by simp, fun j q hq => ?_⟩
  have hj : j < len := by
    have := (List.getElem?_eq_some_iff.1 hq).1
    simpa using this
  have e : q = Classical.choose (h j hj) := by
    rw [List.getElem?_map, List.getElem?_range hj] at hq
    simp only [Option.map_some, Option.some.injEq] at hq
    rw [← hq]
    show (if h' : j < len then Classical.choose (h j h') else _) = _
    rw [dif_pos hj]
  rw [e]
  exact Classical.choose_spec (h j hj)

/-- A deed. -/
structure Deed where
  k : Int
  K : Int
  ps : List Int
  s : ByteArray

structure DeedAt (w : World) (b off : Nat) (p : Deed) : Prop where
  k : w.cell? ⟨b, off, none⟩ = some (.int .u8 p.k)
  K : w.cell? ⟨b, off + 1, none⟩ = some (.int .u8 p.K)
  ps : ∃ v, w.cell? ⟨b, off + 2, none⟩ = some v ∧ RdV w v (p.ps.map fun x => .int .i64 x)
  s : w.cell? ⟨b, off + 3, none⟩ = some (.string p.s)
  k0 : 0 ≤ p.k
  k1 : p.k ≤ 255
  K0 : 0 ≤ p.K
  K1 : p.K ≤ 255
  fit : ∀ x ∈ p.ps, -9223372036854775808 ≤ x ∧ x ≤ 9223372036854775807

/-- A slice of deeds. -/
def RdD (w : World) (v : Value) (ps : List Deed) : Prop :=
  (∃ o c, v = .slice o 0 c ∧ ps = []) ∨
  ∃ b off c, v = .slice (some ⟨b, off, none⟩) ps.length c ∧ 0 < ps.length ∧ ps.length ≤ c ∧ c ≤ maxLen ∧ ∀ j p, ps[j]? = some p → DeedAt w b (off + j * 4) p

theorem DeedAt.below {w w' : World} {b off : Nat} {p : Deed} (h : DeedAt w b off p) (hb : Below w.heap.size w w') : DeedAt w' b off p := by
  have l1 := World.block_lt_of_cell? w _ h.k
  simp only at l1
  obtain ⟨v, hv, hr⟩ := h.ps
  exact ⟨(hb.cell (by simp; omega)).trans h.k, (hb.cell (by simp; omega)).trans h.K, ⟨v, (hb.cell (by simp; omega)).trans hv, hr.below hb⟩, (hb.cell (by simp; omega)).trans h.s, h.k0, h.k1, h.K0, h.K1, h.fit⟩

theorem trod_i64s {H : Type} {enc : TypeId × Value → H} {W : World} {n : Nat} {v : Value} {y : DataW H × List MemPlace} (h : DataW.trod enc Try.prog W 0 (fun _ => true) true n 30 [v] = some y) : ∃ l : List Int, RdV W v (l.map fun x => .int .i64 x) ∧ ∀ x ∈ l, -9223372036854775808 ≤ x ∧ x ≤ 9223372036854775807 := by
  rcases open_ints Try.underlying30 Try.underlying2 (by kernel_rfl) h with ⟨hcs, hx⟩ | ⟨x, len, cap, zs, hcs, _, hl, hm, hz, hx, hcell, hwz⟩
  · obtain rfl : v = .slice none 0 0 := by simpa using hcs
    exact ⟨[], .inl ⟨rfl, rfl⟩, by simp⟩
  · obtain rfl : v = .slice (some x) len cap := by simpa using hcs
    simp only [if_true] at hz
    have hlen : (zs.take len).length = len := by rw [List.length_take]; omega
    refine ⟨zs.take len, .inr ⟨x, cap, by rw [List.length_map, hlen], by rw [List.length_map, hlen]; exact hl, hm, fun i u hu => ?_⟩, fun y hy => ?_⟩
    · have hi : i < len := by
        have := (List.getElem?_eq_some_iff.1 hu).1
        rw [List.length_map, hlen] at this
        exact this
      rw [hcell i (by omega)]
      rw [List.getElem?_map, List.getElem?_take, if_pos hi, List.getElem?_eq_getElem (by omega)] at hu
      rw [List.getD_eq_getElem?_getD, List.getElem?_eq_getElem (by omega)]
      simpa using hu
    · have hw := bounds_i64 (hwz y (List.mem_of_mem_take hy))
      omega

theorem open_deeds {H : Type} {enc : TypeId × Value → H} {W : World} {base : Nat} {v : Value} {d : DataW H} {p : List MemPlace} {ts : List TypeId} {ds : List (DataW H)} {j : Nat}
    (hv : Value.okWide Try.prog W .any base 22 v) (h : DataW.Trod enc Try.prog W 0 (fun _ => true) true 22 v d p)
    (_hsz : (DataW.weightsEach Try.prog ts ds).all (· ≤ reachBytes) = true) (_ht : ts[j]? = some 22) (_hd : ds[j]? = some d) : ∃ l, RdD W v l := by
  obtain ⟨a, len, cap, rfl⟩ := okWide_slice Try.underlying22 hv
  obtain ⟨fuel, hf⟩ := h
  rcases open_slice_fields Try.underlying22 Try.underlying32 (by kernel_rfl) (by kernel_rfl) hf with ⟨hcs, _⟩ | ⟨x, len', cap', m, D, Pl, hcs, _, hl, hm, hmm, _, hi⟩
  · simp only [Value.cells] at hcs
    simp at hcs
    obtain ⟨rfl, rfl, rfl⟩ := hcs
    exact ⟨[], .inl ⟨_, _, rfl, rfl⟩⟩
  · simp only [Value.cells] at hcs
    simp at hcs
    obtain ⟨rfl, rfl, rfl⟩ := hcs
    simp only [if_true] at hmm
    rcases Nat.eq_zero_or_pos len with rfl | h0
    · exact ⟨[], .inl ⟨_, _, rfl, rfl⟩⟩
    · have hx : x.spot = none := by
        obtain ⟨ys, n, _, _, _, hfi⟩ := hi 0 (by omega)
        obtain ⟨v0, y0, c0, _, t0⟩ := hfi 0 _ rfl
        obtain ⟨b, off, spot⟩ := x
        simpa [Addr.add] using World.cell?_spot c0
      obtain ⟨b, off, spot⟩ := x
      obtain rfl : spot = none := hx
      have key : ∀ i, i < len → ∃ q : Deed, DeedAt W b (off + i * 4) q := by
        intro i hlt
        obtain ⟨ys, n, _, _, _, hfi⟩ := hi i (by omega)
        obtain ⟨v0, y0, c0, _, t0⟩ := hfi 0 _ rfl
        obtain ⟨v1, y1, c1, _, t1⟩ := hfi 1 _ rfl
        obtain ⟨v2, y2, c2, _, t2⟩ := hfi 2 _ rfl
        obtain ⟨v3, y3, c3, _, t3⟩ := hfi 3 _ rfl
        obtain ⟨k, rfl, k0, k1⟩ := trod_u8 t0
        obtain ⟨z, rfl, z0, z1⟩ := trod_u8 t1
        obtain ⟨l, hl, hlf⟩ := trod_i64s t2
        obtain ⟨s, rfl⟩ := trod_str t3
        rw [add_none] at c0 c1 c2 c3
        exact ⟨⟨k, z, l, s⟩, c0, c1, ⟨_, c2, hl⟩, c3, k0, k1, z0, z1, hlf⟩
      obtain ⟨l, hll, hq⟩ := choose_list len _ ⟨0, 0, [], ⟨#[]⟩⟩ key
      exact ⟨l, .inr ⟨b, off, cap, by rw [hll], by omega, by omega, hm, hq⟩⟩
end Go.Proofs.Ytkdhajiplonloaa
