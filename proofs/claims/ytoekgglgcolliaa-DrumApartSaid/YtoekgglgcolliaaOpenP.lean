/- A script of acts, opened. -/
import Derived.Test.YtoekgglgcolliaaOpenA
import Derived.Deep.Slices
import Derived.Deep.Fields
import Derived.ChangeSame
namespace Go.Proofs.Ytoekgglgcolliaa
open Go.ChangeShapes Go.WideShapes Go.ChangeAt Go.RowKit Go.Deep

section
variable {H : Type} {enc : TypeId × Value → H} {P : Program} {w : World} {base : Nat} {spare : Nat → Bool} {held : Bool}
theorem open_slice_fields {t e : TypeId} {fs : Array Field} {fuel : Nat} {cs : List Value} {x : DataW H × List MemPlace} (ht : P.underlying t = some (.slice e)) (he : P.underlying e = some (.struct fs))
    (hone : oneCellFields P fs = true) (hC : P.cellsOf e = fs.size) (h : DataW.trod enc P w base spare held fuel t cs = some x) :
    (cs = [.slice none 0 0] ∧ x = (.nil, [])) ∨
    ∃ (a : Addr) (len cap m : Nat) (D : Nat → DataW H) (Pl : Nat → List MemPlace), cs = [.slice (some a) len cap] ∧ base ≤ a.block ∧ len ≤ cap ∧ cap ≤ maxLen ∧ m = (if spare a.block then cap else len) ∧
      x = (.slice ((List.range len).map D) ((List.range (m - len)).map fun j => D (len + j)), MemPlace.row a (m * fs.size) ++ (List.range m).flatMap Pl) ∧
      ∀ i, i < m → ∃ (ys : List (DataW H × List MemPlace)) (n : Nat), D i = .agg (ys.map (·.1)) ∧ Pl i = ys.flatMap (·.2) ∧ ys.length = fs.size ∧
        ∀ (j : Nat) (f : Field), fs[j]? = some f → ∃ (v : Value) (y : DataW H × List MemPlace), w.cell? (a.add (i * fs.size + j)) = some v ∧ ys[j]? = some y ∧ DataW.trod enc P w base spare held n f.type [v] = some y := by
  rcases open_slice ht h with h0 | ⟨a, len, cap, m, n, D, Pl, hcs, hb, hl, hm, hmm, hx, hi⟩
  · exact .inl h0
  · refine .inr ⟨a, len, cap, m, D, Pl, hcs, hb, hl, hm, hmm, by rw [hC] at hx; exact hx, fun i him => ?_⟩
    obtain ⟨cs', hc, ht'⟩ := hi i him
    rw [hC] at hc
    obtain ⟨ys, n', hn', hy, hlen, hyl, hf⟩ := DataW.trod_struct he ht'
    obtain ⟨_, hcl, hat⟩ := World.cells?_some hc
    simp only [Prod.mk.injEq] at hy
    refine ⟨ys, n', hy.1, hy.2, hyl, fun j f hj => ?_⟩
    obtain ⟨ho, hk⟩ := hone_of hone j f hj
    have hjl : j < fs.size := (Array.getElem?_eq_some_iff.1 hj).1
    have hcell := hat j hjl
    have hv : cs'[j]? = some (cs'[j]'(by omega)) := List.getElem?_eq_getElem (by omega)
    have h1 := hf j f hj
    rw [ho, hk] at h1
    have hone' : (cs'.drop j).take 1 = [cs'[j]'(by omega)] := by
      rw [List.drop_eq_getElem_cons (by omega)]
      rfl
    rw [hone'] at h1
    have hys : ys[j]? = some (ys[j]'(by omega)) := List.getElem?_eq_getElem (by omega)
    refine ⟨_, _, ?_, hys, h1.trans hys⟩
    rw [← Go.Deep.add_add, hcell, hv]
end

/-- An act. -/
structure Act where
  k : Int
  i : Int
  po : Option Addr
  pc : Nat
  l : List UInt8
  n : Int
  co : Option Addr
  cn : Nat
  cc : Nat

/-- An act's cells. -/
structure ActAt (w : World) (b off : Nat) (a : Act) : Prop where
  k : w.cell? ⟨b, off, none⟩ = some (.int .u8 a.k)
  i : w.cell? ⟨b, off + 1, none⟩ = some (.int .i64 a.i)
  p : w.cell? ⟨b, off + 2, none⟩ = some (.slice a.po a.l.length a.pc)
  n : w.cell? ⟨b, off + 3, none⟩ = some (.int .i64 a.n)
  c : w.cell? ⟨b, off + 4, none⟩ = some (.slice a.co a.cn a.cc)
  rd : Rd w (.slice a.po a.l.length a.pc) a.l
  k0 : 0 ≤ a.k
  k1 : a.k ≤ 255
  i0 : -9223372036854775808 ≤ a.i
  i1 : a.i ≤ 9223372036854775807

/-- A script. -/
def RdA (w : World) (v : Value) (acts : List Act) : Prop :=
  (∃ o c, v = .slice o 0 c ∧ acts = []) ∨
  ∃ b off c, v = .slice (some ⟨b, off, none⟩) acts.length c ∧ 0 < acts.length ∧ acts.length ≤ c ∧ c ≤ maxLen ∧ ∀ j a, acts[j]? = some a → ActAt w b (off + j * 5) a

theorem ActAt.below {w w' : World} {b off n : Nat} {a : Act} (h : ActAt w b off a) (hb : Below n w w') (hn : w.heap.size ≤ n) : ActAt w' b off a := by
  have l1 := World.block_lt_of_cell? w _ h.k
  simp only at l1
  exact ⟨(hb.cell (by simp; omega)).trans h.k, (hb.cell (by simp; omega)).trans h.i, (hb.cell (by simp; omega)).trans h.p, (hb.cell (by simp; omega)).trans h.n, (hb.cell (by simp; omega)).trans h.c, h.rd.below (hb.mono hn), h.k0, h.k1, h.i0, h.i1⟩

theorem trod_u8 {H : Type} {enc : TypeId × Value → H} {W : World} {spare : Nat → Bool} {n : Nat} {v : Value} {y : DataW H × List MemPlace} (h : DataW.trod enc Try.prog W 0 spare true n 5 [v] = some y) : ∃ x, v = .int .u8 x ∧ 0 ≤ x ∧ x ≤ 255 := by
  cases n with
  | zero => simp [DataW.trod] at h
  | succ n =>
    simp only [DataW.trod, Try.underlying5] at h
    cases v <;> simp at h
    rename_i k x
    obtain ⟨⟨rfl, h1⟩, _⟩ := h
    have := bounds_u8 h1
    exact ⟨_, rfl, by omega, by omega⟩
theorem trod_i64 {H : Type} {enc : TypeId × Value → H} {W : World} {spare : Nat → Bool} {n : Nat} {v : Value} {y : DataW H × List MemPlace} (h : DataW.trod enc Try.prog W 0 spare true n 3 [v] = some y) : ∃ x, v = .int .i64 x ∧ -9223372036854775808 ≤ x ∧ x ≤ 9223372036854775807 := by
  cases n with
  | zero => simp [DataW.trod] at h
  | succ n =>
    simp only [DataW.trod, Try.underlying3] at h
    cases v <;> simp at h
    rename_i k x
    obtain ⟨⟨rfl, h1⟩, _⟩ := h
    have := bounds_i64 h1
    exact ⟨_, rfl, by omega, by omega⟩
theorem trod_bytes {H : Type} {enc : TypeId × Value → H} {W : World} {n : Nat} {v : Value} {y : DataW H × List MemPlace} (h : DataW.trod enc Try.prog W 0 (fun _ => true) true n 22 [v] = some y) : ∃ l, Rd W v l := by
  rcases open_ints Try.underlying22 Try.underlying5 (by kernel_rfl) h with ⟨hcs, _⟩ | ⟨x, len, cap, zs, hcs, _, hl, hm, hz, _, hcell, hwz⟩
  · obtain rfl : v = .slice none 0 0 := by simpa using hcs
    exact ⟨[], .inl ⟨rfl, rfl⟩⟩
  · obtain rfl : v = .slice (some x) len cap := by simpa using hcs
    simp only [if_true] at hz
    have hlen : (zs.take len).length = len := by rw [List.length_take]; omega
    refine ⟨(zs.take len).map fun z => UInt8.ofNat z.toNat, .inr ⟨x, cap, by rw [List.length_map, hlen], by rw [List.length_map, hlen]; exact hl, hm, fun i u hu => ?_⟩⟩
    have hi : i < len := by
      have := (List.getElem?_eq_some_iff.1 hu).1
      rw [List.length_map, hlen] at this
      exact this
    rw [hcell i (by omega)]
    have hw := bounds_u8 (hwz (zs[i]'(by omega)) (List.getElem_mem _))
    have e1 : zs.getD i 0 = zs[i]'(by omega) := by simp [List.getD, show i < zs.length by omega]
    have e2 : u = UInt8.ofNat (zs[i]'(by omega)).toNat := by
      rw [List.getElem?_map, List.getElem?_take, if_pos hi, List.getElem?_eq_getElem (by omega)] at hu
      simpa using hu.symm
    rw [e1, e2]
    have := B_ofNat (zs[i]'(by omega)).toNat (by omega)
    rw [← this, Int.toNat_of_nonneg hw.1]

theorem trod_ints {H : Type} {enc : TypeId × Value → H} {W : World} {n : Nat} {v : Value} {y : DataW H × List MemPlace} (h : DataW.trod enc Try.prog W 0 (fun _ => true) true n 23 [v] = some y) : ∃ o l c, v = .slice o l c := by
  rcases open_ints Try.underlying23 Try.underlying3 (by kernel_rfl) h with ⟨hcs, _⟩ | ⟨x, len, cap, zs, hcs, _⟩
  · obtain rfl : v = .slice none 0 0 := by simpa using hcs
    exact ⟨_, _, _, rfl⟩
  · obtain rfl : v = .slice (some x) len cap := by simpa using hcs
    exact ⟨_, _, _, rfl⟩

theorem open_acts {H : Type} {enc : TypeId × Value → H} {W : World} {base : Nat} {v : Value} {d : DataW H} {p : List MemPlace} {ts : List TypeId} {ds : List (DataW H)} {j : Nat}
    (hv : Value.okWide Try.prog W .any base 39 v) (h : DataW.Trod enc Try.prog W 0 (fun _ => true) true 39 v d p)
    (_hsz : (DataW.weightsEach Try.prog ts ds).all (· ≤ reachBytes) = true) (_ht : ts[j]? = some 39) (_hd : ds[j]? = some d) : ∃ l, RdA W v l := by
  obtain ⟨a, len, cap, rfl⟩ := okWide_slice Try.underlying39 hv
  obtain ⟨fuel, hf⟩ := h
  rcases open_slice_fields Try.underlying39 Try.underlying41 (by kernel_rfl) (by kernel_rfl) hf with ⟨hcs, _⟩ | ⟨x, len', cap', m, D, Pl, hcs, _, hl, hm, hmm, _, hi⟩
  · simp only [Value.cells] at hcs
    simp at hcs
    obtain ⟨rfl, rfl, rfl⟩ := hcs
    exact ⟨[], .inl ⟨_, _, rfl, rfl⟩⟩
  · simp only [Value.cells] at hcs
    simp at hcs
    obtain ⟨rfl, rfl, rfl⟩ := hcs
    simp only [if_true] at hmm
    rcases Nat.eq_zero_or_pos len with rfl | h0
    · exact ⟨[], .inl ⟨_, _, rfl, rfl⟩⟩
    · have hx : x.spot = none := by
        obtain ⟨ys, n, _, _, _, hfi⟩ := hi 0 (by omega)
        obtain ⟨v0, y0, c0, _, t0⟩ := hfi 0 _ rfl
        obtain ⟨b, off, spot⟩ := x
        simpa [Addr.add] using World.cell?_spot c0
      obtain ⟨b, off, spot⟩ := x
      obtain rfl : spot = none := hx
      have key : ∀ i, i < len → ∃ q : Act, ActAt W b (off + i * 5) q := by
        intro i hlt
        obtain ⟨ys, n, _, _, _, hfi⟩ := hi i (by omega)
        obtain ⟨v0, y0, c0, _, t0⟩ := hfi 0 _ rfl
        obtain ⟨v1, y1, c1, _, t1⟩ := hfi 1 _ rfl
        obtain ⟨v2, y2, c2, _, t2⟩ := hfi 2 _ rfl
        obtain ⟨v3, y3, c3, _, t3⟩ := hfi 3 _ rfl
        obtain ⟨v4, y4, c4, _, t4⟩ := hfi 4 _ rfl
        obtain ⟨k, rfl, k0, k1⟩ := trod_u8 t0
        obtain ⟨z, rfl, z0, z1⟩ := trod_i64 t1
        obtain ⟨l, hl⟩ := trod_bytes t2
        obtain ⟨y, rfl, _, _⟩ := trod_i64 t3
        obtain ⟨co, cn, cc, rfl⟩ := trod_ints t4
        obtain ⟨po, pc, rfl⟩ : ∃ o c, v2 = .slice o l.length c := by
          rcases hl with ⟨rfl, rfl⟩ | ⟨_, c, rfl, _⟩ <;> exact ⟨_, _, rfl⟩
        rw [add_none] at c0 c1 c2 c3 c4
        exact ⟨⟨k, z, po, pc, l, y, co, cn, cc⟩, c0, c1, c2, c3, c4, hl, k0, k1, z0, z1⟩
      let f : Nat → Act := fun i => if h : i < len then Classical.choose (key i h) else ⟨0, 0, none, 0, [], 0, none, 0, 0⟩
      have hlen : ((List.range len).map f).length = len := by simp
      refine ⟨(List.range len).map f, .inr ⟨b, off, cap, by rw [hlen], by rw [hlen]; exact h0, by rw [hlen]; exact hl, hm, ?_⟩⟩
      intro j q hq
      have hj : j < len := by
        have := (List.getElem?_eq_some_iff.1 hq).1
        rwa [hlen] at this
      have e : q = Classical.choose (key j hj) := by
        rw [List.getElem?_map, List.getElem?_range hj] at hq
        simp only [Option.map_some, Option.some.injEq] at hq
        rw [← hq]
        show (if h : j < len then Classical.choose (key j h) else _) = _
        rw [dif_pos hj]
      rw [e]
      exact Classical.choose_spec (key j hj)
end Go.Proofs.Ytoekgglgcolliaa
