/- An argument that is a slice of functions, opened. -/
import Derived.Test.YthmnhacgcdcbiaaOpenA
import Derived.Test.YthmnhacgcdcbiaaCodA
import Derived.Deep.Slices
import Derived.Deep.Fields
import Derived.ChangeSame
namespace Go.Proofs.Ythmnhacgcdcbiaa
open Go.ChangeShapes Go.WideShapes Go.ChangeAt Go.RowKit Go.Deep CodM

section
variable {H : Type} {enc : TypeId × Value → H} {P : Program} {w : World} {base : Nat} {spare : Nat → Bool} {held : Bool}
theorem open_slice_fields {t e : TypeId} {fs : Array Field} {fuel : Nat} {cs : List Value} {x : DataW H × List MemPlace} (ht : P.underlying t = some (.slice e)) (he : P.underlying e = some (.struct fs))
    (hone : oneCellFields P fs = true) (hC : P.cellsOf e = fs.size) (h : DataW.trod enc P w base spare held fuel t cs = some x) :
    (cs = [.slice none 0 0] ∧ x = (.nil, [])) ∨
    ∃ (a : Addr) (len cap m : Nat) (D : Nat → DataW H) (Pl : Nat → List MemPlace), cs = [.slice (some a) len cap] ∧ base ≤ a.block ∧ len ≤ cap ∧ cap ≤ maxLen ∧ m = (if spare a.block then cap else len) ∧
      x = (.slice ((List.range len).map D) ((List.range (m - len)).map fun j => D (len + j)), MemPlace.row a (m * fs.size) ++ (List.range m).flatMap Pl) ∧
      ∀ i, i < m → ∃ (ys : List (DataW H × List MemPlace)) (n : Nat), D i = .agg (ys.map (·.1)) ∧ Pl i = ys.flatMap (·.2) ∧ ys.length = fs.size ∧
        ∀ (j : Nat) (f : Field), fs[j]? = some f → ∃ (v : Value) (y : DataW H × List MemPlace), w.cell? (a.add (i * fs.size + j)) = some v ∧ ys[j]? = some y ∧ DataW.trod enc P w base spare held n f.type [v] = some y := by
  rcases open_slice ht h with h0 | ⟨a, len, cap, m, n, D, Pl, hcs, hb, hl, hm, hmm, hx, hi⟩
  · exact .inl h0
  · refine .inr ⟨a, len, cap, m, D, Pl, hcs, hb, hl, hm, hmm, by rw [hC] at hx; exact hx, fun i him => ?_⟩
    obtain ⟨cs', hc, ht'⟩ := hi i him
    rw [hC] at hc
    obtain ⟨ys, n', hn', hy, hlen, hyl, hf⟩ := DataW.trod_struct he ht'
    obtain ⟨_, hcl, hat⟩ := World.cells?_some hc
    simp only [Prod.mk.injEq] at hy
    refine ⟨ys, n', hy.1, hy.2, hyl, fun j f hj => ?_⟩
    obtain ⟨ho, hk⟩ := hone_of hone j f hj
    have hjl : j < fs.size := (Array.getElem?_eq_some_iff.1 hj).1
    have hcell := hat j hjl
    have hv : cs'[j]? = some (cs'[j]'(by omega)) := List.getElem?_eq_getElem (by omega)
    have h1 := hf j f hj
    rw [ho, hk] at h1
    have hone' : (cs'.drop j).take 1 = [cs'[j]'(by omega)] := by
      rw [List.drop_eq_getElem_cons (by omega)]
      rfl
    rw [hone'] at h1
    have hys : ys[j]? = some (ys[j]'(by omega)) := List.getElem?_eq_getElem (by omega)
    refine ⟨_, _, ?_, hys, h1.trans hys⟩
    rw [← Go.Deep.add_add, hcell, hv]
end

theorem trod_u8 {H : Type} {enc : TypeId × Value → H} {W : World} {spare : Nat → Bool} {n : Nat} {v : Value} {y : DataW H × List MemPlace} (h : DataW.trod enc Try.prog W 0 spare true n 5 [v] = some y) : ∃ x, v = .int .u8 x ∧ 0 ≤ x ∧ x ≤ 255 := by
  cases n with
  | zero => simp [DataW.trod] at h
  | succ n =>
    simp only [DataW.trod, Try.underlying5] at h
    cases v <;> simp at h
    rename_i k x
    obtain ⟨⟨rfl, h1⟩, _⟩ := h
    have := bounds_u8 h1
    exact ⟨_, rfl, by omega, by omega⟩

theorem trod_i64 {H : Type} {enc : TypeId × Value → H} {W : World} {spare : Nat → Bool} {n : Nat} {v : Value} {y : DataW H × List MemPlace} (h : DataW.trod enc Try.prog W 0 spare true n 2 [v] = some y) : ∃ x, v = .int .i64 x := by
  cases n with
  | zero => simp [DataW.trod] at h
  | succ n =>
    simp only [DataW.trod, Try.underlying2] at h
    cases v <;> simp at h
    rename_i k x
    obtain ⟨⟨rfl, h1⟩, _⟩ := h
    exact ⟨_, rfl⟩
theorem trod_int {H : Type} {enc : TypeId × Value → H} {W : World} {spare : Nat → Bool} {n : Nat} {v : Value} {y : DataW H × List MemPlace} (h : DataW.trod enc Try.prog W 0 spare true n 3 [v] = some y) : ∃ x, v = .int .i64 x := by
  cases n with
  | zero => simp [DataW.trod] at h
  | succ n =>
    simp only [DataW.trod, Try.underlying3] at h
    cases v <;> simp at h
    rename_i k x
    obtain ⟨⟨rfl, h1⟩, _⟩ := h
    exact ⟨_, rfl⟩
theorem trod_str {H : Type} {enc : TypeId × Value → H} {W : World} {spare : Nat → Bool} {n : Nat} {v : Value} {y : DataW H × List MemPlace} (h : DataW.trod enc Try.prog W 0 spare true n 9 [v] = some y) : ∃ x, v = .string x := by
  cases n with
  | zero => simp [DataW.trod] at h
  | succ n =>
    simp only [DataW.trod, Try.underlying9] at h
    cases v <;> simp at h
    exact ⟨_, rfl⟩

theorem choose_list {α : Type} (len : Nat) (Q : Nat → α → Prop) (d : α) (h : ∀ i, i < len → ∃ q, Q i q) : ∃ l : List α, l.length = len ∧ ∀ (j : Nat) (q : α), l[j]? = some q → Q j q := by
  let f : Nat → α := fun i => if h' : i < len then Classical.choose (h i h') else d
  refine ⟨(List.range len).map f, by simp, fun j q hq => ?_⟩
  have hj : j < len := by
    have := (List.getElem?_eq_some_iff.1 hq).1
    simpa using this
  have e : q = Classical.choose (h j hj) := by
    rw [List.getElem?_map, List.getElem?_range hj] at hq
    simp only [Option.map_some, Option.some.injEq] at hq
    rw [← hq]
    show (if h' : j < len then Classical.choose (h j h') else _) = _
    rw [dif_pos hj]
  rw [e]
  exact Classical.choose_spec (h j hj)

theorem trod_inss {H : Type} {enc : TypeId × Value → H} {W : World} {n : Nat} {v : Value} {y : DataW H × List MemPlace} (h : DataW.trod enc Try.prog W 0 (fun _ => true) true n 30 [v] = some y) : ∃ l, RdI W v l := by
  rcases open_slice_fields Try.underlying30 Try.underlying34 (by kernel_rfl) (by kernel_rfl) h with ⟨hcs, _⟩ | ⟨x, len, cap, m, D, Pl, hcs, _, hl, hm, hmm, _, hi⟩
  · obtain rfl : v = .slice none 0 0 := by simpa using hcs
    exact ⟨[], .inl ⟨_, _, rfl, rfl⟩⟩
  · obtain rfl : v = .slice (some x) len cap := by simpa using hcs
    simp only [if_true] at hmm
    rcases Nat.eq_zero_or_pos len with rfl | h0
    · exact ⟨[], .inl ⟨_, _, rfl, rfl⟩⟩
    · have hx : x.spot = none := by
        obtain ⟨ys, n, _, _, _, hfi⟩ := hi 0 (by omega)
        obtain ⟨v0, y0, c0, _, t0⟩ := hfi 0 _ rfl
        obtain ⟨b, off, spot⟩ := x
        simpa [Addr.add] using World.cell?_spot c0
      obtain ⟨b, off, spot⟩ := x
      obtain rfl : spot = none := hx
      obtain ⟨l, hlen, hall⟩ := choose_list len (fun i (q : Ins) => W.cell? ⟨b, off + i * 4, none⟩ = some (.int .u8 (q.op : Int)) ∧ W.cell? ⟨b, off + i * 4 + 1, none⟩ = some (.int .i64 q.n) ∧ W.cell? ⟨b, off + i * 4 + 2, none⟩ = some (.int .i64 q.a) ∧ W.cell? ⟨b, off + i * 4 + 3, none⟩ = some (.string q.s)) ⟨0, 0, 0, ⟨#[]⟩⟩ (by
        intro i hlt
        obtain ⟨ys, n, _, _, _, hfi⟩ := hi i (by omega)
        obtain ⟨v0, y0, c0, _, t0⟩ := hfi 0 _ rfl
        obtain ⟨v1, y1, c1, _, t1⟩ := hfi 1 _ rfl
        obtain ⟨v2, y2, c2, _, t2⟩ := hfi 2 _ rfl
        obtain ⟨v3, y3, c3, _, t3⟩ := hfi 3 _ rfl
        obtain ⟨z, rfl, k0, k1⟩ := trod_u8 t0
        obtain ⟨n, rfl⟩ := trod_i64 t1
        obtain ⟨a, rfl⟩ := trod_int t2
        obtain ⟨s, rfl⟩ := trod_str t3
        rw [add_none] at c0 c1 c2 c3
        exact ⟨⟨z.toNat, n, a, s⟩, by rw [show ((z.toNat : Nat) : Int) = z by omega]; exact c0, c1, c2, c3⟩)
      exact ⟨l, .inr ⟨b, off, cap, by rw [hlen], by omega, by omega, hm, hall⟩⟩

theorem open_funs {H : Type} {enc : TypeId × Value → H} {W : World} {base : Nat} {v : Value} {d : DataW H} {p : List MemPlace} {ts : List TypeId} {ds : List (DataW H)} {j : Nat}
    (hv : Value.okWide Try.prog W .any base 22 v) (h : DataW.Trod enc Try.prog W 0 (fun _ => true) true 22 v d p)
    (_hsz : (DataW.weightsEach Try.prog ts ds).all (· ≤ reachBytes) = true) (_ht : ts[j]? = some 22) (_hd : ds[j]? = some d) : ∃ l, RdF W v l := by
  obtain ⟨a, len, cap, rfl⟩ := okWide_slice Try.underlying22 hv
  obtain ⟨fuel, hf⟩ := h
  rcases open_slice_fields Try.underlying22 Try.underlying32 (by kernel_rfl) (by kernel_rfl) hf with ⟨hcs, _⟩ | ⟨x, len', cap', m, D, Pl, hcs, _, hl, hm, hmm, _, hi⟩
  · simp only [Value.cells] at hcs
    simp at hcs
    obtain ⟨rfl, rfl, rfl⟩ := hcs
    exact ⟨[], .inl ⟨_, _, rfl, rfl⟩⟩
  · simp only [Value.cells] at hcs
    simp at hcs
    obtain ⟨rfl, rfl, rfl⟩ := hcs
    simp only [if_true] at hmm
    rcases Nat.eq_zero_or_pos len with rfl | h0
    · exact ⟨[], .inl ⟨_, _, rfl, rfl⟩⟩
    · have hx : x.spot = none := by
        obtain ⟨ys, n, _, _, _, hfi⟩ := hi 0 (by omega)
        obtain ⟨v0, y0, c0, _, t0⟩ := hfi 0 _ rfl
        obtain ⟨b, off, spot⟩ := x
        simpa [Addr.add] using World.cell?_spot c0
      obtain ⟨b, off, spot⟩ := x
      obtain rfl : spot = none := hx
      obtain ⟨l, hlen, hall⟩ := choose_list len (fun i (q : Fun) => W.cell? ⟨b, off + i * 2, none⟩ = some (.int .i64 q.caps) ∧ ∃ u, W.cell? ⟨b, off + i * 2 + 1, none⟩ = some u ∧ RdI W u q.code) ⟨0, []⟩ (by
        intro i hlt
        obtain ⟨ys, n, _, _, _, hfi⟩ := hi i (by omega)
        obtain ⟨v0, y0, c0, _, t0⟩ := hfi 0 _ rfl
        obtain ⟨v1, y1, c1, _, t1⟩ := hfi 1 _ rfl
        obtain ⟨z, rfl⟩ := trod_int t0
        obtain ⟨q, hq⟩ := trod_inss t1
        rw [add_none] at c0 c1
        exact ⟨⟨z, q⟩, c0, v1, c1, hq⟩)
      exact ⟨l, .inr ⟨b, off, cap, by rw [hlen], by omega, by omega, hm, hall⟩⟩
end Go.Proofs.Ythmnhacgcdcbiaa
