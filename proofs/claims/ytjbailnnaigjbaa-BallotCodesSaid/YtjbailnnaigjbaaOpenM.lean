/- An argument that is a message, opened. -/
import Derived.Test.YtjbailnnaigjbaaLBCodes
import Derived.Test.YtjbailnnaigjbaaOpenA
import Derived.Deep.Slices
import Derived.Deep.Fields
import Derived.ChangeSame
namespace Go.Proofs.Ytjbailnnaigjbaa
open Go.ChangeShapes Go.WideShapes Go.ChangeAt Go.RowKit Go.Deep OctM

section
variable {H : Type} {enc : TypeId × Value → H} {P : Program} {w : World} {base : Nat} {spare : Nat → Bool} {held : Bool}
theorem open_slice_fields2 {t e : TypeId} {fs : Array Field} {fuel : Nat} {cs : List Value} {x : DataW H × List MemPlace} (ht : P.underlying t = some (.slice e)) (he : P.underlying e = some (.struct fs))
    (hone : oneCellFields P fs = true) (hC : P.cellsOf e = fs.size) (h : DataW.trod enc P w base spare held fuel t cs = some x) :
    (cs = [.slice none 0 0] ∧ x = (.nil, [])) ∨
    ∃ (a : Addr) (len cap m : Nat) (D : Nat → DataW H) (Pl : Nat → List MemPlace), cs = [.slice (some a) len cap] ∧ base ≤ a.block ∧ len ≤ cap ∧ cap ≤ maxLen ∧ m = (if spare a.block then cap else len) ∧
      x = (.slice ((List.range len).map D) ((List.range (m - len)).map fun j => D (len + j)), MemPlace.row a (m * fs.size) ++ (List.range m).flatMap Pl) ∧
      ∀ i, i < m → ∃ (ys : List (DataW H × List MemPlace)) (n : Nat), D i = .agg (ys.map (·.1)) ∧ Pl i = ys.flatMap (·.2) ∧ ys.length = fs.size ∧
        ∀ (j : Nat) (f : Field), fs[j]? = some f → ∃ (v : Value) (y : DataW H × List MemPlace), w.cell? (a.add (i * fs.size + j)) = some v ∧ ys[j]? = some y ∧ DataW.trod enc P w base spare held n f.type [v] = some y := by
  rcases open_slice ht h with h0 | ⟨a, len, cap, m, n, D, Pl, hcs, hb, hl, hm, hmm, hx, hi⟩
  · exact .inl h0
  · refine .inr ⟨a, len, cap, m, D, Pl, hcs, hb, hl, hm, hmm, by rw [hC] at hx; exact hx, fun i him => ?_⟩
    obtain ⟨cs', hc, ht'⟩ := hi i him
    rw [hC] at hc
    obtain ⟨ys, n', hn', hy, hlen, hyl, hf⟩ := DataW.trod_struct he ht'
    obtain ⟨_, hcl, hat⟩ := World.cells?_some hc
    simp only [Prod.mk.injEq] at hy
    refine ⟨ys, n', hy.1, hy.2, hyl, fun j f hj => ?_⟩
    obtain ⟨ho, hk⟩ := hone_of hone j f hj
    have hjl : j < fs.size := (Array.getElem?_eq_some_iff.1 hj).1
    have hcell := hat j hjl
    have hv : cs'[j]? = some (cs'[j]'(by omega)) := List.getElem?_eq_getElem (by omega)
    have h1 := hf j f hj
    rw [ho, hk] at h1
    have hone' : (cs'.drop j).take 1 = [cs'[j]'(by omega)] := by
      rw [List.drop_eq_getElem_cons (by omega)]
      rfl
    rw [hone'] at h1
    have hys : ys[j]? = some (ys[j]'(by omega)) := List.getElem?_eq_getElem (by omega)
    refine ⟨_, _, ?_, hys, h1.trans hys⟩
    rw [← Go.Deep.add_add, hcell, hv]
end
theorem trod_u8' {H : Type} {enc : TypeId × Value → H} {W : World} {spare : Nat → Bool} {n : Nat} {v : Value} {y : DataW H × List MemPlace} (h : DataW.trod enc Try.prog W 0 spare true n 5 [v] = some y) : ∃ x : Nat, v = .int .u8 (x : Int) ∧ x ≤ 255 := by
  cases n with
  | zero => simp [DataW.trod] at h
  | succ n =>
    simp only [DataW.trod, Try.underlying5] at h
    cases v <;> simp at h
    rename_i k x
    obtain ⟨⟨rfl, h1⟩, _⟩ := h
    have := bounds_u8 h1
    exact ⟨x.toNat, by rw [Int.toNat_of_nonneg this.1], by omega⟩
theorem trod_u64' {H : Type} {enc : TypeId × Value → H} {W : World} {spare : Nat → Bool} {n : Nat} {v : Value} {y : DataW H × List MemPlace} (h : DataW.trod enc Try.prog W 0 spare true n 32 [v] = some y) : ∃ x : Nat, v = .int .u64 (x : Int) ∧ x < 18446744073709551616 := by
  cases n with
  | zero => simp [DataW.trod] at h
  | succ n =>
    simp only [DataW.trod, Try.underlying32] at h
    cases v <;> simp at h
    rename_i k x
    obtain ⟨⟨rfl, h1⟩, _⟩ := h
    have := bounds_u64 h1
    exact ⟨x.toNat, by rw [Int.toNat_of_nonneg this.1], by omega⟩
theorem trod_int' {H : Type} {enc : TypeId × Value → H} {W : World} {spare : Nat → Bool} {n : Nat} {v : Value} {y : DataW H × List MemPlace} (h : DataW.trod enc Try.prog W 0 spare true n 3 [v] = some y) : ∃ x : Int, v = .int .i64 x ∧ -9223372036854775808 ≤ x ∧ x ≤ 9223372036854775807 := by
  cases n with
  | zero => simp [DataW.trod] at h
  | succ n =>
    simp only [DataW.trod, Try.underlying3] at h
    cases v <;> simp at h
    rename_i k x
    obtain ⟨⟨rfl, h1⟩, _⟩ := h
    have := bounds_i64 h1
    exact ⟨_, rfl, this.1, this.2⟩
theorem trod_bool' {H : Type} {enc : TypeId × Value → H} {W : World} {spare : Nat → Bool} {n : Nat} {v : Value} {y : DataW H × List MemPlace} (h : DataW.trod enc Try.prog W 0 spare true n 4 [v] = some y) : ∃ x : Bool, v = .bool x := by
  cases n with
  | zero => simp [DataW.trod] at h
  | succ n =>
    simp only [DataW.trod, Try.underlying4] at h
    cases v <;> simp at h
    exact ⟨_, rfl⟩
theorem trod_bytes' {H : Type} {enc : TypeId × Value → H} {W : World} {n : Nat} {v : Value} {y : DataW H × List MemPlace} (h : DataW.trod enc Try.prog W 0 (fun _ => true) true n 35 [v] = some y) : ∃ l, Rd W v l := by
  rcases open_ints Try.underlying35 Try.underlying5 (by kernel_rfl) h with ⟨hcs, _⟩ | ⟨x, len, cap, zs, hcs, _, hl, hm, hz, _, hcell, hwz⟩
  · obtain rfl : v = .slice none 0 0 := by simpa using hcs
    exact ⟨[], .inl ⟨rfl, rfl⟩⟩
  · obtain rfl : v = .slice (some x) len cap := by simpa using hcs
    simp only [if_true] at hz
    have hlen : (zs.take len).length = len := by rw [List.length_take]; omega
    refine ⟨(zs.take len).map fun z => UInt8.ofNat z.toNat, .inr ⟨x, cap, by rw [List.length_map, hlen], by rw [List.length_map, hlen]; exact hl, hm, fun i u hu => ?_⟩⟩
    have hi : i < len := by
      have := (List.getElem?_eq_some_iff.1 hu).1
      rw [List.length_map, hlen] at this
      exact this
    rw [hcell i (by omega)]
    have hw := bounds_u8 (hwz (zs[i]'(by omega)) (List.getElem_mem _))
    have e1 : zs.getD i 0 = zs[i]'(by omega) := by simp [List.getD, show i < zs.length by omega]
    have e2 : u = UInt8.ofNat (zs[i]'(by omega)).toNat := by
      rw [List.getElem?_map, List.getElem?_take, if_pos hi, List.getElem?_eq_getElem (by omega)] at hu
      simpa using hu.symm
    rw [e1, e2]
    have := B_ofNat (zs[i]'(by omega)).toNat (by omega)
    rw [← this, Int.toNat_of_nonneg hw.1]
set_option maxRecDepth 100000 in
theorem trod_ens {H : Type} {enc : TypeId × Value → H} {W : World} {n : Nat} {v : Value} {y : DataW H × List MemPlace} (h : DataW.trod enc Try.prog W 0 (fun _ => true) true n 29 [v] = some y) : ∃ es, RE W v es ∧ ∀ x ∈ es, EnT x := by
  rcases open_slice_fields2 Try.underlying29 Try.underlying51 (by kernel_rfl) (by kernel_rfl) h with ⟨hcs, _⟩ | ⟨x, len, cap, m, D, Pl, hcs, _, hl, hm, hmm, _, hi⟩
  · obtain rfl : v = .slice none 0 0 := by simpa using hcs
    exact ⟨[], ⟨none, 0, rfl, fun i x h => by simp at h⟩, fun x hx => by simp at hx⟩
  · obtain rfl : v = .slice (some x) len cap := by simpa using hcs
    simp only [if_true] at hmm
    have key : ∀ i, i < len → ∃ q : En, (∃ b off, x = ⟨b, off, none⟩ ∧ EnR W b (off + i * 4) q) ∧ EnT q := by
      intro i hlt
      obtain ⟨ys, n, _, _, _, hfi⟩ := hi i (by omega)
      obtain ⟨v0, y0, c0, _, t0⟩ := hfi 0 _ rfl
      obtain ⟨v1, y1, c1, _, t1⟩ := hfi 1 _ rfl
      obtain ⟨v2, y2, c2, _, t2⟩ := hfi 2 _ rfl
      obtain ⟨v3, y3, c3, _, t3⟩ := hfi 3 _ rfl
      obtain ⟨z0, rfl, k0⟩ := trod_u64' t0
      obtain ⟨z1, rfl, k1⟩ := trod_u64' t1
      obtain ⟨z2, rfl, k2⟩ := trod_u64' t2
      obtain ⟨l, hl⟩ := trod_bytes' t3
      obtain ⟨ys', n', _, _, _, hfi'⟩ := hi 0 (by omega)
      obtain ⟨v0', y0', c0', _, _⟩ := hfi' 0 _ rfl
      obtain ⟨b, off, spot⟩ := x
      obtain rfl : spot = none := by simpa [Addr.add] using World.cell?_spot c0'
      rw [add_none] at c0 c1 c2 c3
      exact ⟨⟨z0, z1, z2, l⟩, ⟨b, off, rfl, v3, c0, c1, c2, c3, hl⟩, k0, k1, k2⟩
    let f : Nat → En := fun i => if h : i < len then Classical.choose (key i h) else ⟨0, 0, 0, []⟩
    have hlen : ((List.range len).map f).length = len := by simp
    have hat : ∀ j q, ((List.range len).map f)[j]? = some q → (∃ b off, x = ⟨b, off, none⟩ ∧ EnR W b (off + j * 4) q) ∧ EnT q := by
      intro j q hq
      have hj : j < len := by
        have := (List.getElem?_eq_some_iff.1 hq).1
        rwa [hlen] at this
      have e : q = Classical.choose (key j hj) := by
        rw [List.getElem?_map, List.getElem?_range hj] at hq
        simp only [Option.map_some, Option.some.injEq] at hq
        rw [← hq]
        show (if h : j < len then Classical.choose (key j h) else _) = _
        rw [dif_pos hj]
      rw [e]
      exact Classical.choose_spec (key j hj)
    refine ⟨(List.range len).map f, ⟨some x, cap, by rw [hlen], fun j q hq => ?_⟩, fun q hq => ?_⟩
    · obtain ⟨b, off, e, h1⟩ := (hat j q hq).1
      exact ⟨b, off, by rw [e], h1⟩
    · obtain ⟨j, hj⟩ := List.getElem?_of_mem hq
      exact (hat j q hj).2

set_option maxRecDepth 100000 in
theorem open_msg {H : Type} {enc : TypeId × Value → H} {W : World} {base : Nat} {v : Value} {d : DataW H} {p : List MemPlace} {ts : List TypeId} {ds : List (DataW H)} {j : Nat}
    (hv : Value.okWide Try.prog W .any base 49 v) (h : DataW.Trod enc Try.prog W 0 (fun _ => true) true 49 v d p)
    (_hsz : (DataW.weightsEach Try.prog ts ds).all (· ≤ reachBytes) = true) (_ht : ts[j]? = some 49) (_hd : ds[j]? = some d) : ∃ q : Mg × Value × Value, v = mgV q.1 q.2.1 q.2.2 ∧ RE W q.2.1 q.1.es ∧ Rd W q.2.2 q.1.dt ∧ OkT q.1 := by
  obtain ⟨cs, rfl, hcs⟩ := okWide_struct Try.underlying49 hv
  rw [show Try.prog.cellsOf 49 = 10 by kernel_rfl] at hcs
  obtain ⟨fuel, hf⟩ := h
  simp only [Value.cells] at hf
  obtain ⟨xs, n, hn, hx, hl, hxl, hfs⟩ := DataW.trod_struct Try.underlying49 hf
  obtain ⟨cl⟩ := cs
  match cl, hcs with
  | [c0, c1, c2, c3, c4, c5, c6, c7, c8, c9], _ =>
    match xs, (show xs.length = 10 from hxl) with
    | [x0, x1, x2, x3, x4, x5, x6, x7, x8, x9], _ =>
      have t0 := hfs 0 _ rfl
      have t1 := hfs 1 _ rfl
      have t2 := hfs 2 _ rfl
      have t3 := hfs 3 _ rfl
      have t4 := hfs 4 _ rfl
      have t5 := hfs 5 _ rfl
      have t6 := hfs 6 _ rfl
      have t7 := hfs 7 _ rfl
      have t8 := hfs 8 _ rfl
      have t9 := hfs 9 _ rfl
      obtain ⟨k, rfl, k0⟩ := trod_u8' t0
      obtain ⟨fr, rfl, k1, k1'⟩ := trod_int' t1
      obtain ⟨tg, rfl, k2, k2'⟩ := trod_int' t2
      obtain ⟨tm, rfl, k3⟩ := trod_u64' t3
      obtain ⟨ix, rfl, k4⟩ := trod_u64' t4
      obtain ⟨lt, rfl, k5⟩ := trod_u64' t5
      obtain ⟨cm, rfl, k6⟩ := trod_u64' t6
      obtain ⟨ok, rfl⟩ := trod_bool' t7
      obtain ⟨es, he, hT⟩ := trod_ens t8
      obtain ⟨dt, hd⟩ := trod_bytes' t9
      exact ⟨(⟨k, fr, tg, tm, ix, lt, cm, ok, es, dt⟩, c8, c9), rfl, he, hd, k0, k1, k1', k2, k2', k3, k4, k5, k6, hT⟩

theorem bcodes_law (_v : Value) (q : Mg × Value × Value) (w : World) (h : _v = mgV q.1 q.2.1 q.2.2 ∧ RE w q.2.1 q.1.es ∧ Rd w q.2.2 q.1.dt ∧ OkT q.1) :
    Calls Try.prog 4 #[_v] w fun e w' => e = .returned (.bool true) ∧ Below w.heap.size w w' := by
  obtain ⟨rfl, h1, h2, h3⟩ := h
  exact bcodes_walk q.1 q.2.1 q.2.2 w h1 h2 h3
end Go.Proofs.Ytjbailnnaigjbaa
