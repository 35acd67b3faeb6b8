/- A script of the sessions' acts, opened. -/
import Derived.Test.YtlfnblgpekilnaaOpenA
import Derived.Test.YtlfnblgpekilnaaSesA
import Derived.Deep.Slices
import Derived.Deep.Strs
import Derived.Deep.Fields
import Derived.ChangeSame
namespace Go.Proofs.Ytlfnblgpekilnaa
open Go.ChangeShapes Go.WideShapes Go.ChangeAt Go.RowKit Go.Deep

/-- An act of the law's. -/
structure SA where
  k : Int
  id : Nat
  nm : Nat
  rp : List UInt8
  po : Option Addr
  pc : Nat

/-- An act's cells. -/
structure SActAt (w : World) (b off : Nat) (a : SA) : Prop where
  k : w.cell? ⟨b, off, none⟩ = some (.int .u8 a.k)
  id : w.cell? ⟨b, off + 1, none⟩ = some (.int .u64 (a.id : Int))
  nm : w.cell? ⟨b, off + 2, none⟩ = some (.int .u64 (a.nm : Int))
  p : w.cell? ⟨b, off + 3, none⟩ = some (.slice a.po a.rp.length a.pc)
  rd : Rd w (.slice a.po a.rp.length a.pc) a.rp
  bk : 0 ≤ a.k ∧ a.k ≤ 255
  bid : a.id < 18446744073709551616
  bnm : a.nm < 18446744073709551616

/-- A script. -/
def RdSA (w : World) (v : Value) (acts : List SA) : Prop :=
  (∃ o c, v = .slice o 0 c ∧ acts = []) ∨
  ∃ b off c, v = .slice (some ⟨b, off, none⟩) acts.length c ∧ 0 < acts.length ∧ acts.length ≤ c ∧ c ≤ maxLen ∧ ∀ j a, acts[j]? = some a → SActAt w b (off + j * 4) a

theorem SActAt.below {w w' : World} {b off n : Nat} {a : SA} (h : SActAt w b off a) (hb : Below n w w') (hn : w.heap.size ≤ n) : SActAt w' b off a := by
  have l1 := World.block_lt_of_cell? w _ h.k
  simp only at l1
  exact ⟨(hb.cell (by simp; omega)).trans h.k, (hb.cell (by simp; omega)).trans h.id, (hb.cell (by simp; omega)).trans h.nm, (hb.cell (by simp; omega)).trans h.p, h.rd.below (hb.mono hn), h.bk, h.bid, h.bnm⟩

theorem trod_u8 {H : Type} {enc : TypeId × Value → H} {W : World} {spare : Nat → Bool} {n : Nat} {v : Value} {y : DataW H × List MemPlace} (h : DataW.trod enc Try.prog W 0 spare true n 5 [v] = some y) : ∃ x, v = .int .u8 x ∧ 0 ≤ x ∧ x ≤ 255 := by
  cases n with
  | zero => simp [DataW.trod] at h
  | succ n =>
    simp only [DataW.trod, Try.underlying5] at h
    cases v <;> simp at h
    rename_i k x
    obtain ⟨⟨rfl, h1⟩, _⟩ := h
    have := bounds_u8 h1
    exact ⟨_, rfl, by omega, by omega⟩
theorem trod_u64 {H : Type} {enc : TypeId × Value → H} {W : World} {spare : Nat → Bool} {n : Nat} {v : Value} {y : DataW H × List MemPlace} (h : DataW.trod enc Try.prog W 0 spare true n 30 [v] = some y) : ∃ x : Nat, v = .int .u64 (x : Int) ∧ x < 18446744073709551616 := by
  cases n with
  | zero => simp [DataW.trod] at h
  | succ n =>
    simp only [DataW.trod, Try.underlying30] at h
    cases v <;> simp at h
    rename_i k x
    obtain ⟨⟨rfl, h1⟩, _⟩ := h
    have := bounds_u64 h1
    exact ⟨x.toNat, by congr 1; omega, by omega⟩
set_option maxRecDepth 100000 in
theorem trod_bytes {H : Type} {enc : TypeId × Value → H} {W : World} {n : Nat} {v : Value} {y : DataW H × List MemPlace} (h : DataW.trod enc Try.prog W 0 (fun _ => true) true n 31 [v] = some y) : ∃ l, Rd W v l := by
  rcases open_ints Try.underlying31 Try.underlying5 (by kernel_rfl) h with ⟨hcs, _⟩ | ⟨x, len, cap, zs, hcs, _, hl, hm, hz, _, hcell, hwz⟩
  · obtain rfl : v = .slice none 0 0 := by simpa using hcs
    exact ⟨[], .inl ⟨rfl, rfl⟩⟩
  · obtain rfl : v = .slice (some x) len cap := by simpa using hcs
    simp only [if_true] at hz
    have hlen : (zs.take len).length = len := by rw [List.length_take]; omega
    refine ⟨(zs.take len).map fun z => UInt8.ofNat z.toNat, .inr ⟨x, cap, by rw [List.length_map, hlen], by rw [List.length_map, hlen]; exact hl, hm, fun i u hu => ?_⟩⟩
    have hi : i < len := by
      have := (List.getElem?_eq_some_iff.1 hu).1
      rw [List.length_map, hlen] at this
      exact this
    rw [hcell i (by omega)]
    have hw := bounds_u8 (hwz (zs[i]'(by omega)) (List.getElem_mem _))
    have e1 : zs.getD i 0 = zs[i]'(by omega) := by simp [List.getD, show i < zs.length by omega]
    have e2 : u = UInt8.ofNat (zs[i]'(by omega)).toNat := by
      rw [List.getElem?_map, List.getElem?_take, if_pos hi, List.getElem?_eq_getElem (by omega)] at hu
      simpa using hu.symm
    rw [e1, e2]
    have := B_ofNat (zs[i]'(by omega)).toNat (by omega)
    rw [← this, Int.toNat_of_nonneg hw.1]

set_option maxRecDepth 100000 in
theorem trod_sact {H : Type} {enc : TypeId × Value → H} {W : World} {n b off : Nat} {cs : List Value} {y : DataW H × List MemPlace} (h : DataW.trod enc Try.prog W 0 (fun _ => true) true n 33 cs = some y) (hc : ∀ j v, cs[j]? = some v → W.cell? ⟨b, off + j, none⟩ = some v) : ∃ q : SA, SActAt W b off q := by
  obtain ⟨ys, n', hn', hy, hlen, hyl, hf⟩ := DataW.trod_struct Try.underlying33 h
  have hl4 : cs.length = 4 := hlen
  have k1 : Try.prog.cellsOf 5 = 1 := by kernel_rfl
  have k5 : Try.prog.cellsOf 30 = 1 := by kernel_rfl
  have k6 : Try.prog.cellsOf 31 = 1 := by kernel_rfl
  have hly : ys.length = 4 := hyl
  match cs, hl4, ys, hly with
  | [c0, c1, c2, c3], _, [y0, y1, y2, y3], _ =>
    have t0 : DataW.trod enc Try.prog W 0 (fun _ => true) true n' 5 (([c0, c1, c2, c3].drop 0).take (Try.prog.cellsOf 5)) = some y0 := hf 0 _ rfl
    have t1 : DataW.trod enc Try.prog W 0 (fun _ => true) true n' 30 (([c0, c1, c2, c3].drop 1).take (Try.prog.cellsOf 30)) = some y1 := hf 1 _ rfl
    have t2 : DataW.trod enc Try.prog W 0 (fun _ => true) true n' 30 (([c0, c1, c2, c3].drop 2).take (Try.prog.cellsOf 30)) = some y2 := hf 2 _ rfl
    have t3 : DataW.trod enc Try.prog W 0 (fun _ => true) true n' 31 (([c0, c1, c2, c3].drop 3).take (Try.prog.cellsOf 31)) = some y3 := hf 3 _ rfl
    rw [k1] at t0
    rw [k5] at t1 t2
    rw [k6] at t3
    obtain ⟨k, rfl, hk⟩ := trod_u8 (v := c0) t0
    obtain ⟨ix, rfl, hix⟩ := trod_u64 (v := c1) t1
    obtain ⟨tm, rfl, htm⟩ := trod_u64 (v := c2) t2
    obtain ⟨l, hl⟩ := trod_bytes (v := c3) t3
    obtain ⟨po, pc, rfl⟩ : ∃ o c, c3 = .slice o l.length c := by
      rcases hl with ⟨rfl, rfl⟩ | ⟨_, c, rfl, _⟩ <;> exact ⟨_, _, rfl⟩
    exact ⟨⟨k, ix, tm, l, po, pc⟩, hc 0 _ rfl, hc 1 _ rfl, hc 2 _ rfl, hc 3 _ rfl, hl, hk, hix, htm⟩

set_option maxRecDepth 100000 in
theorem open_sacts {H : Type} {enc : TypeId × Value → H} {W : World} {base : Nat} {v : Value} {d : DataW H} {p : List MemPlace} {ts : List TypeId} {ds : List (DataW H)} {j : Nat}
    (hv : Value.okWide Try.prog W .any base 22 v) (h : DataW.Trod enc Try.prog W 0 (fun _ => true) true 22 v d p)
    (_hsz : (DataW.weightsEach Try.prog ts ds).all (· ≤ reachBytes) = true) (_ht : ts[j]? = some 22) (_hd : ds[j]? = some d) : ∃ l, RdSA W v l := by
  obtain ⟨a, len, cap, rfl⟩ := okWide_slice Try.underlying22 hv
  obtain ⟨fuel, hf⟩ := h
  have k7 : Try.prog.cellsOf 33 = 4 := by kernel_rfl
  rcases open_slice Try.underlying22 hf with ⟨hcs, _⟩ | ⟨x, len', cap', m, n, D, Pl, hcs, _, hl, hm, hmm, _, hi⟩
  · simp only [Value.cells] at hcs
    simp at hcs
    obtain ⟨rfl, rfl, rfl⟩ := hcs
    exact ⟨[], .inl ⟨_, _, rfl, rfl⟩⟩
  · simp only [Value.cells] at hcs
    simp at hcs
    obtain ⟨rfl, rfl, rfl⟩ := hcs
    simp only [if_true] at hmm
    rw [k7] at hi
    rcases Nat.eq_zero_or_pos len with rfl | h0
    · exact ⟨[], .inl ⟨_, _, rfl, rfl⟩⟩
    · have hx : x.spot = none := by
        obtain ⟨cs', hc, _⟩ := hi 0 (by omega)
        obtain ⟨_, hcl, hat⟩ := World.cells?_some hc
        have h1 := hat 0 (by omega)
        rw [List.getElem?_eq_getElem (by omega)] at h1
        obtain ⟨b, off, spot⟩ := x
        simpa [Addr.add] using World.cell?_spot h1
      obtain ⟨b, off, spot⟩ := x
      obtain rfl : spot = none := hx
      have key : ∀ i, i < len → ∃ q : SA, SActAt W b (off + i * 4) q := by
        intro i hlt
        obtain ⟨cs', hc, ht⟩ := hi i (by omega)
        obtain ⟨_, hcl, hat⟩ := World.cells?_some hc
        refine trod_sact ht (fun j v hj => ?_)
        have hjl : j < 4 := by
          have := (List.getElem?_eq_some_iff.1 hj).1
          omega
        have h1 := hat j hjl
        rw [add_none, add_none] at h1
        rw [h1]
        exact hj
      let f : Nat → SA := fun i => if h : i < len then Classical.choose (key i h) else ⟨0, 0, 0, [], none, 0⟩
      have hlen : ((List.range len).map f).length = len := by simp
      refine ⟨(List.range len).map f, .inr ⟨b, off, cap, by rw [hlen], by rw [hlen]; exact h0, by rw [hlen]; exact hl, hm, ?_⟩⟩
      intro j q hq
      have hj : j < len := by
        have := (List.getElem?_eq_some_iff.1 hq).1
        rwa [hlen] at this
      have e : q = Classical.choose (key j hj) := by
        rw [List.getElem?_map, List.getElem?_range hj] at hq
        simp only [Option.map_some, Option.some.injEq] at hq
        rw [← hq]
        show (if h : j < len then Classical.choose (key j h) else _) = _
        rw [dif_pos hj]
      rw [e]
      exact Classical.choose_spec (key j hj)
end Go.Proofs.Ytlfnblgpekilnaa
