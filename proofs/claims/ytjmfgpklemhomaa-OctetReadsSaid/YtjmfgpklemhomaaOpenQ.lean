/- An argument that is a slice of things to be asked, opened; two readers side by side. -/
import Derived.Test.YtjmfgpklemhomaaOctZ
namespace Go.Proofs.Ytjmfgpklemhomaa
open Go.ChangeShapes Go.WideShapes Go.ChangeAt Go.RowKit Go.Deep OctM

/-- A thing to be asked. -/
structure Ask where
  k : Int
  m : Int

structure AskAt (w : World) (b off : Nat) (p : Ask) : Prop where
  k : w.cell? ⟨b, off, none⟩ = some (.int .u8 p.k)
  m : w.cell? ⟨b, off + 1, none⟩ = some (.int .i64 p.m)
  k0 : 0 ≤ p.k
  k1 : p.k ≤ 255
  m0 : -9223372036854775808 ≤ p.m
  m1 : p.m ≤ 9223372036854775807

def RdA (w : World) (v : Value) (ps : List Ask) : Prop :=
  (∃ o c, v = .slice o 0 c ∧ ps = []) ∨
  ∃ b off c, v = .slice (some ⟨b, off, none⟩) ps.length c ∧ 0 < ps.length ∧ ps.length ≤ c ∧ c ≤ maxLen ∧ ∀ j p, ps[j]? = some p → AskAt w b (off + j * 2) p

theorem AskAt.below {w w' : World} {b off n : Nat} {p : Ask} (h : AskAt w b off p) (hb : Below n w w') (hn : w.heap.size ≤ n) : AskAt w' b off p := by
  have l1 := World.block_lt_of_cell? w _ h.k
  simp only at l1
  exact ⟨(hb.cell (by simp; omega)).trans h.k, (hb.cell (by simp; omega)).trans h.m, h.k0, h.k1, h.m0, h.m1⟩

theorem trod_i64 {H : Type} {enc : TypeId × Value → H} {W : World} {spare : Nat → Bool} {n : Nat} {v : Value} {y : DataW H × List MemPlace} (h : DataW.trod enc Try.prog W 0 spare true n 3 [v] = some y) : ∃ x, v = .int .i64 x ∧ -9223372036854775808 ≤ x ∧ x ≤ 9223372036854775807 := by
  cases n with
  | zero => simp [DataW.trod] at h
  | succ n =>
    simp only [DataW.trod, Try.underlying3] at h
    cases v <;> simp at h
    rename_i k x
    obtain ⟨⟨rfl, h1⟩, _⟩ := h
    have := bounds_i64 h1
    exact ⟨_, rfl, by omega, by omega⟩

theorem open_asks {H : Type} {enc : TypeId × Value → H} {W : World} {base : Nat} {v : Value} {d : DataW H} {p : List MemPlace} {ts : List TypeId} {ds : List (DataW H)} {j : Nat}
    (hv : Value.okWide Try.prog W .any base 46 v) (h : DataW.Trod enc Try.prog W 0 (fun _ => true) true 46 v d p)
    (_hsz : (DataW.weightsEach Try.prog ts ds).all (· ≤ reachBytes) = true) (_ht : ts[j]? = some 46) (_hd : ds[j]? = some d) : ∃ l, RdA W v l := by
  obtain ⟨a, len, cap, rfl⟩ := okWide_slice Try.underlying46 hv
  obtain ⟨fuel, hf⟩ := h
  rcases open_slice_fields Try.underlying46 Try.underlying51 (by kernel_rfl) (by kernel_rfl) hf with ⟨hcs, _⟩ | ⟨x, len', cap', m, D, Pl, hcs, _, hl, hm, hmm, _, hi⟩
  · simp only [Value.cells] at hcs
    simp at hcs
    obtain ⟨rfl, rfl, rfl⟩ := hcs
    exact ⟨[], .inl ⟨_, _, rfl, rfl⟩⟩
  · simp only [Value.cells] at hcs
    simp at hcs
    obtain ⟨rfl, rfl, rfl⟩ := hcs
    simp only [if_true] at hmm
    rcases Nat.eq_zero_or_pos len with rfl | h0
    · exact ⟨[], .inl ⟨_, _, rfl, rfl⟩⟩
    · have hx : x.spot = none := by
        obtain ⟨ys, n, _, _, _, hfi⟩ := hi 0 (by omega)
        obtain ⟨v0, y0, c0, _, t0⟩ := hfi 0 _ rfl
        obtain ⟨b, off, spot⟩ := x
        simpa [Addr.add] using World.cell?_spot c0
      obtain ⟨b, off, spot⟩ := x
      obtain rfl : spot = none := hx
      have key : ∀ i, i < len → ∃ q : Ask, AskAt W b (off + i * 2) q := by
        intro i hlt
        obtain ⟨ys, n, _, _, _, hfi⟩ := hi i (by omega)
        obtain ⟨v0, y0, c0, _, t0⟩ := hfi 0 _ rfl
        obtain ⟨v1, y1, c1, _, t1⟩ := hfi 1 _ rfl
        obtain ⟨k, rfl, k0, k1⟩ := trod_u8 t0
        obtain ⟨z, rfl, z0, z1⟩ := trod_i64 t1
        rw [add_none] at c0 c1
        exact ⟨⟨k, z⟩, c0, c1, k0, k1, z0, z1⟩
      let f : Nat → Ask := fun i => if h : i < len then Classical.choose (key i h) else ⟨0, 0⟩
      have hlen : ((List.range len).map f).length = len := by simp
      refine ⟨(List.range len).map f, .inr ⟨b, off, cap, by rw [hlen], by rw [hlen]; exact h0, by rw [hlen]; exact hl, hm, ?_⟩⟩
      intro j q hq
      have hj : j < len := by
        have := (List.getElem?_eq_some_iff.1 hq).1
        rwa [hlen] at this
      have e : q = Classical.choose (key j hj) := by
        rw [List.getElem?_map, List.getElem?_range hj] at hq
        simp only [Option.map_some, Option.some.injEq] at hq
        rw [← hq]
        show (if h : j < len then Classical.choose (key j h) else _) = _
        rw [dif_pos hj]
      rw [e]
      exact Classical.choose_spec (key j hj)

theorem rg_of_rd {w : World} {v : Value} {l : List UInt8} {bm : Nat} (h : Rd w v l) (hb : ∀ p : Addr, ∀ u, w.cell? p = some u → p.block ≠ bm) : RG (some ⟨bm, 0, none⟩) w v l := by
  rcases h with ⟨rfl, rfl⟩ | ⟨a, c, rfl, hn, hm, hc⟩
  · exact .inl (.inl ⟨rfl, rfl⟩)
  · rcases l with _ | ⟨x, t⟩
    · exact .inr ⟨rfl, a, c, rfl, hm⟩
    · obtain ⟨g, off, spot⟩ := a
      have h0 := hc 0 x rfl
      obtain rfl : spot = none := by simpa [Addr.add] using World.cell?_spot h0
      refine .inl (.inr ⟨g, off, c, rfl, ?_, hn, hm, fun j u hu => by rw [← add_none]; exact hc j u hu⟩)
      intro a ha
      cases ha
      have := hb _ _ h0
      rw [add_none] at this
      exact fun e => this e.symm

/-- The reference's reader, while the package's is at work. -/
theorem RR.other {w0 wr wA : World} {bm br : Nat} {v : Value} {l : List UInt8} {s : Option (List UInt8)} (h : RR wr bm v l s) (hk : Kept (own1 (some ⟨br, 0, none⟩)) wr wA) (hne : bm ≠ br) (hrd : Rd w0 v l) (hb : Below w0.heap.size w0 wA) (hm : w0.heap.size ≤ bm) : RR wA bm v l s := by
  obtain ⟨⟨a, hc, ha⟩, _⟩ := h
  refine ⟨⟨a, (hk.block bm (lt_of_block hc) (by rintro ⟨x, hx, h⟩; cases hx; exact hne h.symm)).trans hc, ha⟩, ?_⟩
  have h1 := rg_of_rd (bm := bm) hrd (fun p u hp => by have := World.block_lt_of_cell? w0 _ hp; omega)
  rcases h1 with (h1 | ⟨g, off, c, hv, ho, hl, hcm, hcell⟩) | h1
  · exact .inl (.inl h1)
  · exact .inl (.inr ⟨g, off, c, hv, ho, hl, hcm, fun j u hu => (hb.cell (World.block_lt_of_cell? w0 _ (hcell j u hu))).trans (hcell j u hu)⟩)
  · exact .inr h1

/-- The package's reader, while the reference's is at work. -/
theorem RS.other {wr wB : World} {bm br : Nat} {v : Value} {l : List UInt8} {s t : Option (List UInt8)} (h : RS wr (some ⟨br, 0, none⟩) s) (hk : Kept (own1 (some ⟨bm, 0, none⟩)) wr wB) (hne : bm ≠ br) (hr : RR wr bm v l t) : RS wB (some ⟨br, 0, none⟩) s := by
  obtain ⟨⟨a, hc, _⟩, hg⟩ := hr
  obtain ⟨o, n, c, rfl⟩ : ∃ o n c, v = .slice o n c := by
    rcases hg.rd with ⟨rfl, _⟩ | ⟨_, _, rfl, _⟩ <;> exact ⟨_, _, _, rfl⟩
  have key : ∀ {v' : Value} {l' : List UInt8}, Rg (some ⟨br, 0, none⟩) wr v' l' → Rg (some ⟨br, 0, none⟩) wB v' l' := by
    rintro v' l' (h | ⟨g, off, c', hv, ho, hl, hm, hcell⟩)
    · exact .inl h
    · refine .inr ⟨g, off, c', hv, ho, hl, hm, fun j u hu => ?_⟩
      have h1 := hcell j u hu
      by_cases hgb : g = bm
      · subst hgb
        exfalso
        unfold World.cell? at h1
        rw [hc] at h1
        rcases hq : off + j with _ | _ | q
        · rw [hq] at h1; simp [B] at h1
        · rw [hq] at h1; simp [B] at h1
        · rw [hq] at h1; simp at h1
      · exact (World.cell?_of_block (hk.block g (World.block_lt_of_cell? wr _ h1) (by rintro ⟨x, hx, h⟩; cases hx; exact hgb h.symm))).trans h1
  have kb : ∀ {o : Obj}, wr.heap[br]? = some o → wB.heap[br]? = some o := fun h1 => (hk.block br (lt_of_block h1) (by rintro ⟨x, hx, h⟩; cases hx; exact hne h)).trans h1
  cases h with
  | bad _ v' l' h1 h2 => exact .bad _ v' l' (kb h1) (key h2)
  | good _ v' l' h1 h2 => exact .good _ v' l' (kb h1) (key h2)
end Go.Proofs.Ytjmfgpklemhomaa
