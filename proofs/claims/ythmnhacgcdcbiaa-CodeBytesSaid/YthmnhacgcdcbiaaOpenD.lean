/- An argument that is a slice of functions, opened: with what its types say of its numbers. -/
import Derived.Test.YthmnhacgcdcbiaaOpenC
namespace Go.Proofs.Ythmnhacgcdcbiaa
open Go.ChangeShapes Go.WideShapes Go.ChangeAt Go.RowKit Go.Deep CodM

structure InsT (x : Ins) : Prop where
  op : x.op ≤ 255
  n0 : -9223372036854775808 ≤ x.n
  n1 : x.n ≤ 9223372036854775807
def FunsT (fs : List Fun) : Prop := ∀ f ∈ fs, ∀ x ∈ f.code, InsT x
theorem trod_i64b {H : Type} {enc : TypeId × Value → H} {W : World} {spare : Nat → Bool} {n : Nat} {v : Value} {y : DataW H × List MemPlace} (h : DataW.trod enc Try.prog W 0 spare true n 2 [v] = some y) : ∃ x, v = .int .i64 x ∧ -9223372036854775808 ≤ x ∧ x ≤ 9223372036854775807 := by
  cases n with
  | zero => simp [DataW.trod] at h
  | succ n =>
    simp only [DataW.trod, Try.underlying2] at h
    cases v <;> simp at h
    rename_i k x
    obtain ⟨⟨rfl, h1⟩, _⟩ := h
    have := bounds_i64 h1
    exact ⟨_, rfl, by omega, by omega⟩

theorem trod_inss2 {H : Type} {enc : TypeId × Value → H} {W : World} {n : Nat} {v : Value} {y : DataW H × List MemPlace} (h : DataW.trod enc Try.prog W 0 (fun _ => true) true n 30 [v] = some y) : ∃ l, RdI W v l ∧ ∀ x ∈ l, InsT x := by
  rcases open_slice_fields Try.underlying30 Try.underlying34 (by kernel_rfl) (by kernel_rfl) h with ⟨hcs, _⟩ | ⟨x, len, cap, m, D, Pl, hcs, _, hl, hm, hmm, _, hi⟩
  · obtain rfl : v = .slice none 0 0 := by simpa using hcs
    exact ⟨[], .inl ⟨_, _, rfl, rfl⟩, fun x hx => by simp at hx⟩
  · obtain rfl : v = .slice (some x) len cap := by simpa using hcs
    simp only [if_true] at hmm
    rcases Nat.eq_zero_or_pos len with rfl | h0
    · exact ⟨[], .inl ⟨_, _, rfl, rfl⟩, fun x hx => by simp at hx⟩
    · have hx : x.spot = none := by
        obtain ⟨ys, n, _, _, _, hfi⟩ := hi 0 (by omega)
        obtain ⟨v0, y0, c0, _, t0⟩ := hfi 0 _ rfl
        obtain ⟨b, off, spot⟩ := x
        simpa [Addr.add] using World.cell?_spot c0
      obtain ⟨b, off, spot⟩ := x
      obtain rfl : spot = none := hx
      obtain ⟨l, hlen, hall⟩ := choose_list len (fun i (q : Ins) => W.cell? ⟨b, off + i * 4, none⟩ = some (.int .u8 (q.op : Int)) ∧ W.cell? ⟨b, off + i * 4 + 1, none⟩ = some (.int .i64 q.n) ∧ W.cell? ⟨b, off + i * 4 + 2, none⟩ = some (.int .i64 q.a) ∧ W.cell? ⟨b, off + i * 4 + 3, none⟩ = some (.string q.s) ∧ InsT q) ⟨0, 0, 0, ⟨#[]⟩⟩ (by
        intro i hlt
        obtain ⟨ys, n, _, _, _, hfi⟩ := hi i (by omega)
        obtain ⟨v0, y0, c0, _, t0⟩ := hfi 0 _ rfl
        obtain ⟨v1, y1, c1, _, t1⟩ := hfi 1 _ rfl
        obtain ⟨v2, y2, c2, _, t2⟩ := hfi 2 _ rfl
        obtain ⟨v3, y3, c3, _, t3⟩ := hfi 3 _ rfl
        obtain ⟨z, rfl, k0, k1⟩ := trod_u8 t0
        obtain ⟨n, rfl, n0, n1⟩ := trod_i64b t1
        obtain ⟨a, rfl⟩ := trod_int t2
        obtain ⟨s, rfl⟩ := trod_str t3
        rw [add_none] at c0 c1 c2 c3
        exact ⟨⟨z.toNat, n, a, s⟩, by rw [show ((z.toNat : Nat) : Int) = z by omega]; exact c0, c1, c2, c3, ⟨by show z.toNat ≤ 255; omega, n0, n1⟩⟩)
      exact ⟨l, .inr ⟨b, off, cap, by rw [hlen], by omega, by omega, hm, fun j x hj => ⟨(hall j x hj).1, (hall j x hj).2.1, (hall j x hj).2.2.1, (hall j x hj).2.2.2.1⟩⟩, fun x hx => by
        obtain ⟨j, hj⟩ := List.getElem?_of_mem hx
        exact (hall j x hj).2.2.2.2⟩

theorem open_funs2 {H : Type} {enc : TypeId × Value → H} {W : World} {base : Nat} {v : Value} {d : DataW H} {p : List MemPlace} {ts : List TypeId} {ds : List (DataW H)} {j : Nat}
    (hv : Value.okWide Try.prog W .any base 22 v) (h : DataW.Trod enc Try.prog W 0 (fun _ => true) true 22 v d p)
    (_hsz : (DataW.weightsEach Try.prog ts ds).all (· ≤ reachBytes) = true) (_ht : ts[j]? = some 22) (_hd : ds[j]? = some d) : ∃ l, RdF W v l ∧ FunsT l := by
  obtain ⟨a, len, cap, rfl⟩ := okWide_slice Try.underlying22 hv
  obtain ⟨fuel, hf⟩ := h
  rcases open_slice_fields Try.underlying22 Try.underlying32 (by kernel_rfl) (by kernel_rfl) hf with ⟨hcs, _⟩ | ⟨x, len', cap', m, D, Pl, hcs, _, hl, hm, hmm, _, hi⟩
  · simp only [Value.cells] at hcs
    simp at hcs
    obtain ⟨rfl, rfl, rfl⟩ := hcs
    exact ⟨[], .inl ⟨_, _, rfl, rfl⟩, fun x hx => by simp at hx⟩
  · simp only [Value.cells] at hcs
    simp at hcs
    obtain ⟨rfl, rfl, rfl⟩ := hcs
    simp only [if_true] at hmm
    rcases Nat.eq_zero_or_pos len with rfl | h0
    · exact ⟨[], .inl ⟨_, _, rfl, rfl⟩, fun x hx => by simp at hx⟩
    · have hx : x.spot = none := by
        obtain ⟨ys, n, _, _, _, hfi⟩ := hi 0 (by omega)
        obtain ⟨v0, y0, c0, _, t0⟩ := hfi 0 _ rfl
        obtain ⟨b, off, spot⟩ := x
        simpa [Addr.add] using World.cell?_spot c0
      obtain ⟨b, off, spot⟩ := x
      obtain rfl : spot = none := hx
      obtain ⟨l, hlen, hall⟩ := choose_list len (fun i (q : Fun) => W.cell? ⟨b, off + i * 2, none⟩ = some (.int .i64 q.caps) ∧ ∃ u, W.cell? ⟨b, off + i * 2 + 1, none⟩ = some u ∧ RdI W u q.code ∧ ∀ x ∈ q.code, InsT x) ⟨0, []⟩ (by
        intro i hlt
        obtain ⟨ys, n, _, _, _, hfi⟩ := hi i (by omega)
        obtain ⟨v0, y0, c0, _, t0⟩ := hfi 0 _ rfl
        obtain ⟨v1, y1, c1, _, t1⟩ := hfi 1 _ rfl
        obtain ⟨z, rfl⟩ := trod_int t0
        obtain ⟨q, hq⟩ := trod_inss2 t1
        rw [add_none] at c0 c1
        exact ⟨⟨z, q⟩, c0, v1, c1, hq⟩)
      exact ⟨l, .inr ⟨b, off, cap, by rw [hlen], by omega, by omega, hm, fun j f hj => by
        obtain ⟨h1, u, h2, h3, _⟩ := hall j f hj
        exact ⟨h1, u, h2, h3⟩⟩, fun f hf x hx => by
        obtain ⟨j, hj⟩ := List.getElem?_of_mem hf
        obtain ⟨_, u, _, _, h4⟩ := hall j f hj
        exact h4 x hx⟩
end Go.Proofs.Ythmnhacgcdcbiaa
