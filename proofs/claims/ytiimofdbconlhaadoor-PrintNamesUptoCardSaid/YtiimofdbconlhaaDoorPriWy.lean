/- An argument that is a type, opened. -/
import Derived.Test.YtiimofdbconlhaaDoorPriWx
import Derived.Test.YtiimofdbconlhaaDoorOpenL
namespace Go.Proofs.YtiimofdbconlhaaDoor
open Go.ChangeShapes Go.WideShapes Go.ChangeAt Go.RowKit PriM

theorem bulk_string {H : Type} (l : List UInt8) : Rows.uptoBulk (DataW.lit (H := H) (.string l)) = l.length + 1 := by simp [Rows.uptoBulk]
theorem bulk_one {H : Type} (d : DataW H) : 1 ≤ Rows.uptoBulk d := by
  cases d with
  | lit l => cases l <;> simp [Rows.uptoBulk]
  | nil => simp [Rows.uptoBulk]
  | ptr d => simp [Rows.uptoBulk]
  | slice elems spare => simp [Rows.uptoBulk]
  | agg parts => simp [Rows.uptoBulk]
  | iface t d => simp [Rows.uptoBulk]
  | map entries => simp [Rows.uptoBulk]
  | held h => simp [Rows.uptoBulk]

section
variable {H : Type} {enc : TypeId × Value → H} {W : World} {n : Nat} {v : Value} {y : DataW H × List MemPlace}
theorem trod_str (h : DataW.trod enc Tryd.prog W 0 (fun _ => true) true n 9 [v] = some y) : ∃ l : List UInt8, v = .string ⟨l.toArray⟩ ∧ y.1 = .lit (.string l) := by
  cases n with
  | zero => simp [DataW.trod] at h
  | succ n =>
    simp only [DataW.trod, Tryd.underlying9] at h
    cases v <;> simp at h
    rename_i s
    obtain ⟨_, rfl⟩ := h
    exact ⟨s.data.toList, rfl, rfl⟩
theorem trod_i64 (h : DataW.trod enc Tryd.prog W 0 (fun _ => true) true n 3 [v] = some y) : ∃ z : Int, v = .int .i64 z ∧ -9223372036854775808 ≤ z ∧ z ≤ 9223372036854775807 := by
  cases n with
  | zero => simp [DataW.trod] at h
  | succ n =>
    simp only [DataW.trod, Tryd.underlying3] at h
    cases v <;> simp at h
    rename_i k z
    obtain ⟨⟨rfl, h1⟩, _⟩ := h
    have := bounds_i64 h1
    exact ⟨_, rfl, this.1, this.2⟩
end

/-- The kids, one behind the other. -/
theorem kids_open {H : Type} {W : World} {N b : Nat} : ∀ (es : List (DataW H × List MemPlace)) (off : Nat),
    (∀ i y, es[i]? = some y → ∃ t c0 c1 c2, W.cell? ⟨b, off + i * 3, none⟩ = some c0 ∧ W.cell? ⟨b, off + i * 3 + 1, none⟩ = some c1 ∧ W.cell? ⟨b, off + i * 3 + 2, none⟩ = some c2 ∧ TyV N W t c0 c1 c2 ∧ wN t ≤ Rows.uptoBulk y.1 ∧ wT t + 5 ≤ 4 * Rows.uptoBulk y.1) →
    ∃ ks : List Ty, ks.length = es.length ∧ TysV N W ks b off ∧ wNs ks ≤ Rows.uptoBulkAll (es.map (·.1)) ∧ wTs ks ≤ 4 * Rows.uptoBulkAll (es.map (·.1))
  | [], _, _ => ⟨[], rfl, trivial, by simp [wNs], by simp [wTs]⟩
  | y :: es, off, h => by
    obtain ⟨t, c0, c1, c2, h0, h1, h2, h3, h4, h5⟩ := h 0 y rfl
    obtain ⟨ks, e, hk, hn, hw⟩ := kids_open es (off + 3) (fun i z hz => by
      have := h (i + 1) z hz
      rwa [show off + (i + 1) * 3 = off + 3 + i * 3 by omega] at this)
    rw [Nat.zero_mul, Nat.add_zero] at h0 h1 h2
    refine ⟨t :: ks, by rw [List.length_cons, List.length_cons, e], ⟨⟨c0, c1, c2, h0, h1, h2, h3⟩, hk⟩, ?_, ?_⟩
    · simp only [wNs, List.map_cons, Rows.uptoBulkAll]; omega
    · simp only [wTs, List.map_cons, Rows.uptoBulkAll]; omega

set_option maxRecDepth 100000 in
set_option maxHeartbeats 1000000 in
theorem open_ty {H : Type} {enc : TypeId × Value → H} {W : World} (fuel : Nat) : ∀ (cs : List Value) (x : DataW H × List MemPlace), DataW.trod enc Tryd.prog W 0 (fun _ => true) true fuel 24 cs = some x →
    ∃ (t : Ty) (c0 c1 c2 : Value), cs = [c0, c1, c2] ∧ TyV W.heap.size W t c0 c1 c2 ∧ wN t ≤ Rows.uptoBulk x.1 ∧ wT t + 5 ≤ 4 * Rows.uptoBulk x.1 := by
  induction fuel using Nat.strongRecOn with
  | _ fuel ih =>
    intro cs x h
    obtain ⟨xs, n, hf, hx, hl, hxl, hfs⟩ := DataW.trod_struct Tryd.underlying24 h
    rw [show Tryd.prog.cellsOf 24 = 3 by kernel_rfl] at hl
    match cs, hl with
    | [c0, c1, c2], _ =>
      match xs, (show xs.length = 3 from hxl) with
      | [x0, x1, x2], _ =>
        have t0 := hfs 0 _ rfl
        have t1 := hfs 1 _ rfl
        have t2 := hfs 2 _ rfl
        obtain ⟨nm, rfl, e0⟩ := trod_str t0
        obtain ⟨v, rfl, v0, v1⟩ := trod_i64 t1
        have hB : Rows.uptoBulk x.1 = Rows.uptoBulk x0.1 + Rows.uptoBulk x1.1 + Rows.uptoBulk x2.1 + 1 := by
          rw [hx]; simp only [List.map_cons, List.map_nil, Rows.uptoBulk, Rows.uptoBulkAll]; omega
        have b1 := bulk_one x1.1
        have b2 := bulk_one x2.1
        have b0 : Rows.uptoBulk x0.1 = nm.length + 1 := by rw [e0]; exact bulk_string nm
        rcases DataW.trod_slice Tryd.underlying22 t2 with ⟨e2, _⟩ | ⟨a, len, cap, es, rest, m, hm, e2, hx2, _, hlc, hcap, hel, hes, _, _⟩
        · obtain rfl : c2 = .slice none 0 0 := by
            have e3 : List.take (Tryd.prog.cellsOf 22) [c2] = [.slice none 0 0] := e2
            rw [show Tryd.prog.cellsOf 22 = 1 by kernel_rfl] at e3
            simpa using e3
          refine ⟨.mk nm v [], _, _, _, rfl, ⟨rfl, rfl, v0, v1, none, 0, rfl, .inl rfl⟩, ?_, ?_⟩
          · rw [wN_mk]; simp only [wNs]; omega
          · unfold wT; simp only [wTs]; omega
        · obtain rfl : c2 = .slice (some a) len cap := by
            have e3 : List.take (Tryd.prog.cellsOf 22) [c2] = [.slice (some a) len cap] := e2
            rw [show Tryd.prog.cellsOf 22 = 1 by kernel_rfl] at e3
            simpa using e3
          rw [show Tryd.prog.cellsOf 24 = 3 by kernel_rfl] at hes
          have hall : ∀ i y, es[i]? = some y → ∃ t c0 c1 c2, W.cell? (a.add (i * 3)) = some c0 ∧ W.cell? (a.add (i * 3 + 1)) = some c1 ∧ W.cell? (a.add (i * 3 + 2)) = some c2 ∧ TyV W.heap.size W t c0 c1 c2 ∧ wN t ≤ Rows.uptoBulk y.1 ∧ wT t + 5 ≤ 4 * Rows.uptoBulk y.1 := by
            intro i y hy
            have hi : i < len := by have := (List.getElem?_eq_some_iff.1 hy).1; omega
            obtain ⟨cs', hc, ht⟩ := Option.bind_eq_some_iff.1 ((hes i hi).trans hy)
            obtain ⟨t, q0, q1, q2, rfl, ht1, ht2, ht3⟩ := ih m (by omega) cs' y ht
            obtain ⟨_, _, hat⟩ := World.cells?_some hc
            refine ⟨t, q0, q1, q2, ?_, ?_, ?_, ht1, ht2, ht3⟩
            · have := hat 0 (by omega); rw [Addr.add_add] at this; exact this
            · have := hat 1 (by omega); rw [Addr.add_add] at this; exact this
            · have := hat 2 (by omega); rw [Addr.add_add] at this; exact this
          have hB2 : Rows.uptoBulkAll (es.map (·.1)) + 1 ≤ Rows.uptoBulk x2.1 := by rw [hx2]; simp only [Rows.uptoBulk]; omega
          rcases Nat.eq_zero_or_pos len with rfl | h0
          · refine ⟨.mk nm v [], _, _, _, rfl, ⟨rfl, rfl, v0, v1, some a, cap, rfl, .inl rfl⟩, ?_, ?_⟩
            · rw [wN_mk]; simp only [wNs]; omega
            · unfold wT; simp only [wTs]; omega
          · have hx0 : es[0]? = some es[0] := List.getElem?_eq_getElem (by omega)
            obtain ⟨_, q0, _, _, hc0, -⟩ := hall 0 _ hx0
            obtain ⟨b, off, spot⟩ := a
            obtain rfl : spot = none := by simpa [Addr.add] using World.cell?_spot hc0
            have hb : b < W.heap.size := by have := World.block_lt_of_cell? _ _ hc0; simpa [Addr.add] using this
            obtain ⟨ks, hk, hks, hn, hw⟩ := kids_open (N := W.heap.size) (W := W) (b := b) es off (fun i y hy => by
              have := hall i y hy
              rw [add_none, add_none, add_none] at this
              exact this)
            rw [hel] at hk
            refine ⟨.mk nm v ks, _, _, _, rfl, ⟨rfl, rfl, v0, v1, some ⟨b, off, none⟩, cap, by rw [hk], .inr ⟨b, off, rfl, hb, by omega, hcap, hks⟩⟩, ?_, ?_⟩
            · rw [wN_mk]; omega
            · unfold wT; omega
end Go.Proofs.YtiimofdbconlhaaDoor
