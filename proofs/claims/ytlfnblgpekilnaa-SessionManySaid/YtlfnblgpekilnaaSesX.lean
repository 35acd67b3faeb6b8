/- A Put of bytes that may be none; as many sessions as may be. -/
import Derived.Test.YtlfnblgpekilnaaSesW
namespace Go.Proofs.Ytlfnblgpekilnaa
open Go.RowKit OctM

theorem tb_put0 (id nm : Nat) (rp : List UInt8) (x : Value) (w0 w : World) {b : Nat} {l : List Se} (h : TB w0 b l w) (hl : l.length ≤ 900) (hr : Ris l) (hb : ∀ s ∈ l, s.rp.length ≤ 1000000)
    (hx : Rd w0 x rp) (hrp : rp.length ≤ 1000000) :
    Calls Try.prog 11 #[.pointer (some ⟨b, 0, none⟩), .int .u64 (id : Int), .int .u64 (nm : Int), x] w (TBP w0 w b (putS l ⟨id, nm, rp⟩)) := by
  obtain ⟨v, hv⟩ := h.ex
  obtain ⟨ps, hps, hax⟩ := hv
  have hvq := TA.tq ⟨ps, hps, hax⟩
  have hn : ∀ g, two b v g → w0.heap.size ≤ g := by
    rintro g (rfl | hg)
    · exact h.ge
    · exact (hax.own.row.lt g hg).1
  refine (put_any id nm rp x w (fun _ _ => trivial) hvq h.bel.size hl hr hb (fun w' hk => hx.below (h.bel.trans (hk.below h.bel.size (fun k hk2 => hn k hk2)))) hrp).mono ?_
  rintro e w' ⟨rfl, v', hta, -, hk⟩
  refine ⟨rfl, ⟨⟨v', hta.ta⟩, h.bel.trans (hk.below h.bel.size (fun k hk2 => hn k hk2)), h.ge⟩, fun base u l ho => own_kept ho hk ?_, hk.size⟩
  rintro g hg (rfl | hg2)
  · exact own_ne ho hax.cell (by decide) hg
  · exact own_ne2 hax.own.row ho (by decide) g hg2 hg

/-- So many sessions. -/
def many (r : List UInt8) (i : Nat) : List Se := (List.range i).map fun k => ⟨(k + 1) * 1000, 1, r⟩
theorem many_len (r : List UInt8) (i : Nat) : (many r i).length = i := by simp [many]
theorem many_get (r : List UInt8) (i t : Nat) (s : Se) (h : (many r i)[t]? = some s) : t < i ∧ s = ⟨(t + 1) * 1000, 1, r⟩ := by
  have ht : t < i := by have := (List.getElem?_eq_some_iff.1 h).1; rwa [many_len] at this
  refine ⟨ht, ?_⟩
  unfold many at h
  rw [List.getElem?_map, List.getElem?_range ht] at h
  simpa using h.symm
theorem many_ris (r : List UInt8) (i : Nat) : Ris (many r i) := fun a c x y hac hx hy => by
  obtain ⟨-, rfl⟩ := many_get r i a x hx
  obtain ⟨-, rfl⟩ := many_get r i c y hy
  show (a + 1) * 1000 < (c + 1) * 1000
  omega
theorem many_rp (r : List UInt8) (i : Nat) (hr : r.length ≤ 100) : ∀ s ∈ many r i, s.rp.length ≤ 1000000 := by
  intro s hs
  obtain ⟨t, ht⟩ := List.getElem?_of_mem hs
  obtain ⟨-, rfl⟩ := many_get r i t s ht
  show r.length ≤ 1000000; omega
theorem many_succ (r : List UInt8) (i : Nat) : many r (i + 1) = many r i ++ [⟨(i + 1) * 1000, 1, r⟩] := by
  unfold many; rw [List.range_succ, List.map_append]; rfl
theorem pl_many (r : List UInt8) (i : Nat) : pl (many r i) ((i + 1) * 1000) = i :=
  pl_of _ _ i (by rw [many_len]; omega) (fun t s ht hs => by obtain ⟨-, rfl⟩ := many_get r i t s hs; show (t + 1) * 1000 < _; omega) (fun s hs => by have := (many_get r i i s hs).1; omega)
theorem put_many (r : List UInt8) (i : Nat) (hi : i < 64) : putS (many r i) ⟨(i + 1) * 1000, 1, r⟩ = (0, many r (i + 1)) := by
  have hs : seAt (many r i) ((i + 1) * 1000) = none := by
    unfold seAt
    rw [pl_many, List.getElem?_eq_none (by rw [many_len]; omega)]
  have ha : askS (many r i) ((i + 1) * 1000) 1 = (6, []) := by
    unfold askS
    rw [if_neg (by omega), hs]
    dsimp only
    rw [many_len, if_neg (by omega)]
  unfold putS
  dsimp only
  rw [ha, if_neg (by decide), if_pos rfl]
  unfold insS
  dsimp only
  rw [hs, pl_many, many_succ]
  have h1 : (many r i).take i = many r i := List.take_of_length_le (by rw [many_len]; omega)
  have h2 : (many r i).drop i = [] := List.drop_eq_nil_of_le (by rw [many_len]; omega)
  rw [h1, h2]
  rfl
theorem ask_many (r : List UInt8) (x : Nat) (h0 : x ≠ 0) (h : ¬ (x % 1000 = 0 ∧ 1000 ≤ x ∧ x ≤ 64000)) : askS (many r 64) x 1 = (2, []) := by
  have hs : seAt (many r 64) x = none := by
    rcases hs : seAt (many r 64) x with _ | s
    · rfl
    · obtain ⟨h1, h2⟩ := seAt_some hs
      obtain ⟨h3, rfl⟩ := many_get r 64 _ s h1
      have : (pl (many r 64) x + 1) * 1000 = x := h2
      exact absurd ⟨by omega, by omega, by omega⟩ h
  unfold askS
  rw [if_neg (by omega), hs]
  dsimp only
  rw [many_len, if_pos (by omega)]
theorem put_many2 (r : List UInt8) (x : Nat) (y : List UInt8) (h0 : x ≠ 0) (h : ¬ (x % 1000 = 0 ∧ 1000 ≤ x ∧ x ≤ 64000)) : putS (many r 64) ⟨x, 1, y⟩ = (2, many r 64) := by
  unfold putS
  dsimp only
  rw [ask_many r x h0 h]
  rfl
theorem put_many3 (r : List UInt8) : ∃ l, putS (many r 64) ⟨5000, 2, []⟩ = (0, l) ∧ l.length = 64 := by
  have hget : (many r 64)[4]? = some ⟨5000, 1, r⟩ := by unfold many; rfl
  have hp : pl (many r 64) 5000 = 4 := pl_of _ _ 4 (by rw [many_len]; omega) (fun t s ht hs => by obtain ⟨-, rfl⟩ := many_get r 64 t s hs; show (t + 1) * 1000 < _; omega) (fun s hs => by
    obtain ⟨-, rfl⟩ := many_get r 64 4 s hs
    show ¬ (4 + 1) * 1000 < 5000; omega)
  have hs : seAt (many r 64) 5000 = some ⟨5000, 1, r⟩ := by
    unfold seAt
    rw [hp, hget]
    rfl
  have ha : askS (many r 64) 5000 2 = (6, []) := by
    unfold askS
    rw [if_neg (by omega), hs]
    rfl
  unfold putS
  dsimp only
  rw [ha, if_neg (by decide), if_pos rfl]
  refine ⟨_, rfl, ?_⟩
  unfold insS
  dsimp only
  rw [hs]
  simp [many_len]
end Go.Proofs.Ytlfnblgpekilnaa
