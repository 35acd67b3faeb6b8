/- The reader: Bad, Fail, take. -/
import Derived.Test.YtdckcjcddibglaaOctA
namespace Go.Proofs.Ytdckcjcddibglaa
open Go.RowKit OctM

/-- Not the reader's own block. -/
def Off (ptr : Option Addr) (g : Nat) : Prop := ∀ a, ptr = some a → a.block ≠ g

/-- A slice of bytes beside the reader. -/
def Rg (ptr : Option Addr) (w : World) (v : Value) (l : List UInt8) : Prop :=
  (v = .slice none 0 0 ∧ l = []) ∨
  ∃ g off c, v = .slice (some ⟨g, off, none⟩) l.length c ∧ Off ptr g ∧ l.length ≤ c ∧ c ≤ maxLen ∧ ∀ j u, l[j]? = some u → w.cell? ⟨g, off + j, none⟩ = some (B u)

/-- A reader: with a fault (or nil): none; else what is left. -/
inductive RS (w : World) : Option Addr → Option (List UInt8) → Prop
  | nil : RS w none none
  | bad (b : Nat) (v : Value) (l : List UInt8) : w.heap[b]? = some (.cells #[v, .bool true] 97 (0, 0)) → Rg (some ⟨b, 0, none⟩) w v l → RS w (some ⟨b, 0, none⟩) none
  | good (b : Nat) (v : Value) (l : List UInt8) : w.heap[b]? = some (.cells #[v, .bool false] 97 (0, 0)) → Rg (some ⟨b, 0, none⟩) w v l → RS w (some ⟨b, 0, none⟩) (some l)

/-- The reader's own block alone may be written. -/
def own1 (ptr : Option Addr) : Nat → Prop := fun k => ∃ a, ptr = some a ∧ a.block = k

theorem cell0_of_two {w : World} {b : Nat} {v u : Value} {t : TypeId} (h : w.heap[b]? = some (.cells #[v, u] t (0, 0))) : w.cell? ⟨b, 0, none⟩ = some v := by simp [World.cell?, h]
theorem cell1_of_two {w : World} {b : Nat} {v u : Value} {t : TypeId} (h : w.heap[b]? = some (.cells #[v, u] t (0, 0))) : w.cell? ⟨b, 1, none⟩ = some u := by simp [World.cell?, h]
theorem free_of_two {w : World} {b : Nat} {v u : Value} {t : TypeId} (h : w.heap[b]? = some (.cells #[v, u] t (0, 0))) (i : Nat) : w.frozen? ⟨b, i, none⟩ = false := by simp [World.frozen?, h]
theorem two_set0 {w : World} {b : Nat} {v u x : Value} {t : TypeId} (h : w.heap[b]? = some (.cells #[v, u] t (0, 0))) : (w.setCell ⟨b, 0, none⟩ x).heap[b]? = some (.cells #[x, u] t (0, 0)) := by
  simp [World.setCell, Array.getElem?_modify, h]
theorem two_set1 {w : World} {b : Nat} {v u x : Value} {t : TypeId} (h : w.heap[b]? = some (.cells #[v, u] t (0, 0))) : (w.setCell ⟨b, 1, none⟩ x).heap[b]? = some (.cells #[v, x] t (0, 0)) := by
  simp [World.setCell, Array.getElem?_modify, h]

theorem Rg.kept {ptr : Option Addr} {w w' : World} {v : Value} {l : List UInt8} (h : Rg ptr w v l) (hk : Kept (own1 ptr) w w') : Rg ptr w' v l := by
  rcases h with h | ⟨g, off, c, hv, ho, hl, hm, hc⟩
  · exact .inl h
  · refine .inr ⟨g, off, c, hv, ho, hl, hm, fun j u hu => ?_⟩
    have h1 := hc j u hu
    have hlt := World.block_lt_of_cell? w _ h1
    exact (World.cell?_of_block (w := w) (hk.block g hlt (by rintro ⟨a, ha, hb⟩; exact ho a ha hb))).trans h1
theorem Rg.rd {ptr : Option Addr} {w : World} {v : Value} {l : List UInt8} (h : Rg ptr w v l) : Rd w v l := by
  rcases h with h | ⟨g, off, c, hv, _, hl, hm, hc⟩
  · exact .inl h
  · exact .inr ⟨_, c, hv, hl, hm, fun j u hu => by rw [add_none]; exact hc j u hu⟩

theorem kept_set {b i : Nat} (w : World) (u : Value) : Kept (own1 (some ⟨b, 0, none⟩)) w (w.setCell ⟨b, i, none⟩ u) :=
  (Kept.refl _ w).setCell (.inl ⟨_, rfl, rfl⟩) u

theorem RS.lt {w : World} {a : Addr} {s : Option (List UInt8)} (h : RS w (some a) s) : a.block < w.heap.size := by
  cases h with
  | bad b v l hc _ => exact lt_of_block hc
  | good b v l hc _ => exact lt_of_block hc

set_option maxHeartbeats 1000000 in
set_option maxRecDepth 100000 in
theorem rbad (ptr : Option Addr) (s : Option (List UInt8)) (w : World) (h : RS w ptr s) :
    Calls Try.prog 50 #[.pointer ptr] w fun e w' => e = .returned (.bool s.isNone) ∧ w = w' := by
  cases h with
  | nil =>
    go_enter Try.func50, Try.ntmps50
    go_wp2
    go_ret
    exact ⟨rfl, rfl⟩
  | bad b v l hc _ =>
    have c1 := cell1_of_two hc
    clear hc
    go_enter Try.func50, Try.ntmps50
    go_wp2
    go_ret
    exact ⟨rfl, rfl⟩
  | good b v l hc _ =>
    have c1 := cell1_of_two hc
    clear hc
    go_enter Try.func50, Try.ntmps50
    go_wp2
    go_ret
    exact ⟨rfl, rfl⟩

set_option maxHeartbeats 1000000 in
set_option maxRecDepth 100000 in
theorem rfail (ptr : Option Addr) (s : Option (List UInt8)) (w : World) (h : RS w ptr s) :
    Calls Try.prog 54 #[.pointer ptr] w fun e w' => e = .returned (.tuple #[]) ∧ RS w' ptr none ∧ Kept (own1 ptr) w w' := by
  cases h with
  | nil =>
    go_enter Try.func54, Try.ntmps54
    go_wp2
    go_end0
    exact ⟨rfl, .nil, Kept.refl _ _⟩
  | bad b v l hc hr =>
    have c1 := cell1_of_two hc
    have f1 := free_of_two hc 1
    have fin : RS (w.setCell ⟨b, 1, none⟩ (.bool true)) (some ⟨b, 0, none⟩) none := .bad b v l (two_set1 hc) (hr.kept (kept_set w _))
    have HC := Lib.hid fin
    clear hc fin
    go_enter Try.func54, Try.ntmps54
    go_wp2
    go_end0
    exact ⟨rfl, HC.out, kept_set w _⟩
  | good b v l hc hr =>
    have c1 := cell1_of_two hc
    have f1 := free_of_two hc 1
    have fin : RS (w.setCell ⟨b, 1, none⟩ (.bool true)) (some ⟨b, 0, none⟩) none := .bad b v l (two_set1 hc) (hr.kept (kept_set w _))
    have HC := Lib.hid fin
    clear hc fin
    go_enter Try.func54, Try.ntmps54
    go_wp2
    go_end0
    exact ⟨rfl, HC.out, kept_set w _⟩

/-- The next n bytes. -/
def takeS (s : Option (List UInt8)) (n : Nat) : List UInt8 × Option (List UInt8) :=
  match s with
  | none => ([], none)
  | some l => if n ≤ l.length then (l.take n, some (l.drop n)) else ([], none)

theorem takeS_le {l : List UInt8} {n : Nat} (h : n ≤ l.length) : takeS (some l) n = (l.take n, some (l.drop n)) := by simp [takeS, h]

/-- What take leaves. -/
structure TPost (ptr : Option Addr) (w w' : World) (r : List UInt8 × Option (List UInt8)) (e : Ending) : Prop where
  ret : ∃ v, e = .returned v ∧ Rg ptr w' v r.1
  st : RS w' ptr r.2
  kept : Kept (own1 ptr) w w'

set_option maxHeartbeats 2000000 in
set_option maxRecDepth 100000 in
theorem rtake (ptr : Option Addr) (s : Option (List UInt8)) (n : Int) (w : World) (h : RS w ptr s) (h0 : 0 ≤ n) (h1 : n ≤ 9223372036854775807) :
    Calls Try.prog 56 #[.pointer ptr, .int .i64 n] w fun e w' => TPost ptr w w' (takeS s n.toNat) e := by
  obtain ⟨N, rfl⟩ := Int.eq_ofNat_of_zero_le h0
  rw [Int.toNat_natCast]
  cases s with
  | none =>
    have H := Lib.hid (rbad ptr none w h)
    go_enter Try.func56, Try.ntmps56
    go_wp2_with fail
    refine H.out.mono ?_
    rintro e w' ⟨rfl, rfl⟩
    go_wp2_with fail
    go_ret
    exact ⟨⟨_, rfl, .inl ⟨rfl, rfl⟩⟩, h, Kept.refl _ _⟩
  | some l =>
    have H := Lib.hid (rbad ptr (some l) w h)
    cases h with
    | good b v l hc hr =>
      have c0 := cell0_of_two hc
      have f0 := free_of_two hc 0
      rcases hr with ⟨rfl, rfl⟩ | ⟨g, off, c, rfl, ho, hl, hm, hcell⟩
      · by_cases hN : N = 0
        · subst hN
          have fin : RS (w.setCell ⟨b, 0, none⟩ (.slice none 0 0)) (some ⟨b, 0, none⟩) (some []) := .good b _ [] (two_set0 hc) (.inl ⟨rfl, rfl⟩)
          have HC := Lib.hid fin
          clear hc fin
          go_enter Try.func56, Try.ntmps56
          go_wp2_with fail
          refine H.out.mono ?_
          rintro e w' ⟨rfl, rfl⟩
          go_wp2_with fail
          go_ret
          exact ⟨⟨_, rfl, .inl ⟨rfl, rfl⟩⟩, HC.out, kept_set w _⟩
        · have hgt : (0 : Int) < (N : Int) := by omega
          have H2 := Lib.hid (rfail (some ⟨b, 0, none⟩) (some []) w (.good b _ [] hc (.inl ⟨rfl, rfl⟩)))
          have hN' : ¬ N ≤ ([] : List UInt8).length := by simpa using hN
          have HN := Lib.hid hN'
          clear hc hN' hN
          go_enter Try.func56, Try.ntmps56
          go_wp2_with fail
          refine H.out.mono ?_
          rintro e w' ⟨rfl, rfl⟩
          go_wp2_with fail
          refine H2.out.mono ?_
          rintro e w' ⟨rfl, h3, h4⟩
          go_wp2_with fail
          go_ret
          have hN := HN.out
          exact ⟨⟨_, rfl, .inl ⟨rfl, by simp only [takeS, if_neg hN]⟩⟩, by simp only [takeS, if_neg hN]; exact h3, h4⟩
      · by_cases hN : N ≤ l.length
        · have fin : ∀ x, (Rg (some ⟨b, 0, none⟩) (w.setCell ⟨b, 0, none⟩ x) x (l.drop N)) → RS (w.setCell ⟨b, 0, none⟩ x) (some ⟨b, 0, none⟩) (some (l.drop N)) := fun x hx => .good b x _ (two_set0 hc) hx
          have hsame : ∀ x j u, l[j]? = some u → (w.setCell ⟨b, 0, none⟩ x).cell? ⟨g, off + j, none⟩ = some (B u) := fun x j u hu =>
            (World.cell?_of_block (w := w) ((kept_set (b := b) (i := 0) w x).block g (World.block_lt_of_cell? w _ (hcell j u hu)) (by rintro ⟨a, ha, hb⟩; exact ho a ha hb))).trans (hcell j u hu)
          have hret : ∀ x, Rg (some ⟨b, 0, none⟩) (w.setCell ⟨b, 0, none⟩ x) (.slice (some ⟨g, off, none⟩) N c) (l.take N) := fun x =>
            .inr ⟨g, off, c, by rw [List.length_take, Nat.min_eq_left hN], ho, by rw [List.length_take]; omega, hm, fun j u hu => by
              rw [List.getElem?_take] at hu
              split at hu
              · exact hsame x j u hu
              · cases hu⟩
          have hle : (N : Int) ≤ (l.length : Int) := by omega
          have hle2 : (l.length : Int) ≤ (c : Int) := by omega
          have HF := Lib.hid fin
          have HS := Lib.hid hsame
          have HR := Lib.hid hret
          unfold maxLen at hm
          clear fin hsame hret hc hcell
          by_cases hcN : c = N
          · obtain rfl : l.length = N := by omega
            subst hcN
            go_enter Try.func56, Try.ntmps56
            go_wp2_with fail
            refine H.out.mono ?_
            rintro e w' ⟨rfl, rfl⟩
            go_wp2_with fail
            go_ret
            refine ⟨⟨_, rfl, ?_⟩, ?_, kept_set w _⟩
            · rw [takeS_le hN]; exact HR.out _
            · rw [takeS_le hN]
              refine HF.out _ (.inr ⟨g, off, 0, by rw [List.length_drop, Nat.sub_self], ho, by simp, by unfold maxLen; omega, fun j u hu => ?_⟩)
              simp at hu
          · have hlt : N < c := by omega
            have hlt2 : (N : Int) < (c : Int) := by omega
            go_enter Try.func56, Try.ntmps56
            go_wp2_with fail
            refine H.out.mono ?_
            rintro e w' ⟨rfl, rfl⟩
            go_wp2_with fail
            go_ret
            refine ⟨⟨_, rfl, ?_⟩, ?_, kept_set w _⟩
            · rw [takeS_le hN]; exact HR.out _
            · rw [takeS_le hN]
              refine HF.out _ (.inr ⟨g, off + N, c - N, by rw [List.length_drop], ho, by rw [List.length_drop]; omega, by unfold maxLen; omega, fun j u hu => ?_⟩)
              rw [List.getElem?_drop] at hu
              rw [Nat.add_assoc]
              exact HS.out _ _ u hu
        · have hgt : (l.length : Int) < (N : Int) := by omega
          have H2 := Lib.hid (rfail (some ⟨b, 0, none⟩) (some l) w (.good b _ l hc (.inr ⟨g, off, c, rfl, ho, hl, hm, hcell⟩)))
          clear hc hcell ho
          go_enter Try.func56, Try.ntmps56
          go_wp2_with fail
          refine H.out.mono ?_
          rintro e w' ⟨rfl, rfl⟩
          go_wp2_with fail
          refine H2.out.mono ?_
          rintro e w' ⟨rfl, h3, h4⟩
          go_wp2_with fail
          go_ret
          exact ⟨⟨_, rfl, .inl ⟨rfl, by simp [takeS, hN]⟩⟩, by simpa [takeS, hN] using h3, h4⟩
end Go.Proofs.Ytdckcjcddibglaa
