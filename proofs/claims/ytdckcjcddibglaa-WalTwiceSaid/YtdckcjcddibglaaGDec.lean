/- DecR, DecQ, DecP, in one text. -/
import Derived.Test.YtdckcjcddibglaaOctP

namespace Go.Proofs.Ytdckcjcddibglaa.D
open Go.RowKit OctM
variable {lim : Nat}

/-- Not the reader's own block, and below lim. -/
def Off (lim : Nat) (ptr : Option Addr) (g : Nat) : Prop := g < lim ∧ ∀ a, ptr = some a → a.block ≠ g

/-- A slice of bytes beside the reader. -/
def Rg (lim : Nat) (ptr : Option Addr) (w : World) (v : Value) (l : List UInt8) : Prop :=
  (v = .slice none 0 0 ∧ l = []) ∨
  ∃ g off c, v = .slice (some ⟨g, off, none⟩) l.length c ∧ Off lim ptr g ∧ l.length ≤ c ∧ c ≤ maxLen ∧ ∀ j u, l[j]? = some u → w.cell? ⟨g, off + j, none⟩ = some (B u)

/-- A reader: with a fault (or nil): none; else what is left. -/
inductive RS (lim : Nat) (w : World) : Option Addr → Option (List UInt8) → Prop
  | nil : RS lim w none none
  | bad (b : Nat) (v : Value) (l : List UInt8) : w.heap[b]? = some (.cells #[v, .bool true] 97 (0, 0)) → Rg lim (some ⟨b, 0, none⟩) w v l → RS lim w (some ⟨b, 0, none⟩) none
  | good (b : Nat) (v : Value) (l : List UInt8) : w.heap[b]? = some (.cells #[v, .bool false] 97 (0, 0)) → Rg lim (some ⟨b, 0, none⟩) w v l → RS lim w (some ⟨b, 0, none⟩) (some l)

theorem Rg.kept {ptr : Option Addr} {w w' : World} {v : Value} {l : List UInt8} (h : Rg lim ptr w v l) (hk : Kept (own1 ptr) w w') : Rg lim ptr w' v l := by
  rcases h with h | ⟨g, off, c, hv, ho, hl, hm, hc⟩
  · exact .inl h
  · refine .inr ⟨g, off, c, hv, ho, hl, hm, fun j u hu => ?_⟩
    have h1 := hc j u hu
    have hlt := World.block_lt_of_cell? w _ h1
    exact (World.cell?_of_block (w := w) (hk.block g hlt (by rintro ⟨a, ha, hb⟩; exact ho.2 a ha hb))).trans h1
theorem Rg.rd {ptr : Option Addr} {w : World} {v : Value} {l : List UInt8} (h : Rg lim ptr w v l) : Rd w v l := by
  rcases h with h | ⟨g, off, c, hv, _, hl, hm, hc⟩
  · exact .inl h
  · exact .inr ⟨_, c, hv, hl, hm, fun j u hu => by rw [add_none]; exact hc j u hu⟩

theorem RS.lt {w : World} {a : Addr} {s : Option (List UInt8)} (h : RS lim w (some a) s) : a.block < w.heap.size := by
  cases h with
  | bad b v l hc _ => exact lt_of_block hc
  | good b v l hc _ => exact lt_of_block hc

set_option maxHeartbeats 1000000 in
set_option maxRecDepth 100000 in
theorem rbad (ptr : Option Addr) (s : Option (List UInt8)) (w : World) (h : RS lim w ptr s) :
    Calls Try.prog 50 #[.pointer ptr] w fun e w' => e = .returned (.bool s.isNone) ∧ w = w' := by
  cases h with
  | nil =>
    go_enter Try.func50, Try.ntmps50
    go_wp2
    go_ret
    exact ⟨rfl, rfl⟩
  | bad b v l hc _ =>
    have c1 := cell1_of_two hc
    clear hc
    go_enter Try.func50, Try.ntmps50
    go_wp2
    go_ret
    exact ⟨rfl, rfl⟩
  | good b v l hc _ =>
    have c1 := cell1_of_two hc
    clear hc
    go_enter Try.func50, Try.ntmps50
    go_wp2
    go_ret
    exact ⟨rfl, rfl⟩

set_option maxHeartbeats 1000000 in
set_option maxRecDepth 100000 in
theorem rfail (ptr : Option Addr) (s : Option (List UInt8)) (w : World) (h : RS lim w ptr s) :
    Calls Try.prog 54 #[.pointer ptr] w fun e w' => e = .returned (.tuple #[]) ∧ RS lim w' ptr none ∧ Kept (own1 ptr) w w' := by
  cases h with
  | nil =>
    go_enter Try.func54, Try.ntmps54
    go_wp2
    go_end0
    exact ⟨rfl, .nil, Kept.refl _ _⟩
  | bad b v l hc hr =>
    have c1 := cell1_of_two hc
    have f1 := free_of_two hc 1
    have fin : RS lim (w.setCell ⟨b, 1, none⟩ (.bool true)) (some ⟨b, 0, none⟩) none := .bad b v l (two_set1 hc) (hr.kept (kept_set w _))
    have HC := Lib.hid fin
    clear hc fin
    go_enter Try.func54, Try.ntmps54
    go_wp2
    go_end0
    exact ⟨rfl, HC.out, kept_set w _⟩
  | good b v l hc hr =>
    have c1 := cell1_of_two hc
    have f1 := free_of_two hc 1
    have fin : RS lim (w.setCell ⟨b, 1, none⟩ (.bool true)) (some ⟨b, 0, none⟩) none := .bad b v l (two_set1 hc) (hr.kept (kept_set w _))
    have HC := Lib.hid fin
    clear hc fin
    go_enter Try.func54, Try.ntmps54
    go_wp2
    go_end0
    exact ⟨rfl, HC.out, kept_set w _⟩

/-- What take leaves. -/
structure TPost (lim : Nat) (ptr : Option Addr) (w w' : World) (r : List UInt8 × Option (List UInt8)) (e : Ending) : Prop where
  ret : ∃ v, e = .returned v ∧ Rg lim ptr w' v r.1
  st : RS lim w' ptr r.2
  kept : Kept (own1 ptr) w w'

set_option maxHeartbeats 2000000 in
set_option maxRecDepth 100000 in
theorem rtake (ptr : Option Addr) (s : Option (List UInt8)) (n : Int) (w : World) (h : RS lim w ptr s) (h0 : 0 ≤ n) (h1 : n ≤ 9223372036854775807) :
    Calls Try.prog 56 #[.pointer ptr, .int .i64 n] w fun e w' => TPost lim ptr w w' (takeS s n.toNat) e := by
  obtain ⟨N, rfl⟩ := Int.eq_ofNat_of_zero_le h0
  rw [Int.toNat_natCast]
  cases s with
  | none =>
    have H := Lib.hid (rbad ptr none w h)
    go_enter Try.func56, Try.ntmps56
    go_wp2_with fail
    refine H.out.mono ?_
    rintro e w' ⟨rfl, rfl⟩
    go_wp2_with fail
    go_ret
    exact ⟨⟨_, rfl, .inl ⟨rfl, rfl⟩⟩, h, Kept.refl _ _⟩
  | some l =>
    have H := Lib.hid (rbad ptr (some l) w h)
    cases h with
    | good b v l hc hr =>
      have c0 := cell0_of_two hc
      have f0 := free_of_two hc 0
      rcases hr with ⟨rfl, rfl⟩ | ⟨g, off, c, rfl, ho, hl, hm, hcell⟩
      · by_cases hN : N = 0
        · subst hN
          have fin : RS lim (w.setCell ⟨b, 0, none⟩ (.slice none 0 0)) (some ⟨b, 0, none⟩) (some []) := .good b _ [] (two_set0 hc) (.inl ⟨rfl, rfl⟩)
          have HC := Lib.hid fin
          clear hc fin
          go_enter Try.func56, Try.ntmps56
          go_wp2_with fail
          refine H.out.mono ?_
          rintro e w' ⟨rfl, rfl⟩
          go_wp2_with fail
          go_ret
          exact ⟨⟨_, rfl, .inl ⟨rfl, rfl⟩⟩, HC.out, kept_set w _⟩
        · have hgt : (0 : Int) < (N : Int) := by omega
          have H2 := Lib.hid (rfail (lim := lim) (some ⟨b, 0, none⟩) (some []) w (.good b _ [] hc (.inl ⟨rfl, rfl⟩)))
          have hN' : ¬ N ≤ ([] : List UInt8).length := by simpa using hN
          have HN := Lib.hid hN'
          clear hc hN' hN
          go_enter Try.func56, Try.ntmps56
          go_wp2_with fail
          refine H.out.mono ?_
          rintro e w' ⟨rfl, rfl⟩
          go_wp2_with fail
          refine H2.out.mono ?_
          rintro e w' ⟨rfl, h3, h4⟩
          go_wp2_with fail
          go_ret
          have hN := HN.out
          exact ⟨⟨_, rfl, .inl ⟨rfl, by simp only [takeS, if_neg hN]⟩⟩, by simp only [takeS, if_neg hN]; exact h3, h4⟩
      · by_cases hN : N ≤ l.length
        · have fin : ∀ x, (Rg lim (some ⟨b, 0, none⟩) (w.setCell ⟨b, 0, none⟩ x) x (l.drop N)) → RS lim (w.setCell ⟨b, 0, none⟩ x) (some ⟨b, 0, none⟩) (some (l.drop N)) := fun x hx => .good b x _ (two_set0 hc) hx
          have hsame : ∀ x j u, l[j]? = some u → (w.setCell ⟨b, 0, none⟩ x).cell? ⟨g, off + j, none⟩ = some (B u) := fun x j u hu =>
            (World.cell?_of_block (w := w) ((kept_set (b := b) (i := 0) w x).block g (World.block_lt_of_cell? w _ (hcell j u hu)) (by rintro ⟨a, ha, hb⟩; exact ho.2 a ha hb))).trans (hcell j u hu)
          have hret : ∀ x, Rg lim (some ⟨b, 0, none⟩) (w.setCell ⟨b, 0, none⟩ x) (.slice (some ⟨g, off, none⟩) N c) (l.take N) := fun x =>
            .inr ⟨g, off, c, by rw [List.length_take, Nat.min_eq_left hN], ho, by rw [List.length_take]; omega, hm, fun j u hu => by
              rw [List.getElem?_take] at hu
              split at hu
              · exact hsame x j u hu
              · cases hu⟩
          have hle : (N : Int) ≤ (l.length : Int) := by omega
          have hle2 : (l.length : Int) ≤ (c : Int) := by omega
          have HF := Lib.hid fin
          have HS := Lib.hid hsame
          have HR := Lib.hid hret
          unfold maxLen at hm
          clear fin hsame hret hc hcell
          by_cases hcN : c = N
          · obtain rfl : l.length = N := by omega
            subst hcN
            go_enter Try.func56, Try.ntmps56
            go_wp2_with fail
            refine H.out.mono ?_
            rintro e w' ⟨rfl, rfl⟩
            go_wp2_with fail
            go_ret
            refine ⟨⟨_, rfl, ?_⟩, ?_, kept_set w _⟩
            · rw [takeS_le hN]; exact HR.out _
            · rw [takeS_le hN]
              refine HF.out _ (.inr ⟨g, off, 0, by rw [List.length_drop, Nat.sub_self], ho, by simp, by unfold maxLen; omega, fun j u hu => ?_⟩)
              simp at hu
          · have hlt : N < c := by omega
            have hlt2 : (N : Int) < (c : Int) := by omega
            go_enter Try.func56, Try.ntmps56
            go_wp2_with fail
            refine H.out.mono ?_
            rintro e w' ⟨rfl, rfl⟩
            go_wp2_with fail
            go_ret
            refine ⟨⟨_, rfl, ?_⟩, ?_, kept_set w _⟩
            · rw [takeS_le hN]; exact HR.out _
            · rw [takeS_le hN]
              refine HF.out _ (.inr ⟨g, off + N, c - N, by rw [List.length_drop], ho, by rw [List.length_drop]; omega, by unfold maxLen; omega, fun j u hu => ?_⟩)
              rw [List.getElem?_drop] at hu
              rw [Nat.add_assoc]
              exact HS.out _ _ u hu
        · have hgt : (l.length : Int) < (N : Int) := by omega
          have H2 := Lib.hid (rfail (lim := lim) (some ⟨b, 0, none⟩) (some l) w (.good b _ l hc (.inr ⟨g, off, c, rfl, ho, hl, hm, hcell⟩)))
          clear hc hcell ho
          go_enter Try.func56, Try.ntmps56
          go_wp2_with fail
          refine H.out.mono ?_
          rintro e w' ⟨rfl, rfl⟩
          go_wp2_with fail
          refine H2.out.mono ?_
          rintro e w' ⟨rfl, h3, h4⟩
          go_wp2_with fail
          go_ret
          exact ⟨⟨_, rfl, .inl ⟨rfl, by simp [takeS, hN]⟩⟩, by simpa [takeS, hN] using h3, h4⟩

end Go.Proofs.Ytdckcjcddibglaa.D

namespace Go.Proofs.Ytdckcjcddibglaa.D
open Go.RowKit OctM
variable {lim : Nat}

/-- A slice beside the reader: without a byte, or with a first one. -/
theorem Rg.parts {ptr : Option Addr} {w : World} {v : Value} {l : List UInt8} (h : Rg lim ptr w v l) :
    (l = [] ∧ ∃ o c, v = .slice o 0 c) ∨ ∃ x t g off c, l = x :: t ∧ v = .slice (some ⟨g, off, none⟩) (t.length + 1) c ∧ Off lim ptr g ∧ t.length + 1 ≤ c ∧ c ≤ maxLen ∧ ∀ j u, (x :: t)[j]? = some u → w.cell? ⟨g, off + j, none⟩ = some (B u) := by
  rcases h with ⟨rfl, rfl⟩ | ⟨g, off, c, rfl, ho, hl, hm, hc⟩
  · exact .inl ⟨rfl, _, _, rfl⟩
  · rcases l with _ | ⟨x, t⟩
    · exact .inl ⟨rfl, _, _, rfl⟩
    · exact .inr ⟨x, t, g, off, c, rfl, rfl, ho, hl, hm, hc⟩

/-- What a read of a number leaves. -/
structure NPost (lim : Nat) (ptr : Option Addr) (w w' : World) (k : IntKind) (n : Int) (s : Option (List UInt8)) (e : Ending) : Prop where
  ret : e = .returned (.int k n)
  st : RS lim w' ptr s
  kept : Kept (own1 ptr) w w'

set_option maxHeartbeats 2000000 in
set_option maxRecDepth 100000 in
theorem rsize (ptr : Option Addr) (s : Option (List UInt8)) (w : World) (h : RS lim w ptr s) :
    Calls Try.prog 57 #[.pointer ptr] w fun e w' => NPost lim ptr w w' .i64 (sizeS s).1 (sizeS s).2 e := by
  have H := Lib.hid (rtake ptr s 1 w h (by omega) (by omega))
  go_enter Try.func57, Try.ntmps57
  go_wp2_with fail
  refine H.out.mono ?_
  rintro e w1 ⟨⟨v, rfl, hg⟩, hs, hk⟩
  simp only [show (1 : Int).toNat = 1 from rfl] at hg hs
  rcases hg.parts with ⟨h1, o, c, rfl⟩ | ⟨x, t, g, off, c, h1, rfl, ho, hl, hm, hc⟩
  · have hz := sizeS_nil h1
    have HZ := Lib.hid hz
    clear hz h1 hg
    go_wp2_with fail
    go_ret
    rw [HZ.out]
    exact ⟨rfl, hs, hk⟩
  · have c0 : w1.cell? ⟨g, off, none⟩ = some (.int .u8 (x.toNat : Int)) := hc 0 x rfl
    have hx0 : (0 : Int) ≤ (x.toNat : Int) := by omega
    have hx1 : (x.toNat : Int) < 256 := by have := x.toNat_lt; omega
    unfold maxLen at hm
    have hlen : (0 : Int) < (t.length : Int) + 1 := by omega
    by_cases hx : 8 < x.toNat
    · have hz := sizeS_big h1 hx
      have HZ := Lib.hid hz
      have hd : (8 : Int) < (x.toNat : Int) := by omega
      have H2 := Lib.hid (rfail ptr _ w1 hs)
      generalize x.toNat = X at *
      clear hz h1 hg hc hs
      go_wp2_with fail
      refine H2.out.mono ?_
      rintro e w2 ⟨rfl, h3, h4⟩
      go_wp2_with fail
      go_ret
      rw [HZ.out]
      exact ⟨rfl, h3, hk.trans h4⟩
    · have hz := sizeS_ok h1 hx
      have HZ := Lib.hid hz
      have hd : (x.toNat : Int) ≤ 8 := by omega
      generalize x.toNat = X at *
      clear hz h1 hg hc
      go_wp2_with fail
      go_ret
      rw [HZ.out]
      exact ⟨rfl, hs, hk⟩

set_option maxHeartbeats 4000000 in
set_option maxRecDepth 100000 in
theorem ruint (ptr : Option Addr) (s : Option (List UInt8)) (w : World) (h : RS lim w ptr s) :
    Calls Try.prog 47 #[.pointer ptr] w fun e w' => NPost lim ptr w w' .u64 (uintS s).1 (uintS s).2 e := by
  have H := Lib.hid (rsize ptr s w h)
  have hle := sizeS_le s
  go_enter Try.func47, Try.ntmps47
  go_wp2_with fail
  refine H.out.mono ?_
  rintro e w1 ⟨rfl, hs1, hk1⟩
  have H1 := Lib.hid (rtake ptr _ (sizeS s).1 w1 hs1 (by omega) (by omega))
  go_wp2_with fail
  refine H1.out.mono ?_
  rintro e w2 ⟨⟨v, rfl, hg⟩, hs2, hk2⟩
  rw [Int.toNat_natCast] at hg hs2
  have hlen := takeS_len (sizeS s).2 (sizeS s).1
  have hk := hk1.trans hk2
  rcases hg.parts with ⟨h1, o, c, rfl⟩ | ⟨x, t, g, off, c, h1, rfl, ho, hl, hm, hc⟩
  · have HZ := Lib.hid (uintS_nil h1)
    clear h1 hg
    go_wp2_with fail
    go_ret
    rw [HZ.out]
    exact ⟨rfl, hs2, hk⟩
  · have c0 : w2.cell? ⟨g, off, none⟩ = some (.int .u8 (x.toNat : Int)) := hc 0 x rfl
    have hx0 : (0 : Int) ≤ (x.toNat : Int) := by omega
    have hx1 : (x.toNat : Int) < 256 := by have := x.toNat_lt; omega
    rw [h1, List.length_cons] at hlen
    have hl8 : t.length + 1 ≤ 8 := by omega
    unfold maxLen at hm
    have hlen0 : (0 : Int) < (t.length : Int) + 1 := by omega
    have hlen1 : (t.length : Int) + 1 ≤ 8 := by omega
    by_cases hx : x.toNat = 0
    · have HZ := Lib.hid (uintS_zero h1 hx)
      have hd : ((x.toNat : Int) == 0) = true := by simp [hx]
      have H2 := Lib.hid (rfail ptr _ w2 hs2)
      clear h1 hg hc hs2 hx hk1 hk2
      generalize x.toNat = X at *
      go_wp2_with fail
      refine H2.out.mono ?_
      rintro e w3 ⟨rfl, h3, h4⟩
      go_wp2_with fail
      go_ret
      rw [HZ.out]
      exact ⟨rfl, h3, hk.trans h4⟩
    · have HZ := Lib.hid (uintS_ok h1 hx)
      have hd : ((x.toNat : Int) == 0) = false := by simp; omega
      have HC := Lib.hid hc
      clear h1 hg hc hx hk1 hk2
      go_wp2_with fail
      go_loop [4, 22] (fun n i => ∃ k y : Nat, k ≤ t.length + 1 ∧ i = .int .i64 k ∧ n = .int .u64 (y : Int) ∧ Hid (y = be ((x :: t).take k))) (fun _ i => t.length + 1 - (intOf i).toNat)
      case atStart => exact ⟨0, 0, by omega, rfl, rfl, rfl⟩
      case round =>
        obtain ⟨k, y, hkl, rfl, rfl, hy⟩ := hrel
        by_cases hlt : k < t.length + 1
        · have hcell := HC.out k ((x :: t)[k]'(by simpa using hlt)) (by simp [hlt])
          unfold B at hcell
          have hb := ((x :: t)[k]'(by simpa using hlt)).toNat_lt
          have fin := fun z hz => be_hid (l := x :: t) (k := k) (y := z) (by simpa using hlt) hy hz
          have hyl : y < 72057594037927936 := by rw [hy.out]; exact be_lt7 _ (by rw [List.length_take]; omega)
          have hd : decide ((k : Int) < (t.length : Int) + 1) = true := by simp; omega
          generalize ((x :: t)[k]'(by simpa using hlt)).toNat = u at *
          have hor := Lib.hid (or_byte y u hyl (by omega))
          have HF := Lib.hid (fin _ rfl)
          have hb' : (u : Int) < 256 := by omega
          clear fin hyl hb
          go_wp2_with fail
          go_round
          case rel => exact ⟨k + 1, y * 256 + u, by omega, by go_num, by rw [hor.out], HF.out⟩
          case measure => simp [intOf]; omega
        · have hd : decide ((k : Int) < (t.length : Int) + 1) = false := by simp; omega
          have hkl' : k = t.length + 1 := by omega
          have hy' : Hid (y = be (x :: t)) := by
            have := hy.out
            rw [hkl', List.take_of_length_le (by simp)] at this
            exact this
          clear hkl' hy
          repeat go_step
          go_ret
          rw [HZ.out]
          exact ⟨by rw [← hy'.out]; rfl, hs2, hk⟩

end Go.Proofs.Ytdckcjcddibglaa.D

namespace Go.Proofs.Ytdckcjcddibglaa.D
open Go.RowKit OctM
variable {lim : Nat}

theorem Rg.below {ptr : Option Addr} {w w' : World} {v : Value} {l : List UInt8} (h : Rg lim ptr w v l) (hb : Below w.heap.size w w') : Rg lim ptr w' v l := by
  rcases h with h | ⟨g, off, c, hv, ho, hl, hm, hc⟩
  · exact .inl h
  · exact .inr ⟨g, off, c, hv, ho, hl, hm, fun j u hu => (hb.cell (World.block_lt_of_cell? w _ (hc j u hu))).trans (hc j u hu)⟩
theorem RS.below {ptr : Option Addr} {w w' : World} {s : Option (List UInt8)} (h : RS lim w ptr s) (hb : Below w.heap.size w w') : RS lim w' ptr s := by
  cases h with
  | nil => exact .nil
  | bad b v l hc hr => exact .bad b v l ((hb.block b (lt_of_block hc)).trans hc) (hr.below hb)
  | good b v l hc hr => exact .good b v l ((hb.block b (lt_of_block hc)).trans hc) (hr.below hb)

set_option maxHeartbeats 2000000 in
set_option maxRecDepth 100000 in
theorem rint (ptr : Option Addr) (s : Option (List UInt8)) (w : World) (h : RS lim w ptr s) :
    Calls Try.prog 58 #[.pointer ptr] w fun e w' => NPost lim ptr w w' .i64 (unzig (uintS s).1) (uintS s).2 e := by
  have H := Lib.hid (ruint ptr s w h)
  have hlt := uintS_lt s
  have HX := Lib.hid (unzig_xor _ hlt)
  have h0 : (0 : Int) ≤ ((uintS s).1 : Int) := by omega
  have h1 : ((uintS s).1 : Int) < 18446744073709551616 := by omega
  clear hlt
  go_enter Try.func58, Try.ntmps58
  go_wp2_with fail
  refine H.out.mono ?_
  rintro e w1 ⟨rfl, hs1, hk1⟩
  go_wp2_with fail
  go_ret
  exact ⟨by rw [← HX.out]; rfl, hs1, hk1⟩

set_option maxHeartbeats 2000000 in
set_option maxRecDepth 100000 in
theorem rupto (ptr : Option Addr) (s : Option (List UInt8)) (most : Int) (w : World) (h : RS lim w ptr s) (m0 : -9223372036854775808 ≤ most) (m1 : most ≤ 9223372036854775807) :
    Calls Try.prog 49 #[.pointer ptr, .int .i64 most] w fun e w' => NPost lim ptr w w' .i64 (uptoS s most).1 (uptoS s most).2 e := by
  have H := Lib.hid (ruint ptr s w h)
  have hlt := uintS_lt s
  have h0 : (0 : Int) ≤ ((uintS s).1 : Int) := by omega
  have h1 : ((uintS s).1 : Int) < 18446744073709551616 := by omega
  clear hlt
  rcases Int.lt_or_le most 0 with hm | hm
  · have HU : Hid (uptoS s most = (0, none)) := if_pos (.inl hm)
    go_enter Try.func49, Try.ntmps49
    go_wp2_with fail
    refine H.out.mono ?_
    rintro e w1 ⟨rfl, hs1, hk1⟩
    have H2 := Lib.hid (rfail ptr _ w1 hs1)
    go_wp2_with fail
    refine H2.out.mono ?_
    rintro e w2 ⟨rfl, h3, h4⟩
    go_wp2_with fail
    go_ret
    rw [HU.out]
    exact ⟨rfl, h3, hk1.trans h4⟩
  · rcases Int.lt_or_le most ((uintS s).1 : Int) with hn | hn
    · have HU : Hid (uptoS s most = (0, none)) := if_pos (.inr hn)
      have hd : decide (most < ((uintS s).1 : Int)) = true := by simp; omega
      have hd0 : decide (most < 0) = false := by simp; omega
      go_enter Try.func49, Try.ntmps49
      go_wp2_with fail
      refine H.out.mono ?_
      rintro e w1 ⟨rfl, hs1, hk1⟩
      have H2 := Lib.hid (rfail ptr _ w1 hs1)
      go_wp2_with fail
      refine H2.out.mono ?_
      rintro e w2 ⟨rfl, h3, h4⟩
      go_wp2_with fail
      go_ret
      rw [HU.out]
      exact ⟨rfl, h3, hk1.trans h4⟩
    · have HU : Hid (uptoS s most = uintS s) := if_neg (by omega)
      have hd : decide (most < ((uintS s).1 : Int)) = false := by simp; omega
      have hd0 : decide (most < 0) = false := by simp; omega
      go_enter Try.func49, Try.ntmps49
      go_wp2_with fail
      refine H.out.mono ?_
      rintro e w1 ⟨rfl, hs1, hk1⟩
      go_wp2_with fail
      go_ret
      rw [HU.out]
      exact ⟨rfl, hs1, hk1⟩

set_option maxHeartbeats 2000000 in
set_option maxRecDepth 100000 in
theorem rbytes (ptr : Option Addr) (s : Option (List UInt8)) (most : Int) (w : World) (h : RS lim w ptr s) (m0 : -9223372036854775808 ≤ most) (m1 : most ≤ 9223372036854775807) (hlen : (bytesS s most).1.length ≤ 140737488355328) :
    Calls Try.prog 53 #[.pointer ptr, .int .i64 most] w fun e w' => ∃ v, e = .returned v ∧ Own w' w.heap.size v (bytesS s most).1 ∧ RS lim w' ptr (bytesS s most).2 ∧ Kept (own1 ptr) w w' := by
  have H := Lib.hid (rupto ptr s most w h m0 m1)
  have hle := uptoS_le s most m1
  have HL := Lib.hid hlen
  clear hlen
  go_enter Try.func53, Try.ntmps53
  go_wp2_with fail
  refine H.out.mono ?_
  rintro e w1 ⟨rfl, hs1, hk1⟩
  have H1 := Lib.hid (rtake ptr _ (uptoS s most).1 w1 hs1 (by omega) (by omega))
  clear hs1 hle
  go_wp2_with fail
  refine H1.out.mono ?_
  rintro e w2 ⟨⟨v, rfl, hg⟩, hs2, hk2⟩
  rw [Int.toNat_natCast] at hg hs2
  have H2 := Lib.hid (clone v (bytesS s most).1 w2 hg.rd HL.out)
  go_wp2_with fail
  refine H2.out.mono ?_
  rintro e w3 ⟨v3, rfl, h3, hb3⟩
  go_wp2_with fail
  go_ret
  have hk := hk1.trans hk2
  exact ⟨v3, rfl, own_base h3 hk.size, hs2.below hb3, hk.trans (Below.kept hb3 fun k h1 h2 => absurd h2 (by omega))⟩

set_option maxHeartbeats 2000000 in
set_option maxRecDepth 100000 in
theorem rend (ptr : Option Addr) (s : Option (List UInt8)) (w : World) (h : RS lim w ptr s) :
    Calls Try.prog 41 #[.pointer ptr] w fun e w' => e = .returned (.bool (s == some [])) ∧ w = w' := by
  have H := Lib.hid (rbad ptr s w h)
  cases h with
  | nil =>
    go_enter Try.func41, Try.ntmps41
    go_wp2_with fail
    refine H.out.mono ?_
    rintro e w' ⟨rfl, rfl⟩
    go_wp2_with fail
    go_ret
    exact ⟨rfl, rfl⟩
  | bad b v l hc hr =>
    clear hc hr
    go_enter Try.func41, Try.ntmps41
    go_wp2_with fail
    refine H.out.mono ?_
    rintro e w' ⟨rfl, rfl⟩
    go_wp2_with fail
    go_ret
    exact ⟨rfl, rfl⟩
  | good b v l hc hr =>
    have c0 := cell0_of_two hc
    rcases hr.parts with ⟨rfl, o, c, rfl⟩ | ⟨x, t, g, off, c, rfl, rfl, ho, hl, hm, hcell⟩
    · clear hc hr
      go_enter Try.func41, Try.ntmps41
      go_wp2_with fail
      refine H.out.mono ?_
      rintro e w' ⟨rfl, rfl⟩
      go_wp2_with fail
      go_ret
      exact ⟨rfl, rfl⟩
    · clear hc hr hcell ho
      have hd : (((t.length : Int) + 1) == 0) = false := by simp; omega
      go_enter Try.func41, Try.ntmps41
      go_wp2_with fail
      refine H.out.mono ?_
      rintro e w' ⟨rfl, rfl⟩
      go_wp2_with fail
      go_ret
      exact ⟨rfl, rfl⟩

set_option maxHeartbeats 2000000 in
set_option maxRecDepth 100000 in
theorem newReader (v : Value) (l : List UInt8) (w : World) (h : Rd w v l) (hl : l.length ≤ 140737488355328) :
    Calls Try.prog 38 #[v] w fun e w' => ∃ b, e = .returned (.pointer (some ⟨b, 0, none⟩)) ∧ RS b w' (some ⟨b, 0, none⟩) (some l) ∧ Below w.heap.size w w' ∧ w.heap.size ≤ b := by
  have H := Lib.hid (clone v l w h hl)
  go_enter Try.func38, Try.ntmps38
  go_wp2_with fail
  refine H.out.mono ?_
  rintro e w1 ⟨v1, rfl, h1, hb1⟩
  have hs := hb1.size
  have fin : RS w1.heap.size (w1.alloc (.cells #[v1, .bool false] 97)) (some ⟨w1.heap.size, 0, none⟩) (some l) := by
    refine .good _ v1 l (heap_alloc_new w1 _) ?_
    have hlt := h1.lt
    rcases h1.2 with ⟨rfl, hn⟩ | ⟨g, cap, cur, rfl, _, hg, hn, hm, _⟩
    · exact .inl ⟨rfl, List.eq_nil_of_length_eq_zero hn⟩
    · refine .inr ⟨g, 0, cap, rfl, ?_, hn, hm, fun j u hu => ?_⟩
      · have := (hlt g rfl).2
        refine ⟨this, ?_⟩
        rintro a ha
        cases ha
        simp
        omega
      · have := World.ownsRow.cells h1 (g := g) rfl j (B u) (by simp [Bs, hu])
        rw [add_none] at this
        exact cell_alloc this _
  have HF := Lib.hid fin
  obtain ⟨o, n, c, rfl⟩ : ∃ o n c, v1 = .slice o n c := by
    rcases h1.2 with ⟨rfl, _⟩ | ⟨g, cap, cur, rfl, _⟩
    · exact ⟨_, _, _, rfl⟩
    · exact ⟨_, _, _, rfl⟩
  clear fin h1
  go_wp2_with fail
  go_ret
  exact ⟨_, rfl, HF.out, hb1.alloc (by omega) _, hs⟩

theorem RS.keep {lim : Nat} {S : Nat → Prop} {w w' : World} {ptr : Option Addr} {s : Option (List UInt8)} (h : RS lim w ptr s) (hk : Kept S w w') (hp : ∀ a, ptr = some a → ¬ S a.block) (hS : ∀ k, k < lim → ¬ S k) : RS lim w' ptr s := by
  have key : ∀ b v l, ptr = some ⟨b, 0, none⟩ → Rg lim (some ⟨b, 0, none⟩) w v l → Rg lim (some ⟨b, 0, none⟩) w' v l := by
    rintro b v l hb (h | ⟨g, off, c, hv, ho, hl, hm, hc⟩)
    · exact .inl h
    · refine .inr ⟨g, off, c, hv, ho, hl, hm, fun j u hu => ?_⟩
      have h1 := hc j u hu
      exact (World.cell?_of_block (w := w) (hk.block g (World.block_lt_of_cell? w _ h1) (hS g ho.1))).trans h1
  cases h with
  | nil => exact .nil
  | bad b v l hc hr => exact .bad b v l ((hk.block b (lt_of_block hc) (hp _ rfl)).trans hc) (key b v l rfl hr)
  | good b v l hc hr => exact .good b v l ((hk.block b (lt_of_block hc) (hp _ rfl)).trans hc) (key b v l rfl hr)

end Go.Proofs.Ytdckcjcddibglaa.D
