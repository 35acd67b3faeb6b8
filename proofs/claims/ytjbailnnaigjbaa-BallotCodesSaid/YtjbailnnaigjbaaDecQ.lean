/- The reader again (OctQ): its bytes lie below a bound. -/
import Derived.Test.YtjbailnnaigjbaaDecR
namespace Go.Proofs.Ytjbailnnaigjbaa.D
open Go.RowKit OctM
variable {lim : Nat}

/-- A slice beside the reader: without a byte, or with a first one. -/
theorem Rg.parts {ptr : Option Addr} {w : World} {v : Value} {l : List UInt8} (h : Rg lim ptr w v l) :
    (l = [] ∧ ∃ o c, v = .slice o 0 c) ∨ ∃ x t g off c, l = x :: t ∧ v = .slice (some ⟨g, off, none⟩) (t.length + 1) c ∧ Off lim ptr g ∧ t.length + 1 ≤ c ∧ c ≤ maxLen ∧ ∀ j u, (x :: t)[j]? = some u → w.cell? ⟨g, off + j, none⟩ = some (B u) := by
  rcases h with ⟨rfl, rfl⟩ | ⟨g, off, c, rfl, ho, hl, hm, hc⟩
  · exact .inl ⟨rfl, _, _, rfl⟩
  · rcases l with _ | ⟨x, t⟩
    · exact .inl ⟨rfl, _, _, rfl⟩
    · exact .inr ⟨x, t, g, off, c, rfl, rfl, ho, hl, hm, hc⟩

/-- What a read of a number leaves. -/
structure NPost (lim : Nat) (ptr : Option Addr) (w w' : World) (k : IntKind) (n : Int) (s : Option (List UInt8)) (e : Ending) : Prop where
  ret : e = .returned (.int k n)
  st : RS lim w' ptr s
  kept : Kept (own1 ptr) w w'

set_option maxHeartbeats 2000000 in
set_option maxRecDepth 100000 in
theorem rsize (ptr : Option Addr) (s : Option (List UInt8)) (w : World) (h : RS lim w ptr s) :
    Calls Try.prog 54 #[.pointer ptr] w fun e w' => NPost lim ptr w w' .i64 (sizeS s).1 (sizeS s).2 e := by
  have H := Lib.hid (rtake ptr s 1 w h (by omega) (by omega))
  go_enter Try.func54, Try.ntmps54
  go_wp2_with fail
  refine H.out.mono ?_
  rintro e w1 ⟨⟨v, rfl, hg⟩, hs, hk⟩
  simp only [show (1 : Int).toNat = 1 from rfl] at hg hs
  rcases hg.parts with ⟨h1, o, c, rfl⟩ | ⟨x, t, g, off, c, h1, rfl, ho, hl, hm, hc⟩
  · have hz := sizeS_nil h1
    have HZ := Lib.hid hz
    clear hz h1 hg
    go_wp2_with fail
    go_ret
    rw [HZ.out]
    exact ⟨rfl, hs, hk⟩
  · have c0 : w1.cell? ⟨g, off, none⟩ = some (.int .u8 (x.toNat : Int)) := hc 0 x rfl
    have hx0 : (0 : Int) ≤ (x.toNat : Int) := by omega
    have hx1 : (x.toNat : Int) < 256 := by have := x.toNat_lt; omega
    unfold maxLen at hm
    have hlen : (0 : Int) < (t.length : Int) + 1 := by omega
    by_cases hx : 8 < x.toNat
    · have hz := sizeS_big h1 hx
      have HZ := Lib.hid hz
      have hd : (8 : Int) < (x.toNat : Int) := by omega
      have H2 := Lib.hid (rfail ptr _ w1 hs)
      generalize x.toNat = X at *
      clear hz h1 hg hc hs
      go_wp2_with fail
      refine H2.out.mono ?_
      rintro e w2 ⟨rfl, h3, h4⟩
      go_wp2_with fail
      go_ret
      rw [HZ.out]
      exact ⟨rfl, h3, hk.trans h4⟩
    · have hz := sizeS_ok h1 hx
      have HZ := Lib.hid hz
      have hd : (x.toNat : Int) ≤ 8 := by omega
      generalize x.toNat = X at *
      clear hz h1 hg hc
      go_wp2_with fail
      go_ret
      rw [HZ.out]
      exact ⟨rfl, hs, hk⟩

set_option maxHeartbeats 4000000 in
set_option maxRecDepth 100000 in
theorem ruint (ptr : Option Addr) (s : Option (List UInt8)) (w : World) (h : RS lim w ptr s) :
    Calls Try.prog 31 #[.pointer ptr] w fun e w' => NPost lim ptr w w' .u64 (uintS s).1 (uintS s).2 e := by
  have H := Lib.hid (rsize ptr s w h)
  have hle := sizeS_le s
  go_enter Try.func31, Try.ntmps31
  go_wp2_with fail
  refine H.out.mono ?_
  rintro e w1 ⟨rfl, hs1, hk1⟩
  have H1 := Lib.hid (rtake ptr _ (sizeS s).1 w1 hs1 (by omega) (by omega))
  go_wp2_with fail
  refine H1.out.mono ?_
  rintro e w2 ⟨⟨v, rfl, hg⟩, hs2, hk2⟩
  rw [Int.toNat_natCast] at hg hs2
  have hlen := takeS_len (sizeS s).2 (sizeS s).1
  have hk := hk1.trans hk2
  rcases hg.parts with ⟨h1, o, c, rfl⟩ | ⟨x, t, g, off, c, h1, rfl, ho, hl, hm, hc⟩
  · have HZ := Lib.hid (uintS_nil h1)
    clear h1 hg
    go_wp2_with fail
    go_ret
    rw [HZ.out]
    exact ⟨rfl, hs2, hk⟩
  · have c0 : w2.cell? ⟨g, off, none⟩ = some (.int .u8 (x.toNat : Int)) := hc 0 x rfl
    have hx0 : (0 : Int) ≤ (x.toNat : Int) := by omega
    have hx1 : (x.toNat : Int) < 256 := by have := x.toNat_lt; omega
    rw [h1, List.length_cons] at hlen
    have hl8 : t.length + 1 ≤ 8 := by omega
    unfold maxLen at hm
    have hlen0 : (0 : Int) < (t.length : Int) + 1 := by omega
    have hlen1 : (t.length : Int) + 1 ≤ 8 := by omega
    by_cases hx : x.toNat = 0
    · have HZ := Lib.hid (uintS_zero h1 hx)
      have hd : ((x.toNat : Int) == 0) = true := by simp [hx]
      have H2 := Lib.hid (rfail ptr _ w2 hs2)
      clear h1 hg hc hs2 hx hk1 hk2
      generalize x.toNat = X at *
      go_wp2_with fail
      refine H2.out.mono ?_
      rintro e w3 ⟨rfl, h3, h4⟩
      go_wp2_with fail
      go_ret
      rw [HZ.out]
      exact ⟨rfl, h3, hk.trans h4⟩
    · have HZ := Lib.hid (uintS_ok h1 hx)
      have hd : ((x.toNat : Int) == 0) = false := by simp; omega
      have HC := Lib.hid hc
      clear h1 hg hc hx hk1 hk2
      go_wp2_with fail
      go_loop [4, 22] (fun n i => ∃ k y : Nat, k ≤ t.length + 1 ∧ i = .int .i64 k ∧ n = .int .u64 (y : Int) ∧ Hid (y = be ((x :: t).take k))) (fun _ i => t.length + 1 - (intOf i).toNat)
      case atStart => exact ⟨0, 0, by omega, rfl, rfl, rfl⟩
      case round =>
        obtain ⟨k, y, hkl, rfl, rfl, hy⟩ := hrel
        by_cases hlt : k < t.length + 1
        · have hcell := HC.out k ((x :: t)[k]'(by simpa using hlt)) (by simp [hlt])
          unfold B at hcell
          have hb := ((x :: t)[k]'(by simpa using hlt)).toNat_lt
          have fin := fun z hz => be_hid (l := x :: t) (k := k) (y := z) (by simpa using hlt) hy hz
          have hyl : y < 72057594037927936 := by rw [hy.out]; exact be_lt7 _ (by rw [List.length_take]; omega)
          have hd : decide ((k : Int) < (t.length : Int) + 1) = true := by simp; omega
          generalize ((x :: t)[k]'(by simpa using hlt)).toNat = u at *
          have hor := Lib.hid (or_byte y u hyl (by omega))
          have HF := Lib.hid (fin _ rfl)
          have hb' : (u : Int) < 256 := by omega
          clear fin hyl hb
          go_wp2_with fail
          go_round
          case rel => exact ⟨k + 1, y * 256 + u, by omega, by go_num, by rw [hor.out], HF.out⟩
          case measure => simp [intOf]; omega
        · have hd : decide ((k : Int) < (t.length : Int) + 1) = false := by simp; omega
          have hkl' : k = t.length + 1 := by omega
          have hy' : Hid (y = be (x :: t)) := by
            have := hy.out
            rw [hkl', List.take_of_length_le (by simp)] at this
            exact this
          clear hkl' hy
          repeat go_step
          go_ret
          rw [HZ.out]
          exact ⟨by rw [← hy'.out]; rfl, hs2, hk⟩

end Go.Proofs.Ytjbailnnaigjbaa.D
