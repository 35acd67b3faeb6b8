/- The reference's reader: Uint, Int, Upto, Bytes. -/
import Derived.Test.YtdofddgodinphaaOctN
import Derived.Test.YtdofddgodinphaaOctP
namespace Go.Proofs.Ytdofddgodinphaa
open Go.RowKit OctM

theorem rruint (b : Nat) (v : Value) (l : List UInt8) (s : Option (List UInt8)) (w : World) (h : RR w b v l s) (hl : l.length ≤ 140737488351232) :
    Calls Try.prog 36 #[.pointer (some ⟨b, 0, none⟩)] w fun e w' => MPost b w w' v l .u64 ((uintS s).1 : Nat) (uintS s).2 e := by
  by_cases hno : ∀ x t, s = some (x :: t) → 8 < x.toNat ∨ t.length < x.toNat
  · exact rruint_fault b v l s w h hl hno
  · obtain ⟨x, t, hs, hx⟩ : ∃ x t, s = some (x :: t) ∧ ¬ (8 < x.toNat ∨ t.length < x.toNat) := by
      refine Classical.byContradiction fun hc => hno fun x t hs => Classical.byContradiction fun hx => hc ⟨x, t, hs, hx⟩
    obtain ⟨⟨a, hc, hsa⟩, hr⟩ := h
    rcases hsa with ⟨h1, _⟩ | ⟨k, rfl, hk, h1⟩
    · rw [h1] at hs; cases hs
    · rw [h1] at hs
      injection hs with hs
      rw [h1, hs]
      rcases hr with (⟨_, rfl⟩ | ⟨g, off, c, rfl, ho, hlc, hcm, hcell⟩) | ⟨rfl, _⟩
      · simp at hs
      · exact rruint_good b k g off c l x t w hc ho hlc hcm hcell hl hs (by omega) (by omega)
      · simp at hs

theorem takeS_some {s : Option (List UInt8)} {n : Nat} (h : (takeS s n).1 ≠ []) : (takeS s n).2 ≠ none := by
  unfold takeS at *
  split
  · simp at h
  · split
    · simp
    · rename_i h1; simp [h1] at h

theorem uintS_bad {s : Option (List UInt8)} (h : (uintS s).2 = none) : (uintS s).1 = 0 := by
  rcases hd : (takeS (sizeS s).2 (sizeS s).1).1 with _ | ⟨x, t⟩
  · rw [uintS_nil hd]
  · by_cases hx : x.toNat = 0
    · rw [uintS_zero hd hx]
    · rw [uintS_ok hd hx] at h
      exact absurd h (takeS_some (by rw [hd]; simp))

/-- The place set back. -/
theorem rr_reset {w : World} {b : Nat} {v : Value} {l : List UInt8} {s : Option (List UInt8)} (h : RR w b v l s) : RR (w.setCell ⟨b, 1, none⟩ (.int .i64 (-1))) b v l none ∧ Kept (own1 (some ⟨b, 0, none⟩)) w (w.setCell ⟨b, 1, none⟩ (.int .i64 (-1))) := by
  obtain ⟨⟨a, hc, _⟩, hr⟩ := h
  exact ⟨⟨⟨-1, two_set1 hc, .inl ⟨rfl, rfl⟩⟩, hr.kept (kept_set w _)⟩, kept_set w _⟩
theorem rr_move {w : World} {b : Nat} {v : Value} {l : List UInt8} {s : Option (List UInt8)} (h : RR w b v l s) (k : Nat) (hk : k ≤ l.length) : RR (w.setCell ⟨b, 1, none⟩ (.int .i64 (k : Int))) b v l (some (l.drop k)) ∧ Kept (own1 (some ⟨b, 0, none⟩)) w (w.setCell ⟨b, 1, none⟩ (.int .i64 (k : Int))) := by
  obtain ⟨⟨a, hc, _⟩, hr⟩ := h
  exact ⟨⟨⟨k, two_set1 hc, .inr ⟨k, rfl, hk, rfl⟩⟩, hr.kept (kept_set w _)⟩, kept_set w _⟩

set_option maxHeartbeats 2000000 in
set_option maxRecDepth 100000 in
theorem rrint (b : Nat) (v : Value) (l : List UInt8) (s : Option (List UInt8)) (w : World) (h : RR w b v l s) (hl : l.length ≤ 140737488351232) :
    Calls Try.prog 35 #[.pointer (some ⟨b, 0, none⟩)] w fun e w' => MPost b w w' v l .i64 (unzig (uintS s).1) (uintS s).2 e := by
  have H := Lib.hid (rruint b v l s w h hl)
  have hlt := uintS_lt s
  clear h
  generalize hN : (uintS s).1 = N at *
  have h0 : (0 : Int) ≤ (N : Int) := by omega
  have HN := Lib.hid hN
  have h1 : (N : Int) / 2 < 9223372036854775808 := by omega
  have h2 : (0 : Int) ≤ (N : Int) / 2 := by omega
  clear hN hlt
  by_cases hod : N % 2 = 1
  · have HU : Hid (unzig N = -((N : Int) / 2) - 1) := by show unzig N = _; unfold unzig; rw [if_pos hod]; omega
    have hd : ((N : Int) % 2 == 1) = true := by simp; omega
    clear hod
    go_enter Try.func35, Try.ntmps35
    go_wp2_with fail
    refine H.out.mono ?_
    rintro e w1 ⟨rfl, h3, h4⟩
    go_wp2_with fail
    go_ret
    rw [HU.out]
    exact ⟨rfl, h3, h4⟩
  · have HU : Hid (unzig N = (N : Int) / 2) := by show unzig N = _; unfold unzig; rw [if_neg hod]; omega
    have hd : ((N : Int) % 2 == 1) = false := by simp; omega
    clear hod
    go_enter Try.func35, Try.ntmps35
    go_wp2_with fail
    refine H.out.mono ?_
    rintro e w1 ⟨rfl, h3, h4⟩
    go_wp2_with fail
    go_ret
    rw [HU.out]
    exact ⟨rfl, h3, h4⟩

set_option maxHeartbeats 2000000 in
set_option maxRecDepth 100000 in
theorem rrupto (b : Nat) (v : Value) (l : List UInt8) (s : Option (List UInt8)) (most : Int) (w : World) (h : RR w b v l s) (hl : l.length ≤ 140737488351232) (m0 : -9223372036854775808 ≤ most) (m1 : most ≤ 9223372036854775807) :
    Calls Try.prog 34 #[.pointer (some ⟨b, 0, none⟩), .int .i64 most] w fun e w' => MPost b w w' v l .i64 ((uptoS s most).1 : Nat) (uptoS s most).2 e := by
  have H := Lib.hid (rruint b v l s w h hl)
  have hlt := uintS_lt s
  have h0 : (0 : Int) ≤ ((uintS s).1 : Int) := by omega
  clear h
  rcases hs : (uintS s).2 with _ | r
  · have HU : Hid (uptoS s most = (0, none)) := by
      show uptoS s most = _
      unfold uptoS
      split
      · rfl
      · have := uintS_bad hs
        exact Prod.ext this hs
    have HS := Lib.hid hs
    clear hs hlt
    go_enter Try.func34, Try.ntmps34
    go_wp2_with fail
    refine H.out.mono ?_
    rintro e w1 ⟨rfl, hst, hk⟩
    rw [HS.out] at hst
    obtain ⟨⟨a, hc, ha⟩, hr⟩ := hst
    obtain rfl : a = -1 := by
      rcases ha with ⟨_, ha⟩ | ⟨_, _, _, ha⟩
      · exact ha
      · cases ha
    have R := Lib.hid (rr_reset (s := none) ⟨⟨_, hc, .inl ⟨rfl, rfl⟩⟩, hr⟩)
    have c1 := cell1_of_two hc
    have f1 := free_of_two hc 1
    clear hc hr ha
    go_wp2_with fail
    go_ret
    rw [HU.out]
    exact ⟨rfl, R.out.1, hk.trans R.out.2⟩
  · have HS := Lib.hid hs
    clear hs
    rcases Int.lt_or_le most 0 with hm | hm
    · have HU : Hid (uptoS s most = (0, none)) := if_pos (.inl hm)
      have hd : decide (most < 0) = true := by simpa using hm
      go_enter Try.func34, Try.ntmps34
      go_wp2_with fail
      refine H.out.mono ?_
      rintro e w1 ⟨rfl, hst, hk⟩
      rw [HS.out] at hst
      have R := Lib.hid (rr_reset hst)
      obtain ⟨⟨a, hc, ha⟩, hr⟩ := hst
      obtain ⟨k, rfl, hkl, _⟩ : ∃ k : Nat, a = (k : Int) ∧ k ≤ l.length ∧ True := by
        rcases ha with ⟨ha, _⟩ | ⟨k, ha, hkl, _⟩
        · cases ha
        · exact ⟨k, ha, hkl, trivial⟩
      have c1 := cell1_of_two hc
      have f1 := free_of_two hc 1
      have hk0 : decide ((k : Int) < 0) = false := by simp
      clear hc hr ha hlt
      go_wp2_with fail
      go_ret
      rw [HU.out]
      exact ⟨rfl, R.out.1, hk.trans R.out.2⟩
    · have hd : decide (most < 0) = false := by simp; omega
      rcases Int.lt_or_le most ((uintS s).1 : Int) with hn | hn
      · have HU : Hid (uptoS s most = (0, none)) := if_pos (.inr hn)
        have hd2 : decide (most < ((uintS s).1 : Int)) = true := by simpa using hn
        go_enter Try.func34, Try.ntmps34
        go_wp2_with fail
        refine H.out.mono ?_
        rintro e w1 ⟨rfl, hst, hk⟩
        rw [HS.out] at hst
        have R := Lib.hid (rr_reset hst)
        obtain ⟨⟨a, hc, ha⟩, hr⟩ := hst
        obtain ⟨k, rfl, hkl, _⟩ : ∃ k : Nat, a = (k : Int) ∧ k ≤ l.length ∧ True := by
          rcases ha with ⟨ha, _⟩ | ⟨k, ha, hkl, _⟩
          · cases ha
          · exact ⟨k, ha, hkl, trivial⟩
        have c1 := cell1_of_two hc
        have f1 := free_of_two hc 1
        have hk0 : decide ((k : Int) < 0) = false := by simp
        clear hc hr ha hlt
        go_wp2_with fail
        go_ret
        rw [HU.out]
        exact ⟨rfl, R.out.1, hk.trans R.out.2⟩
      · have HU : Hid (uptoS s most = uintS s) := if_neg (by omega)
        have hd2 : decide (most < ((uintS s).1 : Int)) = false := by simp; omega
        go_enter Try.func34, Try.ntmps34
        go_wp2_with fail
        refine H.out.mono ?_
        rintro e w1 ⟨rfl, hst, hk⟩
        have HST := Lib.hid hst
        rw [HS.out] at hst
        obtain ⟨⟨a, hc, ha⟩, hr⟩ := hst
        obtain ⟨k, rfl, hkl, _⟩ : ∃ k : Nat, a = (k : Int) ∧ k ≤ l.length ∧ True := by
          rcases ha with ⟨ha, _⟩ | ⟨k, ha, hkl, _⟩
          · cases ha
          · exact ⟨k, ha, hkl, trivial⟩
        have c1 := cell1_of_two hc
        have hk0 : decide ((k : Int) < 0) = false := by simp
        have hnn : ((uintS s).1 : Int) ≤ 9223372036854775807 := by omega
        clear hc hr ha hlt
        go_wp2_with fail
        go_ret
        rw [HU.out]
        exact ⟨rfl, HST.out, hk⟩
end Go.Proofs.Ytdofddgodinphaa
