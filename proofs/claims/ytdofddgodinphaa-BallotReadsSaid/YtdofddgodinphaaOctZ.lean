/- The reference's reader: Bytes. A slice of things to be asked, opened. -/
import Derived.Test.YtdofddgodinphaaOctY
import Derived.Test.YtdofddgodinphaaOpenA
import Derived.Deep.Slices
import Derived.Deep.Fields
namespace Go.Proofs.Ytdofddgodinphaa
open Go.RowKit OctM

theorem lenB' {w : World} {v : Value} {l : List UInt8} (h : Rd w v l) : ∀ W : World, (Builtin.len_ #[24] 3 #[v]).run Try.prog W = .ok (.int .i64 (l.length : Int)) W := by
  obtain ⟨o, c, rfl⟩ : ∃ o c, v = .slice o l.length c := by
    rcases h with ⟨rfl, rfl⟩ | ⟨_, c, rfl, _⟩ <;> exact ⟨_, _, rfl⟩
  intro W
  simp [go_sem]

theorem sizeByte (W : World) : (sizeOf (Try.prog.elem 24)).run Try.prog W = .ok 1 W := by kernel_rfl

set_option maxRecDepth 100000 in
theorem cutB {w : World} {v : Value} {l : List UInt8} (h : Rd w v l) (k n : Nat) (hkn : k + n ≤ l.length) :
    ∃ SV, (∀ W : World, (Instr.slice 24 v (some (.int .i64 (k : Int))) (some (.int .i64 ((k : Int) + (n : Int)))) none).run Try.prog W = .ok SV W) ∧ ∀ W : World, Rd W v l → Rd W SV ((l.drop k).take n) := by
  have ht : Try.prog.underlying 24 = some (.slice (Try.prog.elem 24)) := by kernel_rfl
  obtain ⟨o, c, rfl, hlc⟩ : ∃ o c, v = .slice o l.length c ∧ l.length ≤ c := by
    rcases h with ⟨rfl, rfl⟩ | ⟨_, c, rfl, hc, _⟩
    · exact ⟨_, _, rfl, by simp⟩
    · exact ⟨_, _, rfl, hc⟩
  refine ⟨sliced o k (k + n) c 1, fun W => ?_, fun W hW => ?_⟩
  · rw [run_slice_lh W _ o _ c ht .i64 .i64 k ((k : Int) + (n : Int)) (by omega) (by omega) (by omega), sizeByte]
    show Result.ok (sliced o (k : Int).toNat ((k : Int) + (n : Int)).toNat c 1) W = _
    rw [show ((k : Int) + (n : Int)).toNat = k + n by omega, Int.toNat_natCast]
  · have hl2 : ((l.drop k).take n).length = n := by rw [List.length_take, List.length_drop]; omega
    unfold sliced
    rcases hW with ⟨hv, hl0⟩ | ⟨a, c', hv, h1, h2, h3⟩
    · injection hv with e1 e2 e3
      subst e1 e3 hl0
      simp at hkn
      obtain ⟨rfl, rfl⟩ := hkn
      exact .inl ⟨rfl, rfl⟩
    · injection hv with e1 e2 e3
      subst e1 e3
      by_cases hck : c = k
      · rw [if_pos hck]
        refine .inr ⟨a, c - k, by rw [hl2]; congr 1; omega, by omega, by omega, fun j u hj => ?_⟩
        have := (List.getElem?_eq_some_iff.1 hj).1
        omega
      · rw [if_neg hck]
        refine .inr ⟨a.add (k * 1), c - k, by rw [hl2]; congr 1; omega, by omega, by omega, fun j u hj => ?_⟩
        have hjn : j < n := by
          have := (List.getElem?_eq_some_iff.1 hj).1
          omega
        rw [List.getElem?_take, if_pos hjn, List.getElem?_drop] at hj
        have := h3 (k + j) u hj
        rw [Go.Deep.add_add, Nat.mul_one]
        exact this

theorem kept_drewN (S : Nat → Prop) (w : World) (n : Nat) : Kept S w (w.drewN n) := ⟨rfl, rfl, rfl, Nat.le_refl _, fun _ _ _ => rfl⟩
theorem rr_drewN {w : World} {b : Nat} {v : Value} {l : List UInt8} {s : Option (List UInt8)} (h : RR w b v l s) (n : Nat) : RR (w.drewN n) b v l s := ⟨h.cell, h.rd.kept (kept_drewN _ _ _)⟩

/-- What the reference's Bytes leaves. -/
structure BPost (b : Nat) (w w' : World) (v : Value) (l k : List UInt8) (s : Option (List UInt8)) (e : Ending) : Prop where
  ret : ∃ u, e = .returned u ∧ Rd w' u k
  st : RR w' b v l s
  kept : Kept (own1 (some ⟨b, 0, none⟩)) w w'

set_option maxHeartbeats 2000000 in
set_option maxRecDepth 100000 in
theorem rrbytes (b : Nat) (v : Value) (l : List UInt8) (s : Option (List UInt8)) (most : Int) (w : World) (h : RR w b v l s) (hl : l.length ≤ 140737488351232) (m0 : -9223372036854775808 ≤ most) (m1 : most ≤ 9223372036854775807) :
    Calls Try.prog 37 #[.pointer (some ⟨b, 0, none⟩), .int .i64 most] w fun e w' => BPost b w w' v l (bytesS s most).1 (bytesS s most).2 e := by
  have H := Lib.hid (rrupto b v l s most w h hl m0 m1)
  have hle := uptoS_le s most m1
  have hl0 : (l.length : Int) ≤ 140737488351232 := by omega
  have HB : Hid (bytesS s most = takeS (uptoS s most).2 (uptoS s most).1) := rfl
  clear h
  generalize (uptoS s most).1 = n at *
  generalize (uptoS s most).2 = r at *
  have hn0 : (0 : Int) ≤ (n : Int) := by omega
  have hn1 : (n : Int) ≤ 9223372036854775807 := by omega
  rcases r with _ | r
  · have HU : Hid (bytesS s most = ([], none)) := HB.out
    go_enter Try.func37, Try.ntmps37
    go_wp2_with fail
    refine H.out.mono ?_
    rintro e w1 ⟨rfl, hst, hk⟩
    obtain ⟨⟨a, hc, ha⟩, hr⟩ := hst
    obtain rfl : a = -1 := by
      rcases ha with ⟨_, ha⟩ | ⟨_, _, _, ha⟩
      · exact ha
      · cases ha
    have R := Lib.hid (rr_reset (s := none) ⟨⟨_, hc, .inl ⟨rfl, rfl⟩⟩, hr⟩)
    have R0 := Lib.hid (RR.mk (s := none) ⟨_, hc, .inl ⟨rfl, rfl⟩⟩ hr)
    have c1 := cell1_of_two hc
    have f1 := free_of_two hc 1
    clear hc hr ha
    go_wp2_with fail
    go_region
    go_wp2_with fail
    go_ret
    rw [HU.out]
    have R2 := rr_reset (R0.out.drew)
    exact ⟨⟨_, rfl, .inl ⟨rfl, rfl⟩⟩, by first | exact R2.1 | exact R.out.1.drew, by first | exact hk.trans (R.out.2.drew) | exact hk.trans ((Kept.refl _ _).drew.trans R2.2)⟩
  · go_enter Try.func37, Try.ntmps37
    go_wp2_with fail
    refine H.out.mono ?_
    rintro e w1 ⟨rfl, hst, hk⟩
    have HST := Lib.hid hst
    obtain ⟨⟨a, hc, ha⟩, hr⟩ := hst
    obtain ⟨k, rfl, hkl, hrk⟩ : ∃ k : Nat, a = (k : Int) ∧ k ≤ l.length ∧ r = l.drop k := by
      rcases ha with ⟨ha, _⟩ | ⟨k, ha, hkl, hr⟩
      · cases ha
      · injection hr with hr
        exact ⟨k, ha, hkl, hr⟩
    have c0 := cell0_of_two hc
    have c1 := cell1_of_two hc
    have f1 := free_of_two hc 1
    have hlen := lenB' hr.rd
    have HRD := Lib.hid hr.rd
    have hk0 : decide ((k : Int) < 0) = false := by simp
    have hk0' : (0 : Int) ≤ (k : Int) := by omega
    have e1 : Hid (IntKind.i64.wrap ((l.length : Int) - (k : Int)) = (l.length : Int) - (k : Int)) := IntWalk.i64_in _ (by omega)
    have HK := Lib.hid hk
    by_cases hfar : l.length - k < n
    · have HU : Hid (bytesS s most = ([], none)) := by
        show bytesS s most = _
        rw [HB.out, hrk]
        simp [takeS]
        omega
      have hgt : decide ((l.length : Int) - (k : Int) < (n : Int)) = true := by simp; omega
      clear hc hr ha hrk hk
      go_wp2_with fail
      have p1 := e1.out
      go_quiet (fail)
      clear p1
      go_wp2_with fail
      go_ret
      rw [HU.out]
      exact ⟨⟨_, rfl, .inl ⟨rfl, rfl⟩⟩, (rr_reset (rr_drewN HST.out _)).1, HK.out.trans ((kept_drewN _ _ _).trans (rr_reset (rr_drewN HST.out _)).2)⟩
    · obtain ⟨SV, hsv, hrd⟩ := cutB hr.rd k n (by omega)
      have HU : Hid (bytesS s most = ((l.drop k).take n, some (l.drop (k + n)))) := by
        show bytesS s most = _
        rw [HB.out, hrk, takeS_le (by rw [List.length_drop]; omega), List.drop_drop]
      have hgt : decide ((l.length : Int) - (k : Int) < (n : Int)) = false := by simp; omega
      have HSV := Lib.hid hrd
      have e2 : Hid (IntKind.i64.wrap ((k : Int) + (n : Int)) = (k : Int) + (n : Int)) := IntWalk.i64_in _ (by omega)
      have hkn : (k : Int) + (n : Int) ≤ 140737488351232 := by omega
      have hkn0 : k + n ≤ l.length := by omega
      clear hc hr ha hrk hk hrd
      go_wp2_with fail
      have p1 := e1.out
      go_quiet (fail)
      clear p1
      go_wp2_with fail
      have p2 := e2.out
      go_quiet (fail)
      clear p2
      go_wp2_with fail
      go_ret
      rw [HU.out]
      have R2 := fun m : Nat => rr_move (rr_drewN HST.out m) (k + n) hkn0
      simp only [Int.natCast_add] at R2
      exact ⟨⟨SV, rfl, HSV.out _ (R2 _).1.rd.rd⟩, (R2 _).1, HK.out.trans ((kept_drewN _ _ _).trans (R2 _).2)⟩
end Go.Proofs.Ytdofddgodinphaa
