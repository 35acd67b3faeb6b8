/- A frame is read. -/
import Derived.Test.YtdckcjcddibglaaWaL
namespace Go.Proofs.Ytdckcjcddibglaa
open Go.RowKit OctM

theorem openS_err (l : List UInt8) : (openS l).2 = 0 ∨ ((openS l).1 = [] ∧ ((openS l).2 = 3 ∨ (openS l).2 = 14)) := by
  unfold openS
  split
  · exact .inr ⟨rfl, .inl rfl⟩
  · split
    · exact .inl rfl
    · exact .inr ⟨rfl, .inr rfl⟩
theorem rd_empty {w w' : World} {v : Value} (h : Rd w v []) : Rd w' v [] := by
  rcases h with h | ⟨a, c, hv, hl, hm, _⟩
  · exact .inl h
  · exact .inr ⟨a, c, hv, hl, hm, fun j u hu => by simp at hu⟩

set_option maxHeartbeats 4000000 in
set_option maxRecDepth 100000 in
theorem readFrame_any (b : Nat) (s : Option (List UInt8)) (w : World) (h : RS w (some ⟨b, 0, none⟩) s) (hlen : (bytesS s 1048576).1.length ≤ 100000000) :
    Calls Try.prog 40 #[.pointer (some ⟨b, 0, none⟩)] w fun e w' => ∃ b', e = .returned (.pointer (some ⟨b', 0, none⟩)) ∧ RS w' (some ⟨b', 0, none⟩) (some (openS (bytesS s 1048576).1).1) ∧
      RS w' (some ⟨b, 0, none⟩) (if (openS (bytesS s 1048576).1).2 = 0 then (bytesS s 1048576).2 else none) ∧ Kept (own1 (some ⟨b, 0, none⟩)) w w' ∧ w.heap.size ≤ b' := by
  have HB := Lib.hid (rbytes (some ⟨b, 0, none⟩) s 1048576 w h (by omega) (by omega) (by omega))
  have hblt := h.lt
  have HL := Lib.hid hlen
  clear h hlen
  generalize bytesS s 1048576 = r at *
  have hol : (openS r.1).1.length ≤ 100000000 := by
    have := HL.out
    unfold openS
    split
    · simp
    · split
      · simp only [List.length_take]; omega
      · simp
  have HOL := Lib.hid hol
  have herr := openS_err r.1
  have HOP : ∀ (v1 : Value) (w1 : World), Rd w1 v1 r.1 → Calls Try.prog 52 #[v1] w1 fun e w' => OPost w1 w' (openS r.1) e := fun v1 w1 hr => openC v1 r.1 w1 hr (by have := HL.out; omega)
  have HOPP := Lib.hid HOP
  clear hol HOP
  generalize openS r.1 = q at *
  obtain ⟨q1, q2⟩ := q
  dsimp only at herr
  go_enter Try.func40, Try.ntmps40
  go_wp2_with fail
  refine HB.out.mono ?_
  rintro e w1 ⟨v1, rfl, ho1, hr1, hk1⟩
  have HO := Lib.hid (HOPP.out v1 w1 (Rd.of_own ho1))
  have HR1 := Lib.hid hr1
  have HK1 := Lib.hid hk1
  have hs1 := hk1.size
  clear ho1 hr1 hk1 HB
  go_wp2_with fail
  refine HO.out.mono ?_
  rintro e w2 ⟨⟨v2, rfl, hrd2⟩, hb2⟩
  have HR2 := Lib.hid (HR1.out.below hb2)
  have HK2 := Lib.hid (HK1.out.trans (kept_of_below hb2))
  have HRD := Lib.hid hrd2
  have hs2 := hb2.size
  clear hrd2 hb2 HO HR1
  rcases herr with rfl | ⟨rfl, herr⟩
  · have HN := Lib.hid (newReader v2 q1 w2 HRD.out (by have : q1.length ≤ 100000000 := HOL.out; omega))
    go_wp2_with fail
    refine HN.out.mono ?_
    rintro e w3 ⟨b3, rfl, hr3, hb3, hge⟩
    have HR3 := Lib.hid hr3
    have HRB := Lib.hid (HR2.out.below hb3)
    have HK3 := Lib.hid (HK2.out.trans (kept_of_below hb3))
    clear hr3 hb3 HN
    go_wp2_with fail
    go_ret
    exact ⟨b3, rfl, HR3.out, HRB.out, HK3.out, by omega⟩
  · have HF := Lib.hid (rfail (some ⟨b, 0, none⟩) r.2 w2 HR2.out)
    rcases herr with rfl | rfl
    all_goals
      go_wp2_with fail
      refine HF.out.mono ?_
      rintro e w3 ⟨rfl, hr3, hk3⟩
      have hs3 := hk3.size
      have hrd3 : Rd w3 v2 [] := rd_empty HRD.out
      have HN := Lib.hid (newReader v2 [] w3 hrd3 (by simp))
      have HR3 := Lib.hid hr3
      have HK3 := Lib.hid (HK2.out.trans hk3)
      clear hr3 hk3 hrd3
      go_wp2_with fail
      refine HN.out.mono ?_
      rintro e w4 ⟨b4, rfl, hr4, hb4, hge⟩
      have HR4 := Lib.hid hr4
      have HRB := Lib.hid (HR3.out.below hb4)
      have HK4 := Lib.hid (HK3.out.trans (kept_of_below hb4))
      clear hr4 hb4 HN
      go_wp2_with fail
      go_ret
      exact ⟨b4, rfl, HR4.out, HRB.out, HK4.out, by omega⟩
end Go.Proofs.Ytdckcjcddibglaa
