/- The law of what is laid, for any things. -/
import Derived.Test.YtjmfgpklemhomaaLWrites
namespace Go.Proofs.Ytjmfgpklemhomaa
open Go.RowKit OctM

set_option maxRecDepth 100000 in
theorem writes_far (v : Value) (ps : List Put) (w : World) (h : ∃ o c, v = .slice o ps.length c) (hl : 60 < ps.length) :
    Calls Try.prog 3 #[v] w fun e w' => e = .returned (.bool true) ∧ Below w.heap.size w w' := by
  obtain ⟨o, c, rfl⟩ := h
  have hd : decide (60 < (ps.length : Int)) = true := by simp; omega
  go_enter Try.func3, Try.ntmps3
  go_wp2_with fail
  refine (awake w).mono ?_
  rintro e w1 ⟨rfl, hb1⟩
  have HB1 := Lib.hid hb1
  clear hb1
  go_wp2_with fail
  refine (awake w1).mono ?_
  rintro e w2 ⟨rfl, hb2⟩
  have HB2 := Lib.hid (HB1.out.trans (hb2.mono HB1.out.size))
  clear hb2
  go_wp2_with fail
  go_ret
  exact ⟨rfl, HB2.out⟩

set_option maxHeartbeats 2000000 in
set_option maxRecDepth 100000 in
theorem writes_none (o : Option Addr) (c : Nat) (w : World) :
    Calls Try.prog 3 #[.slice o 0 c] w fun e w' => e = .returned (.bool true) ∧ Below w.heap.size w w' := by
  go_enter Try.func3, Try.ntmps3
  go_wp2_with fail
  refine (awake w).mono ?_
  rintro e w1 ⟨rfl, hb1⟩
  have HB1 := Lib.hid hb1
  have HD := Lib.hid (wdone w1.heap.size w1.heap.size (.slice none 0 0) [] (w1.alloc (.cells #[.slice none 0 0] 27)) (wnew (heap_alloc_new w1 _) _) (by simp))
  clear hb1
  go_wp2_with fail
  go_loop [4, 5] (fun q i => i = .int .i64 0 ∧ q = .slice none 0 0) (fun _ _ => 0)
  case atStart => exact ⟨rfl, rfl⟩
  case round =>
    obtain ⟨rfl, rfl⟩ := hrel
    go_wp2_with fail
    refine HD.out.mono ?_
    rintro e w2 ⟨pv, rfl, hp2, hb2⟩
    have B2 := Lib.hid (HB1.out.trans (((Below.refl _ w1).alloc (Nat.le_refl _) _ |>.trans (hb2.mono (by simp))).mono HB1.out.size))
    have HN := Lib.hid (newReader pv _ w2 (Rd.of_own hp2) (by simp))
    have HP2 := Lib.hid hp2
    clear hp2 hb2
    go_wp2_with fail
    refine HN.out.mono ?_
    rintro e w3 ⟨br, rfl, hrs3, hb3, hbr⟩
    have tp := toStr (Rd.of_own (own_below HP2.out hb3 (Nat.le_refl _)))
    have tw := toStr (w := w3) (v := .slice none 0 0) (l := []) (.inl ⟨rfl, rfl⟩)
    unfold S at tp tw
    have B3 := Lib.hid (B2.out.trans (hb3.mono B2.out.size))
    have re : Calls Try.prog 24 #[.pointer (some ⟨br, 0, none⟩)] w3 fun e w' => e = .returned (.bool true) ∧ w3 = w' := rend _ _ w3 hrs3
    have rb : Calls Try.prog 25 #[.pointer (some ⟨br, 0, none⟩)] w3 fun e w' => e = .returned (.bool false) ∧ w3 = w' := rbad _ _ w3 hrs3
    have RE := Lib.hid re
    have RB := Lib.hid rb
    clear re rb hrs3 hb3
    go_wp2_with fail
    go_loop [8] (fun i => i = .int .i64 0) (fun _ => 0)
    case atStart => rfl
    case round =>
      obtain rfl := hrel
      go_wp2_with fail
      refine RE.out.mono ?_
      rintro e w' ⟨rfl, rfl⟩
      go_wp2_with fail
      refine RB.out.mono ?_
      rintro e w' ⟨rfl, rfl⟩
      go_wp2_with fail
      go_ret
      exact ⟨rfl, B3.out⟩

theorem writes_walk (v : Value) (ps : List Put) (w : World) (h : RdP w v ps) :
    Calls Try.prog 3 #[v] w fun e w' => e = .returned (.bool true) ∧ Below w.heap.size w w' := by
  rcases h with ⟨o, c, rfl, rfl⟩ | ⟨b, off, c, rfl, h2, h3, h4, h5⟩
  · exact writes_none o c w
  · by_cases hl : 60 < ps.length
    · exact writes_far _ ps w ⟨_, _, rfl⟩ hl
    · exact writes_row b off c ps w h2 h3 h4 h5 (by omega)
end Go.Proofs.Ytjmfgpklemhomaa
