/- The law of what is read, for any things asked. -/
import Derived.Test.YtjmfgpklemhomaaLReads
namespace Go.Proofs.Ytjmfgpklemhomaa
open Go.RowKit OctM

set_option maxHeartbeats 2000000 in
set_option maxRecDepth 100000 in
theorem reads_none (v0 : Value) (l : List UInt8) (o : Option Addr) (c : Nat) (w : World) (hrd : Rd w v0 l) (hl : l.length ≤ 140737488351232) :
    Calls Try.prog 4 #[v0, .slice o 0 c] w fun e w' => e = .returned (.bool true) ∧ Below w.heap.size w w' := by
  have HRD := Lib.hid hrd
  obtain ⟨o0, c0, rfl⟩ : ∃ o c, v0 = .slice o l.length c := by
    rcases hrd with ⟨rfl, rfl⟩ | ⟨_, c, rfl, _⟩ <;> exact ⟨_, _, rfl⟩
  clear hrd
  go_enter Try.func4, Try.ntmps4
  go_wp2_with fail
  refine (awake w).mono ?_
  rintro e w1 ⟨rfl, hb1⟩
  have HB1 := Lib.hid hb1
  have HN := Lib.hid (newReader (.slice o0 l.length c0) l w1 (HRD.out.below hb1) (by omega))
  clear hb1
  go_wp2_with fail
  refine HN.out.mono ?_
  rintro e w2 ⟨br, rfl, hrs, hb2, hbr⟩
  have hs1 := HB1.out.size
  have hs2 := hb2.size
  have BW := Lib.hid ((HB1.out.trans (hb2.mono hs1)).alloc (by omega) (.cells #[.slice o0 l.length c0, .int .i64 0] 49))
  clear hrs hb2 HN
  go_wp2_with fail
  go_loop [7] (fun i => i = .int .i64 0) (fun _ => 0)
  case atStart => rfl
  case round =>
    obtain rfl := hrel
    go_wp2
    go_ret
    exact ⟨rfl, BW.out⟩

theorem reads_walk (v0 : Value) (l : List UInt8) (v1 : Value) (ps : List Ask) (w : World) (hrd : Rd w v0 l) (hl : l.length ≤ 140737488351232) (h : RdA w v1 ps) :
    Calls Try.prog 4 #[v0, v1] w fun e w' => e = .returned (.bool true) ∧ Below w.heap.size w w' := by
  rcases h with ⟨o, c, rfl, rfl⟩ | ⟨b, off, c, rfl, h2, h3, h4, h5⟩
  · exact reads_none v0 l o c w hrd hl
  · exact reads_row v0 l b off c ps w hrd hl h2 h3 h4 h5
end Go.Proofs.Ytjmfgpklemhomaa
