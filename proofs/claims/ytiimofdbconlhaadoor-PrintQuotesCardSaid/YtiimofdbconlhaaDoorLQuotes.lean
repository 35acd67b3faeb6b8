/- Any text in quotes, and back: the walk. -/
import Derived.Test.YtiimofdbconlhaaDoorPriRf
import Derived.Test.YtiimofdbconlhaaDoorPriQb
namespace Go.Proofs.YtiimofdbconlhaaDoor
open Go.RowKit PriM

set_option maxRecDepth 100000 in
set_option maxHeartbeats 4000000 in
theorem quotes_walk (s : ByteArray) (w : World) (ht : Tab w) (_hr : s.size ≤ 140737488351232) :
    Calls Tryd.prog 5 #[.string s] w fun e w' => e = .returned (.bool true) ∧ Below w.heap.size w w' := by
  have HTB := Lib.hid (tabN_of ht)
  have HA := Lib.hid (fun W (hb : Below w.heap.size w W) => awake W (HTB.out W hb))
  have B0 := Lib.hid (Below.refl w.heap.size w)
  clear ht HTB
  by_cases h9 : 900 < s.size
  · have t1 : decide (900 < s.size) = true := by simpa using h9
    clear _hr
    go_enter Tryd.func5, Tryd.ntmps5
    go_wp2_with fail
    go_at_call 9
    refine (HA.out w B0.out).mono ?_
    rintro e w1 ⟨rfl, hb⟩
    have B1 := Lib.hid hb
    clear hb
    go_wp2_with fail
    go_at_call 9
    refine (HA.out w1 B1.out).mono ?_
    rintro e w2 ⟨rfl, hb⟩
    have B2 := Lib.hid (B1.out.trans (hb.mono B1.out.size))
    clear hb
    go_wp2_with fail
    go_ret
    exact ⟨rfl, B2.out⟩
  · have h9' : s.size ≤ 900 := by omega
    have t1 : decide (900 < s.size) = false := by simpa using h9
    have hql : (⟨(qt s.data.toList).toArray⟩ : ByteArray).size ≤ 2000 := by
      rw [size_mk, qt_len]
      have h1 := (fl_len s.data.toList).2
      have h2 : s.data.toList.length = s.size := by simp
      omega
    have eT : (⟨s.data.toList.toArray⟩ : ByteArray) = s := by simp
    have HQ := Lib.hid (fun W => quote_any s W (by omega))
    have HR := Lib.hid (fun W => rquote_any s W (by omega))
    have HC := Lib.hid (fun W => (r4Cell_any ⟨(qt s.data.toList).toArray⟩ s.data.toList W (by simp) hql))
    rw [eT] at HC
    clear hql eT _hr h9
    generalize qt s.data.toList = X at *
    go_enter Tryd.func5, Tryd.ntmps5
    go_wp2_with fail
    go_at_call 9
    refine (HA.out w B0.out).mono ?_
    rintro e w1 ⟨rfl, hb⟩
    have B1 := Lib.hid hb
    clear hb
    go_wp2_with fail
    go_at_call 14
    refine (HQ.out w1).mono ?_
    rintro e w2 ⟨rfl, hb⟩
    have B2 := Lib.hid (B1.out.trans (hb.mono B1.out.size))
    clear hb
    go_wp2_with fail
    go_at_call 12
    refine (HC.out w2).mono ?_
    rintro e w3 ⟨g, cap, rfl, hc1, hcm, k3, k4, hb⟩
    have B3 := Lib.hid (B2.out.trans (hb.mono B2.out.size))
    have K3 := Lib.hid k3
    have K4 := Lib.hid k4
    have hlt := World.block_lt_of_cell? w3 _ k3
    have HL := Lib.hid hlt
    clear hb k3 k4 hlt
    go_wp2_with fail
    go_at_call 15
    refine (HR.out w3).mono ?_
    rintro e w4 ⟨rfl, hb⟩
    have B4 := Lib.hid (B3.out.trans (hb.mono B3.out.size))
    have k3 := (hb.cell HL.out).trans K3.out
    have k4 := (hb.cell HL.out).trans K4.out
    clear hb
    go_wp2_with fail
    go_ret
    exact ⟨rfl, B4.out⟩
end Go.Proofs.YtiimofdbconlhaaDoor
