/- The reference's path of any moves; the law of paths where it is short: too many moves, a fault. -/
import Derived.Test.YtjmfgpklemhomabTurK
import Derived.Test.YtjmfgpklemhomabTurJ
import Derived.Test.YtjmfgpklemhomabLErrs
namespace Go.Proofs.Ytjmfgpklemhomab
open Go.RowKit TurF TurP

set_option maxHeartbeats 2000000 in
set_option maxRecDepth 100000 in
theorem ref_none (o : Option Addr) (c : Nat) (w : World) :
    Calls Try.prog 14 #[.slice o 0 c] w (RPost w []) := by
  have hown : OwnA ((w.alloc (.cells #[.int .i64 0, .int .i64 1] 37)).alloc (.cells #[.int .i64 0, .int .i64 0] 37)) (w.heap.size + 1) (.slice (some ⟨w.heap.size + 1, 0, none⟩) 1 1) s0.path := by
    have := OwnA.one (w.alloc (.cells #[.int .i64 0, .int .i64 1] 37)) (0, 0) (w.heap.size + 1) (by simp)
    have e : (w.alloc (.cells #[.int .i64 0, .int .i64 1] 37)).heap.size = w.heap.size + 1 := by simp
    rw [e] at this
    exact this
  have fin : RPost w [] (.returned (.tuple #[.slice (some ⟨w.heap.size + 1, 0, none⟩) 1 1, .agg #[.int .i64 0, .int .i64 1], .int .i64 0])) ((((w.alloc (.cells #[.int .i64 0, .int .i64 1] 37)).alloc (.cells #[.int .i64 0, .int .i64 0] 37)).alloc (.cells #[.int .i64 0, .int .i64 1, .int .i64 (-1), .int .i64 0, .int .i64 0, .int .i64 (-1), .int .i64 1, .int .i64 0] 37))).drew := by
    refine .inr ⟨rfl, _, rfl, ?_, ?_⟩
    · exact World.ownsRow.alloc hown _
    · exact ((((Below.refl _ w).alloc (Nat.le_refl _) _).alloc (by simp) _).alloc (by simp; omega) _).drew
  have FIN := Lib.hid fin
  clear fin hown
  go_enter Try.func14, Try.ntmps14
  go_wp2
  go_loop [5, 6, 7, 8, 9] (fun x y d v i => i = .int .i64 0 ∧ x = .int .i64 0 ∧ y = .int .i64 0 ∧ d = .int .i64 0 ∧ v = .slice (some ⟨w.heap.size + 1, 0, none⟩) 1 1) (fun _ _ _ _ _ => 0)
  case atStart => exact ⟨rfl, rfl, rfl, rfl, rfl⟩
  case round =>
    obtain ⟨rfl, rfl, rfl, rfl, rfl⟩ := hrel
    go_wp2
    go_region
    go_wp2
    exact bodyPost_ret (v := .tuple #[.slice (some ⟨w.heap.size + 1, 0, none⟩) 1 1, .agg #[.int .i64 0, .int .i64 1], .int .i64 0]) (by simp [results, Try.results14, go_sem]) rfl FIN.out

theorem ref_any (v : Value) (l : List Mv) (w : World) (h : RdM w v l) : Calls Try.prog 14 #[v] w (RPost w l) := by
  by_cases hlong : 1000 < l.length
  · refine (ref_long v l w h hlong).mono fun e w' ⟨h1, h2⟩ => .inl ⟨by rw [err_long hlong]; omega, h1, h2⟩
  · rcases h with ⟨o, c, _, rfl, rfl⟩ | ⟨b, off, c, rfl, h2, h3, h4, h5⟩
    · exact ref_none o c w
    · exact ref_row b off c l w h2 h3 h4 h5 hlong

theorem RdM.form {w : World} {v : Value} {l : List Mv} (h : RdM w v l) : ∃ o c, v = .slice o l.length c := by
  rcases h with ⟨o, c, _, rfl, rfl⟩ | ⟨b, off, c, rfl, _⟩
  · exact ⟨_, _, rfl⟩
  · exact ⟨_, _, rfl⟩

set_option maxRecDepth 100000 in
theorem paths_far (v : Value) (l : List Mv) (w : World) (h : RdM w v l) (hl : 2000 < l.length) :
    Calls Try.prog 3 #[v] w fun e w' => e = .returned (.bool true) ∧ Below w.heap.size w w' := by
  obtain ⟨o, c, rfl⟩ := h.form
  have hd : decide (2000 < (l.length : Int)) = true := by simp; omega
  go_enter Try.func3, Try.ntmps3
  go_wp2_with fail
  refine (awake w).mono ?_
  rintro e w1 ⟨rfl, hb1⟩
  have HB1 := Lib.hid hb1
  clear hb1
  go_wp2_with fail
  refine (awake w1).mono ?_
  rintro e w2 ⟨rfl, hb2⟩
  have HB2 := Lib.hid (HB1.out.trans (hb2.mono HB1.out.size))
  clear hb2
  go_wp2_with fail
  go_ret
  exact ⟨rfl, HB2.out⟩

set_option maxHeartbeats 2000000 in
set_option maxRecDepth 100000 in
theorem paths_bad (v : Value) (l : List Mv) (w : World) (h : RdM w v l) (hl : ¬ 2000 < l.length) (he : err l = 1 ∨ err l = 2) :
    Calls Try.prog 3 #[v] w fun e w' => e = .returned (.bool true) ∧ Below w.heap.size w w' := by
  obtain ⟨o, c, rfl⟩ := h.form
  have hd : decide (2000 < (l.length : Int)) = false := by simp; omega
  have HR0 := Lib.hid h
  have HEE := Lib.hid he
  have hne : ((err l : Int) == 0) = false := by rcases he with he | he <;> rw [he] <;> rfl
  have hne2 : ((err l : Int) != 0) = true := by rcases he with he | he <;> rw [he] <;> rfl
  have eq := eqPlace
  have HE0 : Hid (err l ≠ 0) := by show err l ≠ 0; rcases he with he | he <;> rw [he] <;> omega
  clear h he
  go_enter Try.func3, Try.ntmps3
  go_wp2_with fail
  refine (awake w).mono ?_
  rintro e w1 ⟨rfl, hb1⟩
  have HR1 := Lib.hid (HR0.out.below hb1 (Nat.le_refl _))
  have B1 := Lib.hid hb1
  clear hb1 HR0
  go_wp2_with fail
  refine (path_bad _ l w1 HR1.out HEE.out).mono ?_
  rintro e w2 ⟨h2, hb2⟩
  unfold PBad at h2
  subst h2
  have HR2 := Lib.hid (HR1.out.below hb2 (Nat.le_refl _))
  have B2 := Lib.hid (B1.out.trans (hb2.mono B1.out.size))
  clear hb2 HR1 B1
  go_wp2_with fail
  refine (look_bad _ l w2 HR2.out HEE.out).mono ?_
  rintro e w3 ⟨h3, hb3⟩
  unfold LBad at h3
  subst h3
  have hb3a := hb3.alloc hb3.size (.cells #[.int .i64 0, .int .i64 0] 29)
  have HR3 := Lib.hid (HR2.out.below hb3a (Nat.le_refl _))
  have B3 := Lib.hid (B2.out.trans (hb3a.mono B2.out.size))
  have K3 := Lib.hid (heap_alloc_new w3 (.cells #[.int .i64 0, .int .i64 0] 29))
  clear hb3 hb3a HR2 B2
  go_wp2_with fail
  refine (box_bad _ l _ HR3.out HEE.out).mono ?_
  rintro e w4 ⟨h4, hb4⟩
  unfold BBad at h4
  subst h4
  have s4 := hb4.size
  simp at s4
  have hb4a := (hb4.alloc hb4.size (.cells #[.int .i64 0, .int .i64 0] 29)).alloc (by simp; omega) (.cells #[.int .i64 0, .int .i64 0] 29)
  have HR4 := Lib.hid (HR3.out.below hb4a (Nat.le_refl _))
  have B4 := Lib.hid (B3.out.trans (hb4a.mono B3.out.size))
  have K4 := Lib.hid ((hb4a.block w3.heap.size (by simp)).trans K3.out)
  have K5 : Hid (((w4.alloc (.cells #[.int .i64 0, .int .i64 0] 29)).alloc (.cells #[.int .i64 0, .int .i64 0] 29)).heap[w4.heap.size]? = some (.cells #[.int .i64 0, .int .i64 0] 29 (0, 0))) := (Below.heap_alloc _ _ _ (by simp)).trans (heap_alloc_new w4 _)
  have k6 : ((w4.alloc (.cells #[.int .i64 0, .int .i64 0] 29)).alloc (.cells #[.int .i64 0, .int .i64 0] 29)).heap[w4.heap.size + 1]? = some (.cells #[.int .i64 0, .int .i64 0] 29 (0, 0)) := by
    have := heap_alloc_new (w4.alloc (.cells #[.int .i64 0, .int .i64 0] 29)) (.cells #[.int .i64 0, .int .i64 0] 29)
    simpa using this
  have K6 := Lib.hid k6
  clear hb4 hb4a HR3 B3 K3 k6
  go_wp2_with fail
  refine (area_bad _ l _ HR4.out HEE.out).mono ?_
  rintro e w5 ⟨h5, hb5⟩
  unfold ABad at h5
  subst h5
  have s5 := hb5.size
  simp at s5
  have HR5 := Lib.hid (HR4.out.below hb5 (Nat.le_refl _))
  have B5 := Lib.hid (B4.out.trans (hb5.mono B4.out.size))
  have J1 := Lib.hid ((hb5.block w3.heap.size (by simp; omega)).trans K4.out)
  have J2 := Lib.hid ((hb5.block w4.heap.size (by simp; omega)).trans K5.out)
  have J3 := Lib.hid ((hb5.block (w4.heap.size + 1) (by simp)).trans K6.out)
  clear hb5 HR4 B4 K4 K5 K6
  go_wp2_with fail
  refine (ref_any _ l _ HR5.out).mono ?_
  rintro e w6 (⟨_, h6, hb6⟩ | ⟨h6, _⟩)
  rotate_left
  · exact absurd h6 HE0.out
  unfold RBad at h6
  subst h6
  have hb6a := hb6.alloc hb6.size (.cells #[.int .i64 0, .int .i64 0] 37)
  have HR6 := Lib.hid (HR5.out.below hb6a (Nat.le_refl _))
  have B6 := Lib.hid (B5.out.trans (hb6a.mono B5.out.size))
  have s6 := hb6a.size
  simp at s6
  have I1 := Lib.hid ((hb6a.block w3.heap.size (by omega)).trans J1.out)
  have I2 := Lib.hid ((hb6a.block w4.heap.size (by omega)).trans J2.out)
  have I3 := Lib.hid ((hb6a.block (w4.heap.size + 1) (by omega)).trans J3.out)
  have CB := Lib.hid (closed_bad _ l _ HR6.out HEE.out)
  clear hb6 hb6a HR5 B5 J1 J2 J3
  generalize hE : err l = E at *
  have HE := Lib.hid hE
  clear hE
  go_wp2_with fail
  refine CB.out.mono ?_
  rintro e w7 ⟨rfl, hb7⟩
  have s7 := hb7.size
  simp at s7
  obtain ⟨a1, a2, _, _⟩ := cells_two ((hb7.block w3.heap.size (by simp; omega)).trans I1.out)
  obtain ⟨b1, b2, _, _⟩ := cells_two ((hb7.block w4.heap.size (by simp; omega)).trans I2.out)
  obtain ⟨d1, d2, _, _⟩ := cells_two ((hb7.block (w4.heap.size + 1) (by simp; omega)).trans I3.out)
  have B7 := Lib.hid (B6.out.trans (hb7.mono B6.out.size))
  clear hb7 B6
  go_wp2_with fail
  go_ret
  exact ⟨rfl, B7.out⟩
end Go.Proofs.Ytjmfgpklemhomab
