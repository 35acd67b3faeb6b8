/- The reference's Same, of two that are. -/
import Derived.Test.YthmnhacgcdcbiaaCodX
import Derived.WalkSmall
namespace Go.Proofs.Ythmnhacgcdcbiaa
open Go.RowKit OctM CodM

set_option maxHeartbeats 4000000 in
set_option maxRecDepth 100000 in
theorem same_none (o o' : Option Addr) (c c' : Nat) (w : World) : Calls Try.prog 17 #[.slice o 0 c, .slice o' 0 c'] w fun e w' => e = .returned (.bool true) ∧ Below w.heap.size w w' := by
  go_enter Try.func17, Try.ntmps17
  go_wp2_with fail
  go_loop [5] (fun i => i = .int .i64 0) (fun _ => 0)
  case atStart => rfl
  case round =>
    obtain rfl := hrel
    go_wp2_with fail
    go_ret
    exact ⟨rfl, Below.refl _ _⟩

set_option maxHeartbeats 4000000 in
set_option maxRecDepth 100000 in
theorem same_row (fs : List Fun) (w : World) (b off c b' off' c' : Nat) (hl : 0 < fs.length) (hlc : fs.length ≤ c) (hcm : c ≤ maxLen) (hc : FunC w b off fs) (_hlc' : fs.length ≤ c') (_hcm' : c' ≤ maxLen) (hc' : FunC w b' off' fs) :
    Calls Try.prog 17 #[.slice (some ⟨b, off, none⟩) fs.length c, .slice (some ⟨b', off', none⟩) fs.length c'] w fun e w' => e = .returned (.bool true) ∧ Below w.heap.size w w' := by
  unfold maxLen at hcm
  have HC := Lib.hid hc
  have HC' := Lib.hid hc'
  clear hc hc'
  go_enter Try.func17, Try.ntmps17
  go_wp2_with fail
  go_loopw [5] (fun i wr => ∃ k nn : Nat, k ≤ fs.length ∧ i = .int .i64 k ∧ wr = w.drewN nn) (fun i _ => fs.length - (intOf i).toNat)
  case atStart => exact ⟨0, 0, by omega, rfl, rfl⟩
  case round =>
    obtain ⟨k, nn, hk, rfl, rfl⟩ := hrel
    have HBE := Lib.hid (below_drewN (Below.refl w.heap.size w) nn)
    by_cases hlt : k < fs.length
    · have hx : fs[k]? = some fs[k] := List.getElem?_eq_getElem hlt
      obtain ⟨x0, v, x1, hv⟩ := HC.out k _ hx
      obtain ⟨y0, v', y1, hv'⟩ := HC'.out k _ hx
      have hkI : (k : Int) < (fs.length : Int) := by omega
      generalize fs[k] = f at *
      obtain ⟨o, cc, rfl⟩ := hv.form
      obtain ⟨o', cc', rfl⟩ := hv'.form
      have x0' : (w.drewN nn).cell? ⟨b, off + k * 2, none⟩ = some (.int .i64 f.caps) := x0
      have x1' : (w.drewN nn).cell? ⟨b, off + k * 2 + 1, none⟩ = some (.slice o f.code.length cc) := x1
      have y0' : (w.drewN nn).cell? ⟨b', off' + k * 2, none⟩ = some (.int .i64 f.caps) := y0
      have y1' : (w.drewN nn).cell? ⟨b', off' + k * 2 + 1, none⟩ = some (.slice o' f.code.length cc') := y1
      have e1 : (f.caps != f.caps) = false := by simp
      have HV := Lib.hid hv
      have HV' := Lib.hid hv'
      obtain ⟨wi, hwi⟩ : ∃ wi, w.drewN nn = wi := ⟨_, rfl⟩
      rw [hwi] at x0' x1' y0' y1'
      rw [hwi]
      have HWI := Lib.hid hwi
      clear hx hv hv' hwi x0 x1 y0 y1
      go_wp2_with fail
      go_quiet (fail)
      go_wp2_with fail
      go_loopw [6] (fun i wr => ∃ j nj : Nat, j ≤ f.code.length ∧ i = .int .i64 j ∧ wr = wi.drewN nj) (fun i _ => f.code.length - (intOf i).toNat)
      case atStart => exact ⟨0, _, by omega, rfl, rfl⟩
      case round =>
        obtain ⟨j, nj, hj, rfl, hwr⟩ := hrel
        have z0 : wr.cell? ⟨b, off + k * 2, none⟩ = some (.int .i64 f.caps) := by rw [hwr]; exact x0'
        have z1 : wr.cell? ⟨b, off + k * 2 + 1, none⟩ = some (.slice o f.code.length cc) := by rw [hwr]; exact x1'
        have z2 : wr.cell? ⟨b', off' + k * 2, none⟩ = some (.int .i64 f.caps) := by rw [hwr]; exact y0'
        have z3 : wr.cell? ⟨b', off' + k * 2 + 1, none⟩ = some (.slice o' f.code.length cc') := by rw [hwr]; exact y1'
        have HWR := Lib.hid hwr
        by_cases hjl : j < f.code.length
        · have hjI : (j : Int) < (f.code.length : Int) := by omega
          have hcx : f.code[j]? = some f.code[j] := List.getElem?_eq_getElem hjl
          rcases HV.out with ⟨o1, c1, hv1, h0⟩ | ⟨b2, off2, c2, hv1, h1, h2, h3, h4⟩
          · rw [h0] at hjl
            simp at hjl
          rcases HV'.out with ⟨o1, c1, hv1', h0⟩ | ⟨b3, off3, c3, hv1', h1', h2', h3', h4'⟩
          · rw [h0] at hjl
            simp at hjl
          injection hv1 with e1 e2 e3
          subst e1 e3
          injection hv1' with e1 e2 e3
          subst e1 e3
          obtain ⟨p0, p1, p2, p3⟩ := h4 j _ hcx
          obtain ⟨q0, q1, q2, q3⟩ := h4' j _ hcx
          generalize f.code[j] = x at *
          obtain ⟨op, n, a, s⟩ := x
          simp only at p0 p1 p2 p3 q0 q1 q2 q3
          have p0' : wr.cell? ⟨b2, off2 + j * 4, none⟩ = some (.int .u8 (op : Int)) := by rw [hwr, ← HWI.out]; exact p0
          have p1' : wr.cell? ⟨b2, off2 + j * 4 + 1, none⟩ = some (.int .i64 n) := by rw [hwr, ← HWI.out]; exact p1
          have p2' : wr.cell? ⟨b2, off2 + j * 4 + 2, none⟩ = some (.int .i64 a) := by rw [hwr, ← HWI.out]; exact p2
          have p3' : wr.cell? ⟨b2, off2 + j * 4 + 3, none⟩ = some (.string s) := by rw [hwr, ← HWI.out]; exact p3
          have q0' : wr.cell? ⟨b3, off3 + j * 4, none⟩ = some (.int .u8 (op : Int)) := by rw [hwr, ← HWI.out]; exact q0
          have q1' : wr.cell? ⟨b3, off3 + j * 4 + 1, none⟩ = some (.int .i64 n) := by rw [hwr, ← HWI.out]; exact q1
          have q2' : wr.cell? ⟨b3, off3 + j * 4 + 2, none⟩ = some (.int .i64 a) := by rw [hwr, ← HWI.out]; exact q2
          have q3' : wr.cell? ⟨b3, off3 + j * 4 + 3, none⟩ = some (.string s) := by rw [hwr, ← HWI.out]; exact q3
          unfold maxLen at h3 h3'
          clear p0 p1 p2 p3 q0 q1 q2 q3 h4 h4' hcx HV HV' x0' x1' y0' y1' hwr e1
          go_wp2_with fail
          go_quiet (fail)
          go_wp2_with fail
          go_roundw
          case rel => exact ⟨j + 1, nj + _, by omega, by go_num, by rw [HWR.out]; exact World.drewN_drewN _ _ _⟩
          case measure => simp [intOf]; omega
        · have hjI : ¬ (j : Int) < (f.code.length : Int) := by omega
          go_wp2_with fail
          go_roundw
          case rel => exact ⟨k + 1, nn + nj, by omega, by go_num, by rw [← HWI.out]; exact World.drewN_drewN _ _ _⟩
          case measure => simp [intOf]; omega
    · obtain rfl : k = fs.length := by omega
      go_wp2_with fail
      go_ret
      exact ⟨rfl, HBE.out⟩

theorem same_yes (fs : List Fun) (u v : Value) (w : World) (hu : RdF w u fs) (hv : RdF w v fs) : Calls Try.prog 17 #[u, v] w fun e w' => e = .returned (.bool true) ∧ Below w.heap.size w w' := by
  rcases hu with ⟨o, c, rfl, h0⟩ | ⟨b, off, c, rfl, h1, h2, h3, h4⟩
  · subst h0
    rcases hv with ⟨o', c', rfl, _⟩ | ⟨b', off', c', rfl, h1', h2', h3', h4'⟩
    · exact same_none o o' c c' w
    · simp at h1'
  · rcases hv with ⟨o', c', rfl, h0⟩ | ⟨b', off', c', rfl, h1', h2', h3', h4'⟩
    · subst h0
      simp at h1
    · exact same_row fs w b off c b' off' c' h1 h2 h3 h4 h2' h3' h4'
end Go.Proofs.Ythmnhacgcdcbiaa
