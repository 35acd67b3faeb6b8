/- One function's walk: isValid. -/
import Derived.Test.YtpmbdncackneoaaDoorCodN
namespace CodM
open Classical in
theorem ok1_true {fs : List Fun} {globs : Int} {f : Fun} (h : ∃ F, Closed fs globs f F) : ok1 fs globs f = true := by unfold ok1; exact decide_eq_true h
open Classical in
theorem ok1_false {fs : List Fun} {globs : Int} {f : Fun} (h : ¬ ∃ F, Closed fs globs f F) : ok1 fs globs f = false := by unfold ok1; exact decide_eq_false h
end CodM
namespace Go.Proofs.YtpmbdncackneoaaDoor.Oc
open Go.RowKit OctM CodM

def OkPost (fs : List Fun) (globs : Int) (f : Fun) (w0 : World) (e : Ending) (w' : World) : Prop := e = .returned (.bool (ok1 fs globs f)) ∧ Below w0.heap.size w0 w'
theorem okPost {fs : List Fun} {globs : Int} {f : Fun} {w0 w' : World} {b : Bool} (hb : ok1 fs globs f = b) (h : Below w0.heap.size w0 w') : OkPost fs globs f w0 (.returned (.bool b)) w' := by
  subst hb; exact ⟨rfl, h⟩

theorem bend {q : Nat} {w0 w w' : World} (h : Below w0.heap.size w0 w) (hq : w0.heap.size ≤ q) (hk : Kept (fun k => k = q) w w') : Below w0.heap.size w0 w' :=
  h.trans (hk.below h.size (by rintro k rfl; exact hq))

set_option maxHeartbeats 1000000 in
set_option maxRecDepth 100000 in
theorem isValid_none (fs : List Fun) (globs : Int) (f : Fun) (p q : Nat) (w0 w : World) (va vc : Value) (h : WkC w p va globs f.caps vc q f.code.length) (hq : AtS w q (List.replicate f.code.length (0, 0))) (hvc : RdI w0 vc f.code) (hb0 : Below w0.heap.size w0 w) (hq0 : w0.heap.size ≤ q) (hpq : p ≠ q) (h0 : f.code.length = 0) :
    Calls Tryd.prog 26 #[.pointer (some ⟨p, 0, none⟩)] w (OkPost fs globs f w0) := by
  have hr := reach_any p q (List.replicate f.code.length (0, 0)) globs f.caps 1 0 0 w va vc (by simpa using h) hq (by simpa using hvc.form) hpq (by omega)
  rw [show rch (List.replicate f.code.length ((0 : Int), (0 : Int))) (0 : Int).toNat (1, 0) = (false, List.replicate f.code.length (0, 0)) by rw [h0]; rfl] at hr
  have HR := Lib.hid hr
  have HO := Lib.hid (ok1_false (fs := fs) (globs := globs) (f := f) (by rintro ⟨F, hF⟩; have := hF.lt 0 _ hF.zero; omega))
  have HB := Lib.hid hb0
  clear hr h hq hvc h0 hb0
  go_enter Tryd.func26, Tryd.ntmps26
  go_wp2_with fail
  refine HR.out.mono ?_
  rintro e w1 ⟨rfl, -, hk⟩
  have HK := Lib.hid (bend HB.out hq0 hk)
  clear hk
  go_wp2_with fail
  go_ret
  exact okPost HO.out HK.out

set_option maxHeartbeats 4000000 in
set_option maxRecDepth 100000 in
theorem isValid_row (fs : List Fun) (globs : Int) (f : Fun) (p q : Nat) (w0 w : World) (va : Value) (b off c : Nat) (h : WkC w p va globs f.caps (.slice (some ⟨b, off, none⟩) f.code.length c) q f.code.length) (hq : AtS w q (List.replicate f.code.length (0, 0))) (hf : RdF w0 va fs) (hl : 0 < f.code.length) (hlc : f.code.length ≤ c) (hcm : c ≤ maxLen) (hc : InsC w0 b off f.code) (hb0 : Below w0.heap.size w0 w) (hq0 : w0.heap.size ≤ q) (hpq : p ≠ q) (hn : f.code.length ≤ 100000) :
    Calls Tryd.prog 26 #[.pointer (some ⟨p, 0, none⟩)] w (OkPost fs globs f w0) := by
  unfold maxLen at hcm
  have hr := reach_any p q (List.replicate f.code.length (0, 0)) globs f.caps 1 0 0 w va _ (by simpa using h) hq ⟨some ⟨b, off, none⟩, c, by simp⟩ hpq (by omega)
  rw [show rch (List.replicate f.code.length ((0 : Int), (0 : Int))) (0 : Int).toNat (1, 0) = (true, (List.replicate f.code.length (0, 0)).set 0 (1, 0)) by
    unfold rch
    rw [show ((0 : Int).toNat) = 0 from rfl, List.getElem?_replicate, if_pos hl]
    rfl] at hr
  have HR := Lib.hid hr
  have HB := Lib.hid hb0
  have HW := Lib.hid h
  have HF := Lib.hid hf
  have HC := Lib.hid hc
  have HP := Lib.hid (pass_start (fs := fs) (globs := globs) (f := f) hl)
  clear hr h hq hf hc hb0
  go_enter Tryd.func26, Tryd.ntmps26
  go_wp2_with fail
  refine HR.out.mono ?_
  rintro e w1 ⟨rfl, ha, hk⟩
  have hW1 := HW.out.kept (hk.block p HW.out.lt hpq)
  have c3 := hW1.c3
  have HA1 := Lib.hid ha
  have HB1 := Lib.hid (bend HB.out hq0 hk)
  have HW1 := Lib.hid hW1
  clear ha hk hW1 HB HW HR
  go_wp2_with fail
  go_loopw [15] (fun i wr => ∃ (k : Nat) (A : List (Int × Int)), k ≤ f.code.length ∧ i = .int .i64 k ∧ Hid (Pass fs globs f A k) ∧ Hid (AtS wr q A) ∧ Hid (WkC wr p va globs f.caps (.slice (some ⟨b, off, none⟩) f.code.length c) q f.code.length) ∧ Hid (Below w0.heap.size w0 wr)) (fun i _ => f.code.length - (intOf i).toNat)
  case atStart => exact ⟨0, _, by omega, rfl, HP, HA1, HW1, HB1⟩
  case round =>
    obtain ⟨k, A, hk, rfl, HP, HA, HW, HB⟩ := hrel
    by_cases hlt : k < f.code.length
    · have hx : f.code[k]? = some f.code[k] := List.getElem?_eq_getElem hlt
      have hAl := HP.out.len
      have hkA : A[k]? = some (A[k]'(by omega)) := List.getElem?_eq_getElem (by omega)
      obtain ⟨x0, x1, x2, x3⟩ := (HC.out.below HB.out (Nat.le_refl _)) k _ hx
      obtain ⟨a0, a1⟩ := HA.out.get hkA
      have c4 := HW.out.c4
      have hz := HB.out.size
      have hbw := World.block_lt_of_cell? wr _ x0
      have hqw := HA.out.lt
      have hpw := HW.out.lt
      simp only at hbw
      generalize f.code[k] = x at *
      generalize A[k]'(by omega) = s at *
      obtain ⟨d, t⟩ := s
      obtain ⟨op, n, a, s⟩ := x
      simp only at x0 x1 x2 x3 a0 a1
      have HX := Lib.hid hx
      have HKA := Lib.hid hkA
      have HAL := Lib.hid hAl
      clear hx hkA hAl
      have hbd := HP.out.bd k d t HKA.out
      have hb2 : Below wr.heap.size wr ((wr.alloc (.cells #[.int .u8 (op : Int), .int .i64 n, .int .i64 a, .string s] 28)).alloc (.cells #[.int .i64 d, .int .i64 t] 103)) := ((Below.refl _ _).alloc (Nat.le_refl _) _).alloc (by simp) _
      have hW2 := HW.out.kept (hb2.block p hpw)
      have hA2 : AtS ((wr.alloc (.cells #[.int .u8 (op : Int), .int .i64 n, .int .i64 a, .string s] 28)).alloc (.cells #[.int .i64 d, .int .i64 t] 103)) q A := (hb2.block q hqw).trans HA.out
      have hB2 := HB.out.trans (hb2.mono hz)
      by_cases hd : d = 0
      · subst hd
        have HS := Lib.hid (HP.out.skip HKA.out)
        have HA2 := Lib.hid hA2
        have HW2 := Lib.hid hW2
        have HB2 := Lib.hid hB2
        clear hA2 hW2 hB2 hb2
        go_wp2_with fail
        exact ⟨⟨k + 1, A, by omega, by go_num, HS, HA2, HW2, HB2⟩, by simp [intOf]; omega⟩
      · have hd0 : 0 < d := by omega
        have hd1 : decide (0 < d) = true := by simpa using hd0
        have hal := isAllowed fs p q f.code.length f.caps globs d t op n a s _ va _ hW2 (HF.out.below hB2 (Nat.le_refl _))
        unfold AlPost at hal
        rcases hv : alw fs f.caps globs ⟨op, n, a, s⟩ d t with _ | _
        · have HO := Lib.hid (ok1_false (HP.out.bad HKA.out hd HX.out hv))
          rw [hv] at hal
          have HL := Lib.hid hal
          have HB2 := Lib.hid hB2
          clear hal hA2 hW2 hB2 hb2 hv
          go_wp2_with fail
          refine HL.out.mono ?_
          rintro e w2 ⟨rfl, hb3⟩
          have HB3 := Lib.hid (HB2.out.trans (hb3.mono HB2.out.size))
          clear hb3
          go_wp2_with fail
          go_ret
          exact okPost HO.out HB3.out
        · rw [hv] at hal
          have HL := Lib.hid hal
          have HB2 := Lib.hid hB2
          have HA2 := Lib.hid hA2
          have HW2 := Lib.hid hW2
          have HV := Lib.hid hv
          clear hal hA2 hW2 hB2 hb2 hv
          go_wp2_with fail
          refine HL.out.mono ?_
          rintro e w2 ⟨rfl, hb3⟩
          obtain ⟨k1, k2⟩ := box2 hb3
          have HB3 := Lib.hid (HB2.out.trans (hb3.mono HB2.out.size))
          have hA3 : AtS w2 q A := (hb3.block q HA2.out.lt).trans HA2.out
          have hW3 := HW2.out.kept (hb3.block p HW2.out.lt)
          have q0 : w2.cell? ⟨wr.heap.size, 0, none⟩ = some (.int .u8 (op : Int)) := cellk k1 rfl
          have q1 : w2.cell? ⟨wr.heap.size, 1, none⟩ = some (.int .i64 n) := cellk k1 rfl
          have q2 : w2.cell? ⟨wr.heap.size, 2, none⟩ = some (.int .i64 a) := cellk k1 rfl
          have q3 : w2.cell? ⟨wr.heap.size, 3, none⟩ = some (.string s) := cellk k1 rfl
          have r0 : w2.cell? ⟨wr.heap.size + 1, 0, none⟩ = some (.int .i64 d) := cellk k2 rfl
          have r1 : w2.cell? ⟨wr.heap.size + 1, 1, none⟩ = some (.int .i64 t) := cellk k2 rfl
          have hgo := goOn_any p q A fs globs f.caps d t k op n a s w2 va _ (by rw [HAL.out]; exact hW3) hA3 ⟨_, _, by rw [HAL.out]⟩ hpq (by omega) HV.out (by omega) (by omega) (by omega) (by omega)
          rcases hg : goes k (succ ⟨op, n, a, s⟩ k d t) A with ⟨r, A'⟩
          rw [hg] at hgo
          have HG := Lib.hid hgo
          have HGE := Lib.hid hg
          have HW3 := Lib.hid hW3
          clear hgo hg hA3 hW3 hb3 k1 k2 x0 x1 x2 x3 a0 a1
          rcases r with _ | _
          · have HO := Lib.hid (ok1_false (HP.out.no HKA.out hd HX.out HGE.out))
            go_wp2_with fail
            refine HG.out.mono ?_
            rintro e w3 ⟨rfl, -, hk4⟩
            have HB4 := Lib.hid (bend HB3.out hq0 hk4)
            clear hk4
            go_wp2_with fail
            go_ret
            exact okPost HO.out HB4.out
          · have HS := Lib.hid (HP.out.step hn HKA.out hd HX.out HV.out HGE.out)
            go_wp2_with fail
            refine HG.out.mono ?_
            rintro e w3 ⟨rfl, ha4, hk4⟩
            have HB4 := Lib.hid (bend HB3.out hq0 hk4)
            have HA4 := Lib.hid ha4
            have HW4 := Lib.hid (HW3.out.kept (hk4.block p HW3.out.lt hpq))
            clear hk4 ha4
            go_wp2_with fail
            exact ⟨⟨k + 1, A', by omega, by go_num, HS, HA4, HW4, HB4⟩, by simp [intOf]; omega⟩
    · obtain rfl : k = f.code.length := by omega
      have HO := Lib.hid (ok1_true (HP.out.end_ hn))
      go_wp2_with fail
      go_ret
      exact okPost HO.out HB.out
end Go.Proofs.YtpmbdncackneoaaDoor.Oc
