/- The reference's Check. -/
import Derived.Test.YtoplheipfbnobaaCodT
namespace Go.Proofs.Ytoplheipfbnobaa
open Go.RowKit OctM CodM

open Classical in
theorem val_iff (fs : List Fun) (globs : Int) (f : Fun) : val fs globs f = true ↔ Valid fs globs f := by unfold val; rw [decide_eq_true_eq]

theorem right_any (fs : List Fun) (globs : Int) (f : Fun) (w : World) (va vc : Value) (hf : RdF w va fs) (hc : RdI w vc f.code) (hn : f.code.length ≤ 100000) :
    Calls Try.prog 21 #[.agg #[.int .i64 f.caps, vc], va, .int .i64 globs] w (RiPost fs globs f w) := by
  by_cases h : f.caps < 0
  · obtain ⟨o, c, rfl⟩ := hc.form
    exact right_neg fs globs f w va o _ c h
  · rcases hc with ⟨o, c, rfl, h0⟩ | ⟨b, off, c, rfl, h1, h2, h3, h4⟩
    · exact right_none fs globs f w va o c h (by rw [h0]; rfl)
    · exact right_row fs globs f w va b off c h h1 h2 h3 h4 hf hn

set_option maxHeartbeats 1000000 in
set_option maxRecDepth 100000 in
theorem rcheck_none (o : Option Addr) (c : Nat) (globs : Int) (w : World) :
    Calls Try.prog 9 #[.slice o 0 c, .int .i64 globs] w (CkPost [] globs w) := by
  have HO := Lib.hid (chk_true (fs := []) (globs := globs) (by simp))
  go_enter Try.func9, Try.ntmps9
  go_wp2_with fail
  go_loop [5] (fun i => i = .int .i64 0) (fun _ => 0)
  case atStart => rfl
  case round =>
    obtain rfl := hrel
    go_wp2_with fail
    go_ret
    exact ckPost HO.out (Below.refl _ _)

set_option maxHeartbeats 4000000 in
set_option maxRecDepth 100000 in
theorem rcheck_row (fs : List Fun) (globs : Int) (w : World) (b off c : Nat) (hl : 0 < fs.length) (hlc : fs.length ≤ c) (hcm : c ≤ maxLen) (hc : FunC w b off fs) (hn : ∀ f ∈ fs, f.code.length ≤ 100000) :
    Calls Try.prog 9 #[.slice (some ⟨b, off, none⟩) fs.length c, .int .i64 globs] w (CkPost fs globs w) := by
  have HR := Lib.hid (show RdF w (.slice (some ⟨b, off, none⟩) fs.length c) fs from .inr ⟨b, off, c, rfl, hl, hlc, hcm, hc⟩)
  unfold maxLen at hcm
  have HC := Lib.hid hc
  have HN := Lib.hid hn
  clear hc hn
  go_enter Try.func9, Try.ntmps9
  go_wp2_with fail
  go_loopw [5] (fun i wr => ∃ k : Nat, k ≤ fs.length ∧ i = .int .i64 k ∧ Hid (∀ f ∈ fs.take k, Valid fs globs f) ∧ Below w.heap.size w wr) (fun i _ => fs.length - (intOf i).toNat)
  case atStart => exact ⟨0, by omega, rfl, by intro f hf; simp at hf, Below.refl _ _⟩
  case round =>
    obtain ⟨k, hk, rfl, HV, hb⟩ := hrel
    have HB := Lib.hid hb
    have hz := hb.size
    by_cases hlt : k < fs.length
    · have hx : fs[k]? = some fs[k] := List.getElem?_eq_getElem hlt
      obtain ⟨x0, v, x1, hv⟩ := (FunC.below HC.out hb (Nat.le_refl _)) k _ hx
      have hkl := HN.out fs[k] (List.getElem_mem hlt)
      have HT := Lib.hid (List.take_succ_eq_append_getElem hlt)
      have HM := Lib.hid (List.getElem_mem hlt)
      have hkI : (k : Int) < (fs.length : Int) := by omega
      generalize fs[k] = f at *
      have hbw := World.block_lt_of_cell? wr _ x0
      simp only at hbw
      have hr := right_any fs globs f wr (.slice (some ⟨b, off, none⟩) fs.length c) v (HR.out.below hb (Nat.le_refl _)) hv hkl
      obtain ⟨o, cc, rfl⟩ := hv.form
      unfold RiPost at hr
      rcases hv2 : val fs globs f with _ | _
      · rw [hv2] at hr
        have HO := Lib.hid (chk_false (globs := globs) HM.out (fun h => by rw [(val_iff fs globs f).2 h] at hv2; cases hv2))
        have HRR := Lib.hid hr
        clear hb hx hv hr hv2
        go_wp2_with fail
        refine HRR.out.mono ?_
        rintro e w2 ⟨rfl, hb4⟩
        have HB4 := Lib.hid (HB.out.trans (hb4.mono hz))
        clear hb4
        go_wp2_with fail
        go_ret
        exact ckPost HO.out HB4.out
      · rw [hv2] at hr
        have HO : Hid (∀ g ∈ fs.take (k + 1), Valid fs globs g) := by
          intro g hg
          rw [HT.out, List.mem_append, List.mem_singleton] at hg
          rcases hg with hg | rfl
          · exact HV.out g hg
          · exact (val_iff fs globs g).1 hv2
        have HRR := Lib.hid hr
        clear hb hx hv hr hv2
        go_wp2_with fail
        refine HRR.out.mono ?_
        rintro e w2 ⟨rfl, hb4⟩
        have hb5 := HB.out.trans (hb4.mono hz)
        clear hb4
        go_wp2_with fail
        exact ⟨⟨k + 1, by omega, by go_num, HO, hb5⟩, by simp [intOf]; omega⟩
    · obtain rfl : k = fs.length := by omega
      have HO := Lib.hid (chk_true (fs := fs) (globs := globs) (by have := HV.out; rwa [List.take_of_length_le (Nat.le_refl _)] at this))
      go_wp2_with fail
      go_ret
      exact ckPost HO.out HB.out

theorem rcheck_any (fs : List Fun) (globs : Int) (w : World) (v : Value) (h : RdF w v fs) (hn : ∀ f ∈ fs, f.code.length ≤ 100000) :
    Calls Try.prog 9 #[v, .int .i64 globs] w (CkPost fs globs w) := by
  rcases h with ⟨o, c, rfl, rfl⟩ | ⟨b, off, c, rfl, h1, h2, h3, h4⟩
  · exact rcheck_none o c globs w
  · exact rcheck_row fs globs w b off c h1 h2 h3 h4 hn
end Go.Proofs.Ytoplheipfbnobaa
