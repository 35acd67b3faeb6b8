/- Check: may functions run? -/
import Derived.Test.YtpmbdncackneoaaDoorCodE
import Derived.Laws.MakeOwn
namespace CodM
open Classical in
theorem chk_true {fs : List Fun} {globs : Int} (h : ∀ f ∈ fs, Valid fs globs f) : chk fs globs = true := by unfold chk; exact decide_eq_true h
open Classical in
theorem chk_false {fs : List Fun} {globs : Int} {f : Fun} (hf : f ∈ fs) (h : ¬ Valid fs globs f) : chk fs globs = false := by unfold chk; exact decide_eq_false (fun g => h (g f hf))
open Classical in
theorem ok1_iff (fs : List Fun) (globs : Int) (f : Fun) : ok1 fs globs f = true ↔ ∃ F, Closed fs globs f F := by unfold ok1; rw [decide_eq_true_eq]
theorem atv_made (n : Nat) : (Go.madeCells #[.int .i64 0, .int .i64 0] (n * 2)) = (AtV (List.replicate n (0, 0))).toArray := by
  apply Array.ext
  · rw [Go.size_madeCells, List.size_toArray, atv_length, List.length_replicate]; omega
  · intro i h1 h2
    have hi : i < n * 2 := by rw [Go.size_madeCells] at h1; exact h1
    simp only [Go.madeCells, Array.getElem_map, Array.getElem_range]
    have hm : i % 2 = 0 ∨ i % 2 = 1 := by omega
    have e1 : (#[(Go.Value.int .i64 0), .int .i64 0])[i % (#[(Go.Value.int .i64 0), .int .i64 0] : Array Go.Value).size]! = .int .i64 0 := by
      show (#[(Go.Value.int .i64 0), .int .i64 0])[i % 2]! = _
      rcases hm with h | h <;> rw [h] <;> rfl
    rw [e1]
    have hr : (List.replicate n ((0 : Int), (0 : Int)))[i / 2]? = some (0, 0) := by rw [List.getElem?_replicate, if_pos (by omega)]
    obtain ⟨g1, g2⟩ := atv_get _ _ _ hr
    rw [List.getElem_toArray]
    have : (AtV (List.replicate n (0, 0)))[i]? = some (.int .i64 0) := by
      rcases hm with h | h
      · rw [show i = i / 2 * 2 by omega]; exact g1
      · rw [show i = i / 2 * 2 + 1 by omega]; exact g2
    exact ((List.getElem?_eq_some_iff.1 this).2).symm
end CodM
namespace Go.Proofs.YtpmbdncackneoaaDoor.Oc
open Go.RowKit OctM CodM

theorem stinfo : (Tryd.prog.info? 103).map (fun i => (i.zero, i.size, i.bytes)) = some (some (.agg #[.int .i64 0, .int .i64 0]), 2, 16) := by kernel_rfl

theorem madeS (n : Nat) (hn : n ≤ 1000000) (W : World) : (Instr.makeSlice 78 (.int .i64 (n : Int)) (.int .i64 (n : Int))).run Tryd.prog W = .ok (.slice (some ⟨W.heap.size, 0, none⟩) n n) (W.alloc (.cells (AtV (List.replicate n (0, 0))).toArray 103)) := by
  obtain ⟨i0, hi0, hz0, hz1, hz2⟩ := info_parts stinfo
  have h := run_make (P := Tryd.prog) W 78 103 i0 _ Tryd.underlying78 hi0 hz0 .i64 .i64 (n : Int) (n : Int) (by omega) (by omega) (by rw [hz2]; omega) (by omega)
  simp only [Int.toNat_natCast, hz1] at h
  rw [← atv_made]
  exact h

theorem box3 (w : World) (o1 o2 o3 : Obj) : ((((w.alloc o1).alloc o2).alloc o3).drew).heap[w.heap.size + 1]? = some o2 ∧ ((((w.alloc o1).alloc o2).alloc o3).drew).heap[w.heap.size + 1 + 1]? = some o3 ∧ Below w.heap.size w ((((w.alloc o1).alloc o2).alloc o3).drew) := by
  have s2 := heap_alloc_new (w.alloc o1) o2
  have s3 := heap_alloc_new ((w.alloc o1).alloc o2) o3
  have e1 : (w.alloc o1).heap.size = w.heap.size + 1 := by simp
  have e2 : ((w.alloc o1).alloc o2).heap.size = w.heap.size + 1 + 1 := by simp
  rw [e1] at s2
  rw [e2] at s3
  exact ⟨(Below.heap_alloc _ _ _ (by simp)).trans s2, s3, Below.drew ((((Below.refl _ _).alloc (Nat.le_refl _) _).alloc (by simp) _).alloc (by simp; omega) _)⟩

def CkPost (fs : List Fun) (globs : Int) (w0 : World) (e : Ending) (w' : World) : Prop := e = .returned (.bool (chk fs globs)) ∧ Below w0.heap.size w0 w'
theorem ckPost {fs : List Fun} {globs : Int} {w0 w' : World} {b : Bool} (hb : chk fs globs = b) (h : Below w0.heap.size w0 w') : CkPost fs globs w0 (.returned (.bool b)) w' := by
  subst hb; exact ⟨rfl, h⟩

theorem isValid_any (fs : List Fun) (globs : Int) (f : Fun) (p q : Nat) (w0 w : World) (va vc : Value) (h : WkC w p va globs f.caps vc q f.code.length) (hq : AtS w q (List.replicate f.code.length (0, 0))) (hf : RdF w0 va fs) (hvc : RdI w0 vc f.code) (hb0 : Below w0.heap.size w0 w) (hq0 : w0.heap.size ≤ q) (hpq : p ≠ q) (hn : f.code.length ≤ 100000) :
    Calls Tryd.prog 26 #[.pointer (some ⟨p, 0, none⟩)] w (OkPost fs globs f w0) := by
  have hvc0 := hvc
  rcases hvc with ⟨o, c, rfl, h0⟩ | ⟨b, off, c, rfl, h1, h2, h3, h4⟩
  · exact isValid_none fs globs f p q w0 w va _ h hq hvc0 hb0 hq0 hpq (by rw [h0]; rfl)
  · exact isValid_row fs globs f p q w0 w va b off c h hq hf h1 h2 h3 h4 hb0 hq0 hpq hn

set_option maxHeartbeats 1000000 in
set_option maxRecDepth 100000 in
theorem check_none (o : Option Addr) (c : Nat) (globs : Int) (w : World) :
    Calls Tryd.prog 14 #[.slice o 0 c, .int .i64 globs] w (CkPost [] globs w) := by
  have HO := Lib.hid (chk_true (fs := []) (globs := globs) (by simp))
  go_enter Tryd.func14, Tryd.ntmps14
  go_wp2_with fail
  go_loop [10] (fun i => i = .int .i64 0) (fun _ => 0)
  case atStart => rfl
  case round =>
    obtain rfl := hrel
    go_wp2_with fail
    go_ret
    exact ckPost HO.out (Below.refl _ _)

set_option maxHeartbeats 4000000 in
set_option maxRecDepth 100000 in
theorem check_row (fs : List Fun) (globs : Int) (w : World) (b off c : Nat) (hl : 0 < fs.length) (hlc : fs.length ≤ c) (hcm : c ≤ maxLen) (hc : FunC w b off fs) (hn : ∀ f ∈ fs, f.code.length ≤ 100000) :
    Calls Tryd.prog 14 #[.slice (some ⟨b, off, none⟩) fs.length c, .int .i64 globs] w (CkPost fs globs w) := by
  have HR := Lib.hid (show RdF w (.slice (some ⟨b, off, none⟩) fs.length c) fs from .inr ⟨b, off, c, rfl, hl, hlc, hcm, hc⟩)
  unfold maxLen at hcm
  have HC := Lib.hid hc
  have HN := Lib.hid hn
  clear hc hn
  go_enter Tryd.func14, Tryd.ntmps14
  go_wp2_with fail
  go_loopw [10] (fun i wr => ∃ k : Nat, k ≤ fs.length ∧ i = .int .i64 k ∧ Hid (∀ f ∈ fs.take k, Valid fs globs f) ∧ Below w.heap.size w wr) (fun i _ => fs.length - (intOf i).toNat)
  case atStart => exact ⟨0, by omega, rfl, by intro f hf; simp at hf, Below.refl _ _⟩
  case round =>
    obtain ⟨k, hk, rfl, HV, hb⟩ := hrel
    have HB := Lib.hid hb
    have hz := hb.size
    by_cases hlt : k < fs.length
    · have hx : fs[k]? = some fs[k] := List.getElem?_eq_getElem hlt
      obtain ⟨x0, v, x1, hv⟩ := (FunC.below HC.out hb (Nat.le_refl _)) k _ hx
      have hkl := HN.out fs[k] (List.getElem_mem hlt)
      have HT := Lib.hid (List.take_succ_eq_append_getElem hlt)
      have HM := Lib.hid (List.getElem_mem hlt)
      generalize fs[k] = f at *
      have hbw := World.block_lt_of_cell? wr _ x0
      simp only at hbw
      have HX := Lib.hid hx
      obtain ⟨o, cc, rfl⟩ := hv.form
      have HVV := Lib.hid hv
      have HMK := madeS f.code.length (by omega)
      clear hb hx hv
      have hb3A : Below wr.heap.size wr ((((wr.alloc (.cells #[.int .i64 f.caps, .slice o f.code.length cc] 44)).alloc (.cells #[.slice (some ⟨b, off, none⟩) fs.length c, .int .i64 globs, .int .i64 f.caps, .slice o f.code.length cc, .slice (some ⟨wr.heap.size + 1 + 1, 0, none⟩) f.code.length f.code.length] 80)).alloc (.cells (AtV (List.replicate f.code.length (0, 0))).toArray 103)).drew) := (box3 _ _ _ _).2.2
      have hb3B : Below wr.heap.size wr ((((wr.alloc (.cells #[.int .i64 f.caps, .slice o f.code.length cc] 44)).alloc (.cells (AtV (List.replicate f.code.length (0, 0))).toArray 103)).alloc (.cells #[.slice (some ⟨b, off, none⟩) fs.length c, .int .i64 globs, .int .i64 f.caps, .slice o f.code.length cc, .slice (some ⟨wr.heap.size + 1, 0, none⟩) f.code.length f.code.length] 80)).drew) := (box3 _ _ _ _).2.2
      have HA3 := Lib.hid (HB.out.trans (hb3A.mono hz))
      have HB3 := Lib.hid (HB.out.trans (hb3B.mono hz))
      by_cases hcap : f.caps < 0
      · have HO := Lib.hid (chk_false (globs := globs) HM.out (fun h => by have := h.1; omega))
        have hcd : decide (f.caps < 0) = true := by simpa using hcap
        clear hb3A hb3B
        go_wp2_with fail
        go_region
        · go_wp2_with fail
          go_ret
          exact ckPost HO.out HB3.out
        · go_wp2_with fail
          go_ret
          exact ckPost HO.out HA3.out
      · have hcd : decide (f.caps < 0) = false := by simpa using hcap
        have hiA := isValid_any fs globs f (wr.heap.size + 1) (wr.heap.size + 1 + 1) wr ((((wr.alloc (.cells #[.int .i64 f.caps, .slice o f.code.length cc] 44)).alloc (.cells #[.slice (some ⟨b, off, none⟩) fs.length c, .int .i64 globs, .int .i64 f.caps, .slice o f.code.length cc, .slice (some ⟨wr.heap.size + 1 + 1, 0, none⟩) f.code.length f.code.length] 80)).alloc (.cells (AtV (List.replicate f.code.length (0, 0))).toArray 103)).drew) _ _ ⟨(box3 _ _ _ _).1⟩ (box3 _ _ _ _).2.1 (HR.out.below HB.out (Nat.le_refl _)) HVV.out hb3A (by omega) (by omega) hkl
        have hiB := isValid_any fs globs f (wr.heap.size + 1 + 1) (wr.heap.size + 1) wr ((((wr.alloc (.cells #[.int .i64 f.caps, .slice o f.code.length cc] 44)).alloc (.cells (AtV (List.replicate f.code.length (0, 0))).toArray 103)).alloc (.cells #[.slice (some ⟨b, off, none⟩) fs.length c, .int .i64 globs, .int .i64 f.caps, .slice o f.code.length cc, .slice (some ⟨wr.heap.size + 1, 0, none⟩) f.code.length f.code.length] 80)).drew) _ _ ⟨(box3 _ _ _ _).2.1⟩ (box3 _ _ _ _).1 (HR.out.below HB.out (Nat.le_refl _)) HVV.out hb3B (by omega) (by omega) hkl
        unfold OkPost at hiA hiB
        rcases hok : ok1 fs globs f with _ | _
        · have HO := Lib.hid (chk_false (globs := globs) HM.out (fun h => by have := (ok1_iff fs globs f).2 h.2; rw [hok] at this; cases this))
          rw [hok] at hiA hiB
          have HIA := Lib.hid hiA
          have HIB := Lib.hid hiB
          clear hb3A hb3B hiA hiB hok
          go_wp2_with fail
          go_region
          · go_wp2_with fail
            refine HIB.out.mono ?_
            rintro e w2 ⟨rfl, hb4⟩
            have HB4 := Lib.hid (HB.out.trans (hb4.mono hz))
            clear hb4
            go_wp2_with fail
            go_ret
            exact ckPost HO.out HB4.out
          · go_wp2_with fail
            refine HIA.out.mono ?_
            rintro e w2 ⟨rfl, hb4⟩
            have HB4 := Lib.hid (HB.out.trans (hb4.mono hz))
            clear hb4
            go_wp2_with fail
            go_ret
            exact ckPost HO.out HB4.out
        · have HO : Hid (∀ g ∈ fs.take (k + 1), Valid fs globs g) := by
            intro g hg
            rw [HT.out, List.mem_append, List.mem_singleton] at hg
            rcases hg with hg | rfl
            · exact HV.out g hg
            · exact ⟨by omega, (ok1_iff fs globs g).1 hok⟩
          rw [hok] at hiA hiB
          have HIA := Lib.hid hiA
          have HIB := Lib.hid hiB
          clear hb3A hb3B hiA hiB hok
          go_wp2_with fail
          go_region
          · go_wp2_with fail
            refine HIB.out.mono ?_
            rintro e w2 ⟨rfl, hb4⟩
            have hb5 := HB.out.trans (hb4.mono hz)
            clear hb4
            go_wp2_with fail
            exact ⟨⟨k + 1, by omega, by go_num, HO, hb5⟩, by simp [intOf]; omega⟩
          · go_wp2_with fail
            refine HIA.out.mono ?_
            rintro e w2 ⟨rfl, hb4⟩
            have hb5 := HB.out.trans (hb4.mono hz)
            clear hb4
            go_wp2_with fail
            exact ⟨⟨k + 1, by omega, by go_num, HO, hb5⟩, by simp [intOf]; omega⟩
    · obtain rfl : k = fs.length := by omega
      have HO := Lib.hid (chk_true (fs := fs) (globs := globs) (by have := HV.out; rwa [List.take_of_length_le (Nat.le_refl _)] at this))
      go_wp2_with fail
      go_ret
      exact ckPost HO.out HB.out

theorem check_any (fs : List Fun) (globs : Int) (w : World) (v : Value) (h : RdF w v fs) (hn : ∀ f ∈ fs, f.code.length ≤ 100000) :
    Calls Tryd.prog 14 #[v, .int .i64 globs] w (CkPost fs globs w) := by
  rcases h with ⟨o, c, rfl, rfl⟩ | ⟨b, off, c, rfl, h1, h2, h3, h4⟩
  · exact check_none o c globs w
  · exact check_row fs globs w b off c h1 h2 h3 h4 hn
end Go.Proofs.YtpmbdncackneoaaDoor.Oc
