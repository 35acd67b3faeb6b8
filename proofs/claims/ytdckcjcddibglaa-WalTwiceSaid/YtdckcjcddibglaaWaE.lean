/- A save's bytes. -/
import Derived.Test.YtdckcjcddibglaaWaD
namespace Go.Proofs.Ytdckcjcddibglaa
open Go.RowKit OctM

def frE (x : En) : List UInt8 := encB (sealed (encE x))
def framesE (l : List En) : List UInt8 := l.flatMap frE
def shead (tm : Nat) (vt : Int) (fr n : Nat) : List UInt8 := enc tm ++ enc (zig vt) ++ enc fr ++ enc n
def saveB (tm : Nat) (vt : Int) (fr : Nat) (l : List En) : List UInt8 := encB (sealed (shead tm vt fr l.length)) ++ framesE l

theorem frE_length (x : En) (h : x.cl.length ≤ 4000) : (frE x).length ≤ 4060 := by
  have h1 := encE_length x h
  have h2 := encB_length (sealed (encE x))
  have h3 := sealed_length (encE x)
  unfold frE
  omega
theorem framesE_le (l : List En) (h : ∀ x ∈ l, x.Ok) : (framesE l).length ≤ 4060 * l.length := by
  induction l with
  | nil => simp [framesE]
  | cons x l ih =>
    have h1 := frE_length x (h x (List.mem_cons_self)).cl
    have h2 := ih (fun y hy => h y (List.mem_cons_of_mem _ hy))
    have h3 : framesE (x :: l) = frE x ++ framesE l := by simp [framesE]
    rw [h3, List.length_append, List.length_cons]
    omega
theorem framesE_succ (l : List En) (i : Nat) (x : En) (h : l[i]? = some x) : framesE (l.take (i + 1)) = framesE (l.take i) ++ frE x := by
  unfold framesE
  rw [List.take_add_one, h]
  simp

set_option maxHeartbeats 8000000 in
set_option maxRecDepth 100000 in
theorem sbytes_any (tm : Nat) (vt : Int) (fr : Nat) (l : List En) (v : Value) (w : World) (hr : RdL w v l) (h1 : tm < 18446744073709551616) (h2 : -1 ≤ vt ∧ vt < 7) (h3 : fr < 18446744073709551616) (hok : ∀ x ∈ l, x.Ok) (hl : l.length ≤ 1000) :
    Calls Try.prog 21 #[.int .u64 (tm : Int), .int .i64 vt, .int .u64 (fr : Int), v] w fun e w' => ∃ v', e = .returned v' ∧ Own w' w.heap.size v' (saveB tm vt fr l) ∧ Below w.heap.size w w' := by
  obtain ⟨o, c, rfl⟩ := hr.form
  have HR := Lib.hid hr
  have HH1 := Lib.hid (show (tm : Int) ≤ 18446744073709551615 by omega)
  have HH2 := Lib.hid (show -9223372036854775808 ≤ vt ∧ vt ≤ 9223372036854775807 by omega)
  have HH3 := Lib.hid (show (fr : Int) ≤ 18446744073709551615 by omega)
  have HH4 := Lib.hid (show (l.length : Int) ≤ 18446744073709551615 by omega)
  have HOK := Lib.hid hok
  have HL6 := Lib.hid hl
  have wl : IntKind.u64.wrap (l.length : Int) = (l.length : Int) := by rw [IntKind.wrap_u64]; omega
  have wl2 : IntKind.i64.wrap (l.length : Int) = (l.length : Int) := IntWalk.i64_in _ (by omega)
  have HSH : Hid ((shead tm vt fr l.length).length ≤ 100) := Lib.hid (by
    have := enc_length tm; have := nd_le tm; have := enc_length (zig vt); have := nd_le (zig vt); have := enc_length fr; have := nd_le fr; have := enc_length l.length; have := nd_le l.length
    simp only [shead, List.length_append]; omega)
  have HFL : Hid ((framesE l).length ≤ 4060000) := Lib.hid (by have := framesE_le l hok; omega)
  clear hr h1 h2 h3 hok
  go_enter Try.func21, Try.ntmps21
  go_upto_region 2 with fail
  have hbo : Below w.heap.size w (w.alloc (.cells #[.slice none 0 0] 79)) := (Below.refl _ _).alloc (Nat.le_refl _) _
  have hno := heap_alloc_new w (.cells #[.slice none 0 0] 79)
  have hso : (w.alloc (.cells #[.slice none 0 0] 79)).heap.size = w.heap.size + 1 := by simp
  generalize (w.alloc (.cells #[.slice none 0 0] 79)) = w1 at *
  have hbh : Below w1.heap.size w1 (w1.alloc (.cells #[.slice none 0 0] 79)) := (Below.refl _ _).alloc (Nat.le_refl _) _
  have hnh := heap_alloc_new w1 (.cells #[.slice none 0 0] 79)
  generalize (w1.alloc (.cells #[.slice none 0 0] 79)) = w2 at *
  rw [hso] at hnh
  have HWO := Lib.hid (WS.new hno hbo (Nat.le_refl _))
  have HWH := Lib.hid (WS.new (w0 := w1) hnh hbh (by omega))
  generalize hbe : w.heap.size + 1 = bh at *
  generalize hboe : w.heap.size = bo at *
  clear hbo hno hbh hnh
  have HC1 := Lib.hid (wuint bh w1.heap.size (.slice none 0 0) [] (tm : Int) w2 (by omega) HH1.out HWH.out.at_ HWH.out.bel.size (by simp))
  go_wp2_with fail
  refine HC1.out.mono ?_
  intro e w3 hp
  have hret := hp.ret
  subst hret
  obtain ⟨u1, hu⟩ := HWH.out.put hp
  simp only [Int.toNat_natCast, List.nil_append] at hu
  have HU1 := Lib.hid hu
  clear hu hp HC1
  have HC2 := Lib.hid (wint bh w1.heap.size u1 (enc tm) vt w3 HH2.out.1 HH2.out.2 HU1.out.at_ HU1.out.bel.size (by have := enc_length tm; have := nd_le tm; omega))
  go_wp2_with fail
  refine HC2.out.mono ?_
  intro e w4 hp
  have hret := hp.ret
  subst hret
  obtain ⟨u2, hu⟩ := HU1.out.put hp
  have HU2 := Lib.hid hu
  clear hu hp HC2
  have HC3 := Lib.hid (wuint bh w1.heap.size u2 (enc tm ++ enc (zig vt)) (fr : Int) w4 (by omega) HH3.out HU2.out.at_ HU2.out.bel.size (by have := enc_length tm; have := nd_le tm; have := enc_length (zig vt); have := nd_le (zig vt); rw [List.length_append]; omega))
  go_wp2_with fail
  refine HC3.out.mono ?_
  intro e w5 hp
  have hret := hp.ret
  subst hret
  obtain ⟨u3, hu⟩ := HU2.out.put hp
  simp only [Int.toNat_natCast] at hu
  have HU3 := Lib.hid hu
  clear hu hp HC3
  have HC4 := Lib.hid (wuint bh w1.heap.size u3 (enc tm ++ enc (zig vt) ++ enc fr) (l.length : Int) w5 (by omega) HH4.out HU3.out.at_ HU3.out.bel.size (by have := enc_length tm; have := nd_le tm; have := enc_length (zig vt); have := nd_le (zig vt); have := enc_length fr; have := nd_le fr; simp only [List.length_append]; omega))
  go_wp2_with fail
  refine HC4.out.mono ?_
  intro e w6 hp
  have hret := hp.ret
  subst hret
  obtain ⟨u4, hu⟩ := HU3.out.put hp
  simp only [Int.toNat_natCast] at hu
  have HU4 : Hid (WS w1 bh u4 (shead tm vt fr l.length) w6) := Lib.hid hu
  have HSB := Lib.hid (show saveB tm vt fr l = encB (sealed (shead tm vt fr l.length)) ++ framesE l from rfl)
  clear hu hp HC4 HU1 HU2 HU3
  generalize shead tm vt fr l.length = hd at *
  have HC5 := Lib.hid (frame_any bo bh w1.heap.size (.slice none 0 0) u4 [] hd w w6 (HWO.out.below HU4.out.bel) HU4.out.at_ (by have := HSH.out; omega) (by simp))
  go_wp2_with fail
  refine HC5.out.mono ?_
  rintro e w7 ⟨rfl, ⟨u5, hu, -⟩, -⟩
  rw [List.nil_append] at hu
  have HU5 := Lib.hid hu
  have HFB : Hid ((encB (sealed hd)).length ≤ 200) := Lib.hid (by have := HSH.out; have := encB_length (sealed hd); have := sealed_length hd; omega)
  clear hu HC5 HU4
  go_wp2_with fail
  go_loopw [33] (fun c wr => ∃ (i : Nat) (u : Value), i ≤ l.length ∧ c = .int .i64 (i : Int) ∧ Hid (WS w bo u (encB (sealed hd) ++ framesE (l.take i)) wr)) (fun c _ => l.length + 1 - (intOf c).toNat)
  case atStart => exact ⟨0, u5, by omega, rfl, by simpa [framesE] using HU5⟩
  case round =>
    obtain ⟨i, u, hi, rfl, HS⟩ := hrel
    have hl6 := HL6.out
    have HTK : Hid ((framesE (l.take i)).length ≤ 4060000) := Lib.hid (by
      have h1 := framesE_le (l.take i) (fun x hx => HOK.out x (List.mem_of_mem_take hx))
      have h2 := List.length_take_le i l
      have h3 : (l.take i).length ≤ 1000 := by rw [List.length_take]; omega
      omega)
    by_cases hlt : i < l.length
    · have i1 : (i : Int) < (l.length : Int) := by omega
      obtain ⟨bb, off, vx, rfl, hat0⟩ := HR.out.at (List.getElem?_eq_getElem hlt)
      have hok := HOK.out _ (List.getElem_mem hlt)
      have hsucc := framesE_succ l i _ (List.getElem?_eq_getElem hlt)
      have hat := hat0.below HS.out.bel
      generalize l[i] = X at *
      obtain ⟨xt, xs, xn, xl⟩ := X
      obtain ⟨a0, a1, a2, a3, ard⟩ := hat
      dsimp only at a0 a1 a2 a3 ard
      obtain ⟨ox, cx, rfl⟩ : ∃ o c, vx = .slice o xl.length c := by
        rcases ard with ⟨rfl, rfl⟩ | ⟨_, c, rfl, _⟩ <;> exact ⟨_, _, rfl⟩
      have hba : Below wr.heap.size wr (wr.alloc (.cells #[.int .u64 (xt : Int), .int .u64 (xs : Int), .int .u64 (xn : Int), .slice ox xl.length cx] 33)) := (Below.refl _ _).alloc (Nat.le_refl _) _
      have hna := heap_alloc_new wr (.cells #[.int .u64 (xt : Int), .int .u64 (xs : Int), .int .u64 (xn : Int), .slice ox xl.length cx] 33)
      have hsa : (wr.alloc (.cells #[.int .u64 (xt : Int), .int .u64 (xs : Int), .int .u64 (xn : Int), .slice ox xl.length cx] 33)).heap.size = wr.heap.size + 1 := by simp
      have wi : IntKind.i64.wrap ((i : Int) + 1) = (i : Int) + 1 := IntWalk.i64_in _ (by omega)
      have HARD := Lib.hid ard
      have HXOK := Lib.hid hok
      have HSUC := Lib.hid hsucc
      clear hat0 hok ard hsucc
      go_upto_region 6 with fail
      generalize (wr.alloc (.cells #[.int .u64 (xt : Int), .int .u64 (xs : Int), .int .u64 (xn : Int), .slice ox xl.length cx] 33)) = wa at *
      have hbp : Below wa.heap.size wa (wa.alloc (.cells #[.slice none 0 0] 79)) := (Below.refl _ _).alloc (Nat.le_refl _) _
      have hnp := heap_alloc_new wa (.cells #[.slice none 0 0] 79)
      have hnaw := (hbp.block wr.heap.size (by omega)).trans hna
      have HWP := Lib.hid (WS.new hnp hbp (Nat.le_refl _))
      have HBA := Lib.hid hba
      rw [hsa] at HWP
      clear hba hna hbp hnp a0 a1 a2 a3
      go_upto_region 7 with fail
      generalize (wa.alloc (.cells #[.slice none 0 0] 79)) = wp at *
      rw [hsa] at *
      have x0 := cellk (i := 0) hnaw rfl
      have x1 := cellk (i := 1) hnaw rfl
      have x2 := cellk (i := 2) hnaw rfl
      have x3 := cellk (i := 3) hnaw rfl
      have HC := Lib.hid (entry_any (wr.heap.size + 1) (.slice none 0 0) (.slice ox xl.length cx) [] ⟨xt, xs, xn, xl⟩ wa wp HWP.out (HARD.out.below HBA.out) HXOK.out (by simp))
      unfold enV at HC
      dsimp only at HC
      clear hnaw
      go_wp2_with fail
      refine HC.out.mono ?_
      rintro e wq ⟨rfl, u', hws⟩
      rw [List.nil_append] at hws
      have HWQ := Lib.hid hws
      have HF := Lib.hid (frame_any bo (wr.heap.size + 1) wa.heap.size u u' (encB (sealed hd) ++ framesE (l.take i)) (encE ⟨xt, xs, xn, xl⟩) w wq ((HS.out.below HBA.out).below HWQ.out.bel) HWQ.out.at_ (by have := encE_length ⟨xt, xs, xn, xl⟩ HXOK.out.cl; omega) (by have := HFB.out; have := HTK.out; rw [List.length_append]; omega))
      rw [List.append_assoc, show framesE (l.take i) ++ encB (sealed (encE ⟨xt, xs, xn, xl⟩)) = framesE (l.take (i + 1)) from HSUC.out.symm] at HF
      clear hws HC x0 x1 x2 x3
      go_wp2_with fail
      refine HF.out.mono ?_
      rintro e wz ⟨rfl, ⟨uz, hwz, -⟩, -⟩
      have HWZ := Lib.hid hwz
      clear hwz HF
      go_wp2_with fail
      go_roundw
      case rel => exact ⟨i + 1, uz, by omega, by go_num, HWZ⟩
      case measure => simp [intOf]; omega
    · have i1 : ¬ (i : Int) < (l.length : Int) := by omega
      have hie : i = l.length := by omega
      subst hie
      rw [List.take_length] at HS
      have HD := Lib.hid (wdone bo w.heap.size u _ wr HS.out.at_ (by
        have := HFB.out; have := HFL.out
        rw [List.length_append]
        omega))
      go_wp2_with fail
      refine HD.out.mono ?_
      rintro e wg ⟨vg, rfl, hog, hbg⟩
      have HO := Lib.hid (own_base hog HS.out.bel.size)
      have HB := Lib.hid (HS.out.bel.trans (hbg.mono HS.out.bel.size))
      clear hog hbg HD
      go_wp2_with fail
      go_ret
      exact ⟨_, rfl, by rw [HSB.out]; first | exact HO.out | (rw [← hboe]; exact HO.out), by first | exact HB.out | (rw [← hboe]; exact HB.out)⟩
end Go.Proofs.Ytdckcjcddibglaa
