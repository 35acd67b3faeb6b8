/- No entry is too long. -/
import Derived.Test.YtdckcjcddibglaaWaE
namespace Go.Proofs.Ytdckcjcddibglaa
open Go.RowKit OctM

set_option maxHeartbeats 4000000 in
set_option maxRecDepth 100000 in
theorem isLong_any (x : En) (v : Value) (w : World) (h : Rd w v x.cl) (hl : x.cl.length ≤ 4000) :
    Calls Try.prog 17 #[enV x v] w fun e w' => e = .returned (.bool false) ∧ Below w.heap.size w w' := by
  obtain ⟨tm, ss, nm, l⟩ := x
  dsimp only at h hl
  obtain ⟨o, c, rfl⟩ : ∃ o c, v = .slice o l.length c := by
    rcases h with ⟨rfl, rfl⟩ | ⟨_, c, rfl, _⟩ <;> exact ⟨_, _, rfl⟩
  have c1 : ¬ (4000 : Int) < (l.length : Int) := by omega
  clear h
  unfold enV
  dsimp only
  go_enter Try.func17, Try.ntmps17
  go_upto_region 1 with fail
  have hb : Below w.heap.size w (w.alloc (.cells #[.int .u64 (tm : Int), .int .u64 (ss : Int), .int .u64 (nm : Int), .slice o l.length c] 33)) := (Below.refl _ _).alloc (Nat.le_refl _) _
  have hn := heap_alloc_new w (.cells #[.int .u64 (tm : Int), .int .u64 (ss : Int), .int .u64 (nm : Int), .slice o l.length c] 33)
  generalize (w.alloc (.cells #[.int .u64 (tm : Int), .int .u64 (ss : Int), .int .u64 (nm : Int), .slice o l.length c] 33)) = W at *
  have x3 := cellk (i := 3) hn rfl
  have HB := Lib.hid hb
  clear hn hb
  go_wp2_with fail
  go_ret
  exact ⟨rfl, HB.out⟩

set_option maxHeartbeats 4000000 in
set_option maxRecDepth 100000 in
theorem index_any (l : List En) (v : Value) (w : World) (hr : RdL w v l) (hok : ∀ x ∈ l, x.Ok) (hl : l.length ≤ 1000) :
    Calls Try.prog 31 #[v, .func (.func 17) #[] #[]] w fun e w' => e = .returned (.int .i64 (-1)) ∧ Below w.heap.size w w' := by
  obtain ⟨o, c, rfl⟩ := hr.form
  have HR := Lib.hid hr
  have HOK := Lib.hid hok
  have HL := Lib.hid hl
  clear hr hok
  go_enter Try.func31, Try.ntmps31
  go_wp2_with fail
  go_loopw [8] (fun t wr => ∃ (i : Nat), i ≤ l.length ∧ t = .int .i64 (i : Int) ∧ Hid (Below w.heap.size w wr)) (fun t _ => l.length + 1 - (intOf t).toNat)
  case atStart => exact ⟨0, by omega, rfl, Lib.hid (Below.refl _ _)⟩
  case round =>
    obtain ⟨i, hi, rfl, HB⟩ := hrel
    have hl6 := HL.out
    by_cases hlt : i < l.length
    · have i1 : (i : Int) < (l.length : Int) := by omega
      obtain ⟨bb, off, vx, rfl, hat0⟩ := HR.out.at (List.getElem?_eq_getElem hlt)
      have hat := hat0.below HB.out
      have hxok := HOK.out _ (List.getElem_mem hlt)
      generalize l[i] = X at *
      obtain ⟨xt, xs, xn, xl⟩ := X
      obtain ⟨a0, a1, a2, a3, ard⟩ := hat
      dsimp only at a0 a1 a2 a3 ard
      obtain ⟨ox, cx, rfl⟩ : ∃ o c, vx = .slice o xl.length c := by
        rcases ard with ⟨rfl, rfl⟩ | ⟨_, c, rfl, _⟩ <;> exact ⟨_, _, rfl⟩
      have HI := Lib.hid (isLong_any ⟨xt, xs, xn, xl⟩ (.slice ox xl.length cx) wr ard hxok.cl)
      unfold enV at HI
      dsimp only at HI
      have wi : IntKind.i64.wrap ((i : Int) + 1) = (i : Int) + 1 := IntWalk.i64_in _ (by omega)
      clear hat0 hxok ard
      go_wp2_with fail
      refine HI.out.mono ?_
      rintro e wb ⟨rfl, hbb⟩
      have HBB := Lib.hid (HB.out.trans (hbb.mono HB.out.size))
      clear hbb HI
      go_wp2_with fail
      go_roundw
      case rel => exact ⟨i + 1, by omega, by go_num, HBB⟩
      case measure => simp [intOf]; omega
    · have i1 : ¬ (i : Int) < (l.length : Int) := by omega
      go_wp2_with fail
      go_ret
      exact ⟨rfl, HB.out⟩

set_option maxHeartbeats 4000000 in
set_option maxRecDepth 100000 in
theorem contains_any (l : List En) (v : Value) (w : World) (hr : RdL w v l) (hok : ∀ x ∈ l, x.Ok) (hl : l.length ≤ 1000) :
    Calls Try.prog 16 #[v, .func (.func 17) #[] #[]] w fun e w' => e = .returned (.bool false) ∧ Below w.heap.size w w' := by
  have HI := Lib.hid (index_any l v w hr hok hl)
  clear hr
  go_enter Try.func16, Try.ntmps16
  go_wp2_with fail
  refine HI.out.mono ?_
  rintro e w1 ⟨rfl, hb⟩
  have HB := Lib.hid hb
  clear hb HI
  go_wp2_with fail
  go_ret
  exact ⟨rfl, HB.out⟩
end Go.Proofs.Ytdckcjcddibglaa
