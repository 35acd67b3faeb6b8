/- lose. -/
import Derived.Test.YtonahfpnlaolpaaDruC
import Derived.Laws.Slices
import Derived.Laws.Small
import Derived.IntWalk
namespace Go.Proofs.Ytonahfpnlaolpaa
open Go.RowKit

theorem sizeByteD (W : World) : (sizeOf (Try.prog.elem 22)).run Try.prog W = .ok 1 W := by kernel_rfl

theorem cut0 (o : Option Addr) (n c k : Nat) (hk : k ≤ c) (ho : o = none ∨ ∃ g, o = some ⟨g, 0, none⟩) (W : World) :
    (Instr.slice 22 (.slice o n c) none (some (.int .i64 (k : Int))) none).run Try.prog W = .ok (.slice o k c) W := by
  have ht : Try.prog.underlying 22 = some (.slice (Try.prog.elem 22)) := by kernel_rfl
  rw [run_slice_h W _ o _ c ht .i64 k (by omega) (by omega), sizeByteD]
  show Result.ok (sliced o 0 (k : Int).toNat c 1) W = _
  rw [Int.toNat_natCast]
  unfold sliced
  rcases ho with rfl | ⟨g, rfl⟩
  · simp
  · simp [add_none]

theorem cut1 (o : Option Addr) (n c k : Nat) (x : Int) (hx : x = (k : Int)) (hk : k ≤ c) (ho : o = none ∨ ∃ g, o = some ⟨g, 0, none⟩) (W : World) :
    (Instr.slice 22 (.slice o n c) none (some (.int .i64 x)) none).run Try.prog W = .ok (.slice o k c) W := by
  subst hx
  exact cut0 o n c k hk ho W

theorem set_same {w : World} {a : Addr} {u v : Value} (h : w.cell? a = some u) : (w.setCell a v).cell? a = some v := World.cell?_setCell_same _ _ _ h
theorem set_other {w : World} {a b : Addr} {u v : Value} (hne : a ≠ b) (h : w.cell? b = some u) : (w.setCell a v).cell? b = some u := (World.cell?_setCell_other _ _ _ _ hne).trans h

theorem ownBlock_len (o : Option Addr) (n c n' c' : Nat) : (Value.slice o n c).ownBlock = (Value.slice o n' c').ownBlock := by cases o <;> rfl

/-- What lose leaves. -/
def Lost (w : World) (T i : Nat) (v : Value) (e : Ending) (w' : World) : Prop :=
  e = .returned (.tuple #[]) ∧ ∃ x : World, x.heap = (w.setCell ⟨T, i, none⟩ v).heap ∧ x.os = w.os ∧ x.tape = w.tape ∧ x.output = w.output ∧ w' = (x.setCell ⟨T, i + 1, none⟩ v).setCell ⟨T, i + 2, none⟩ (.bool false)

theorem max_at (P : Program) (x y z : Int) (h : z = if y > x then y else x) (W : World) (ts : Array TypeId) (t : TypeId) : (Builtin.max_ ts t #[.int .i64 x, .int .i64 y]).run P W = .ok (.int .i64 z) W := by
  rw [run_max_int2, h]
theorem min_at (P : Program) (x y z : Int) (h : z = if y < x then y else x) (W : World) (ts : Array TypeId) (t : TypeId) : (Builtin.min_ ts t #[.int .i64 x, .int .i64 y]).run P W = .ok (.int .i64 z) W := by
  rw [run_min_int2, h]

set_option maxHeartbeats 4000000 in
set_option maxRecDepth 100000 in
theorem lose_app (T i ln cn ld cd m : Nat) (on od : Option Addr) (cut a : Int) (w : World)
    (ha : w.cell? ⟨T, i, none⟩ = some (.slice on ln cn)) (hb : w.cell? ⟨T, i + 1, none⟩ = some (.slice od ld cd)) (hc : w.cell? ⟨T, i + 2, none⟩ = some (.bool false)) (hf : ∀ j, w.frozen? ⟨T, j, none⟩ = false)
    (hon : on = none ∨ ∃ g, on = some ⟨g, 0, none⟩) (hA : a = if (0 : Int) > cut then 0 else cut) (hM : (m : Int) = if (ln : Int) - (ld : Int) < a then (ln : Int) - (ld : Int) else a) (hle : ld ≤ ln) (hcn : ln ≤ cn) (hm : ln ≤ 1048576) :
    Calls Try.prog 48 #[.pointer (some ⟨T, i, none⟩), .int .i64 cut] w (Lost w T i (.slice on (ld + m) cn)) := by
  have hml : m ≤ ln - ld := by split at hM <;> omega
  have hmx := max_at Try.prog cut 0 a hA
  have hmn := min_at Try.prog a ((ln : Int) - (ld : Int)) (m : Int) hM
  have hsum : IntKind.i64.wrap ((ld : Int) + (m : Int)) = (ld : Int) + (m : Int) := IntWalk.i64_in _ (by omega)
  have hcut := cut1 on ln cn (ld + m) ((ld : Int) + (m : Int)) (by omega) (by omega) hon
  have f0 := hf i
  have n1 : (⟨T, i, none⟩ : Addr) ≠ ⟨T, i + 1, none⟩ := by simp
  have n2 : (⟨T, i, none⟩ : Addr) ≠ ⟨T, i + 2, none⟩ := by simp
  have HF := Lib.hid hf
  have HA := Lib.hid hA
  have HM := Lib.hid hM
  clear hf hA hM hml hon
  go_enter Try.func48, Try.ntmps48
  go_wp2
  go_region
  go_wp2
  go_region
  go_wp2_with fail
  have g1 : (w.setCell ⟨T, i, none⟩ (.slice on (ld + m) cn)).cell? ⟨T, i, none⟩ = some (.slice on (ld + m) cn) := set_same ha
  have g2 : (w.setCell ⟨T, i, none⟩ (.slice on (ld + m) cn)).cell? ⟨T, i + 1, none⟩ = some (.slice od ld cd) := set_other (by simp) hb
  have g3 : (w.setCell ⟨T, i, none⟩ (.slice on (ld + m) cn)).cell? ⟨T, i + 2, none⟩ = some (.bool false) := set_other (by simp) hc
  have g4 : ∀ j, (w.setCell ⟨T, i, none⟩ (.slice on (ld + m) cn)).frozen? ⟨T, j, none⟩ = false := fun j => by simpa using HF.out j
  refine (settle_at T i (.slice on (ld + m) cn) (.slice od ld cd) (.bool false) (w.setCell ⟨T, i, none⟩ (.slice on (ld + m) cn)).drew.drew g1 g2 g3 g4 ⟨_, _, _, rfl⟩).mono ?_
  rintro e w1 ⟨rfl, hw1⟩
  have HW := Lib.hid hw1
  clear hw1 g1 g2 g3 g4
  go_wp2
  go_end0
  exact ⟨rfl, (w.setCell ⟨T, i, none⟩ (.slice on (ld + m) cn)).drew.drew, rfl, rfl, rfl, rfl, HW.out⟩

set_option maxHeartbeats 4000000 in
set_option maxRecDepth 100000 in
theorem lose_dur (T i ln cn ld cd : Nat) (on od : Option Addr) (cut : Int) (w : World)
    (ha : w.cell? ⟨T, i, none⟩ = some (.slice on ln cn)) (hb : w.cell? ⟨T, i + 1, none⟩ = some (.slice od ld cd)) (hc : w.cell? ⟨T, i + 2, none⟩ = some (.bool true)) (hf : ∀ j, w.frozen? ⟨T, j, none⟩ = false)
    (hA : cut < 0) :
    Calls Try.prog 48 #[.pointer (some ⟨T, i, none⟩), .int .i64 cut] w (Lost w T i (.slice od ld cd)) := by
  have f0 := hf i
  have n1 : (⟨T, i, none⟩ : Addr) ≠ ⟨T, i + 1, none⟩ := by simp
  have n2 : (⟨T, i, none⟩ : Addr) ≠ ⟨T, i + 2, none⟩ := by simp
  have HF := Lib.hid hf
  clear hf
  go_enter Try.func48, Try.ntmps48
  go_wp2_with fail
  have g1 : (w.setCell ⟨T, i, none⟩ (.slice od ld cd)).cell? ⟨T, i, none⟩ = some (.slice od ld cd) := set_same ha
  have g2 : (w.setCell ⟨T, i, none⟩ (.slice od ld cd)).cell? ⟨T, i + 1, none⟩ = some (.slice od ld cd) := set_other (by simp) hb
  have g3 : (w.setCell ⟨T, i, none⟩ (.slice od ld cd)).cell? ⟨T, i + 2, none⟩ = some (.bool true) := set_other (by simp) hc
  have g4 : ∀ j, (w.setCell ⟨T, i, none⟩ (.slice od ld cd)).frozen? ⟨T, j, none⟩ = false := fun j => by simpa using HF.out j
  refine (settle_at T i (.slice od ld cd) (.slice od ld cd) (.bool true) _ g1 g2 g3 g4 ⟨_, _, _, rfl⟩).mono ?_
  rintro e w1 ⟨rfl, hw1⟩
  have HW := Lib.hid hw1
  clear hw1 g1 g2 g3 g4
  go_wp2
  go_end0
  exact ⟨rfl, _, rfl, rfl, rfl, rfl, HW.out⟩

set_option maxHeartbeats 4000000 in
set_option maxRecDepth 100000 in
theorem lose_now (T i ln cn ld cd m : Nat) (on od : Option Addr) (cut : Int) (w : World)
    (ha : w.cell? ⟨T, i, none⟩ = some (.slice on ln cn)) (hb : w.cell? ⟨T, i + 1, none⟩ = some (.slice od ld cd)) (hc : w.cell? ⟨T, i + 2, none⟩ = some (.bool true)) (hf : ∀ j, w.frozen? ⟨T, j, none⟩ = false)
    (hon : on = none ∨ ∃ g, on = some ⟨g, 0, none⟩) (hA : 0 ≤ cut) (hM : (m : Int) = if (ln : Int) < cut then (ln : Int) else cut) (hcn : ln ≤ cn) :
    Calls Try.prog 48 #[.pointer (some ⟨T, i, none⟩), .int .i64 cut] w (Lost w T i (.slice on m cn)) := by
  have hml : m ≤ ln := by split at hM <;> omega
  have hmn := min_at Try.prog cut (ln : Int) (m : Int) hM
  have hcut := cut1 on ln cn m (m : Int) rfl (by omega) hon
  have f0 := hf i
  have n1 : (⟨T, i, none⟩ : Addr) ≠ ⟨T, i + 1, none⟩ := by simp
  have n2 : (⟨T, i, none⟩ : Addr) ≠ ⟨T, i + 2, none⟩ := by simp
  have HF := Lib.hid hf
  have HM := Lib.hid hM
  clear hf hM hml hon
  go_enter Try.func48, Try.ntmps48
  go_wp2
  go_region
  go_wp2_with fail
  have g1 : (w.setCell ⟨T, i, none⟩ (.slice on m cn)).cell? ⟨T, i, none⟩ = some (.slice on m cn) := set_same ha
  have g2 : (w.setCell ⟨T, i, none⟩ (.slice on m cn)).cell? ⟨T, i + 1, none⟩ = some (.slice od ld cd) := set_other (by simp) hb
  have g3 : (w.setCell ⟨T, i, none⟩ (.slice on m cn)).cell? ⟨T, i + 2, none⟩ = some (.bool true) := set_other (by simp) hc
  have g4 : ∀ j, (w.setCell ⟨T, i, none⟩ (.slice on m cn)).frozen? ⟨T, j, none⟩ = false := fun j => by simpa using HF.out j
  refine (settle_at T i (.slice on m cn) (.slice od ld cd) (.bool true) (w.setCell ⟨T, i, none⟩ (.slice on m cn)).drew g1 g2 g3 g4 ⟨_, _, _, rfl⟩).mono ?_
  rintro e w1 ⟨rfl, hw1⟩
  have HW := Lib.hid hw1
  clear hw1 g1 g2 g3 g4
  go_wp2
  go_end0
  exact ⟨rfl, (w.setCell ⟨T, i, none⟩ (.slice on m cn)).drew, rfl, rfl, rfl, rfl, HW.out⟩

/-- What a track is behind a fall. -/
def left (t : Tk) (cut : Int) : List UInt8 :=
  if t.wr = false then t.now.take (t.dur.length + min cut.toNat (t.now.length - t.dur.length)) else if cut < 0 then t.dur else t.now.take (min cut.toNat t.now.length)

def loseT (t : Tk) (cut : Int) : Tk := ⟨left t cut, left t cut, false⟩

/-- lose, of a drum's track. -/
theorem lose_any (i : Nat) (cut : Int) (w : World) {S : Nat → Prop} {D T : Nat} {vn vd : Nat → Value} {d : Dr} (h : DAt w S D T vn vd d) (hi : i < d.n) :
    Calls Try.prog 48 #[.pointer (some ⟨T, i * 3, none⟩), .int .i64 cut] w fun e w' => e = .returned (.tuple #[]) ∧ (∃ v, DAt w' S D T (upd vn i v) (upd vd i v) (d.set i (loseT (d.tr i) cut))) ∧ Kept (fun k => k = T) w w' := by
  obtain ⟨ca, cb, cc⟩ := h.tcells hi
  have ht := h.tk i hi
  have hfit := h.fit i hi
  have hlim := h.lim
  have hfr : ∀ j, w.frozen? ⟨T, j, none⟩ = false := fun j => h.row.frozen j
  -- the end, once for all: v is what both are then
  have fin : ∀ v, (∀ g, TB v v g → TB (vn i) (vd i) g) → Own w 0 v (left (d.tr i) cut) → (left (d.tr i) cut).length ≤ d.most → ∀ e w', Lost w T (i * 3) v e w' →
      e = .returned (.tuple #[]) ∧ (∃ v, DAt w' S D T (upd vn i v) (upd vd i v) (d.set i (loseT (d.tr i) cut))) ∧ Kept (fun k => k = T) w w' := by
    rintro v hv hown hlen e w' ⟨rfl, x, hx, ho, ht', hu, rfl⟩
    have hk : ∀ g, g ≠ T → ((x.setCell ⟨T, i * 3 + 1, none⟩ v).setCell ⟨T, i * 3 + 2, none⟩ (.bool false)).heap[g]? = w.heap[g]? := fun g hg => by
      rw [heap_setCell_other _ _ _ _ hg, heap_setCell_other _ _ _ _ hg, hx, heap_setCell_other _ _ _ _ hg]
    have hr1 := h.row.set (i * 3) v
    have hr2 : x.rowIs T 86 (d.n * 3) _ := hr1.of_block (w' := x) (by rw [hx])
    have hr3 := (hr2.set (i * 3 + 1) v).set (i * 3 + 2) (.bool false)
    refine ⟨rfl, ⟨v, h.put (S' := S) (t := loseT (d.tr i) cut) hi (hk D h.ne) (hr3.congr fun j _ => ?_) ⟨?_, ?_, fun _ => List.prefix_refl _, fun h => by cases h⟩ ⟨hlen, hlen⟩ (fun j hj _ g hg => hk g (h.mine j hj g hg).2.2) (fun g hg => .inl (hv g hg)) (fun _ h => h)⟩, ?_⟩
    · rw [tc_set]
      simp only [loseT]
      repeat' split
      all_goals first
        | rfl
        | (exfalso; omega)
    · exact own_block hown fun g hg => hk g (h.mine i hi g (hv g (.inl hg))).2.2
    · exact own_block hown fun g hg => hk g (h.mine i hi g (hv g (.inl hg))).2.2
    · refine ⟨ho, ht', hu, by simp [hx], fun k _ hk' => hk k hk'⟩
  obtain ⟨on, cn, hvn, hcn, -⟩ := own_slice ht.now
  obtain ⟨od, cd, hvd, hcd, -⟩ := own_slice ht.dur
  have hon : on = none ∨ ∃ g, on = some ⟨g, 0, none⟩ := by
    have h2 := ht.now.2
    rw [hvn] at h2
    rcases h2 with ⟨h3, _⟩ | ⟨g, cap, cur, h3, _⟩
    · injection h3 with h3 _ _
      exact .inl h3
    · injection h3 with h3 _ _
      exact .inr ⟨g, h3⟩
  have hnow := ht.now
  have hdur := ht.dur
  rw [hvn] at ca hnow fin
  rw [hvd] at cb hdur fin
  cases hw : (d.tr i).wr with
  | false =>
    have hp := (ht.pre hw).length_le
    rw [hw] at cc
    have e : left (d.tr i) cut = (d.tr i).now.take ((d.tr i).dur.length + min cut.toNat ((d.tr i).now.length - (d.tr i).dur.length)) := by unfold left; rw [if_pos hw]
    have hle : (d.tr i).dur.length + min cut.toNat ((d.tr i).now.length - (d.tr i).dur.length) ≤ (d.tr i).now.length := by omega
    refine (lose_app T (i * 3) _ cn _ cd (min cut.toNat ((d.tr i).now.length - (d.tr i).dur.length)) on od cut (if (0 : Int) > cut then 0 else cut) w ca cb cc hfr hon rfl ?_ hp hcn (by omega)).mono fun e' w' hl => ?_
    · split <;> split <;> omega
    · refine fin _ ?_ ?_ (by rw [e, List.length_take]; omega) e' w' hl
      · intro g hg
        rcases hg with hg | hg <;> exact .inl ((ownBlock_len _ _ _ _ _).trans hg)
      · rw [e]
        exact own_cut hnow _ hle
  | true =>
    rw [hw] at cc
    by_cases hc : cut < 0
    · have e : left (d.tr i) cut = (d.tr i).dur := by unfold left; rw [if_neg (by simp [hw]), if_pos hc]
      refine (lose_dur T (i * 3) _ cn _ cd on od cut w ca cb cc hfr hc).mono fun e' w' hl => ?_
      refine fin _ ?_ (by rw [e]; exact hdur) (by rw [e]; exact hfit.2) e' w' hl
      intro g hg
      rcases hg with hg | hg <;> exact .inr hg
    · have e : left (d.tr i) cut = (d.tr i).now.take (min cut.toNat (d.tr i).now.length) := by unfold left; rw [if_neg (by simp [hw]), if_neg hc]
      refine (lose_now T (i * 3) _ cn _ cd (min cut.toNat (d.tr i).now.length) on od cut w ca cb cc hfr hon (by omega) ?_ hcn).mono fun e' w' hl => ?_
      · split <;> omega
      · refine fin _ ?_ ?_ (by rw [e, List.length_take]; omega) e' w' hl
        · intro g hg
          rcases hg with hg | hg <;> exact .inl ((ownBlock_len _ _ _ _ _).trans hg)
        · rw [e]
          exact own_cut hnow _ (by omega)
end Go.Proofs.Ytonahfpnlaolpaa
