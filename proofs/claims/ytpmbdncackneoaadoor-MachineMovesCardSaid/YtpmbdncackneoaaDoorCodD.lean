/- What follows an instruction: goOn. -/
import Derived.Test.YtpmbdncackneoaaDoorCodC
namespace CodM
theorem rch_length (A : List (Int × Int)) (i : Nat) (s : Int × Int) : (rch A i s).2.length = A.length := by
  unfold rch
  split
  · rfl
  · split <;> simp
/-- What is allowed takes no more than there is. -/
theorem alw_tk {fs : List Fun} {caps globs : Int} {x : Ins} {d t : Int} (h : alw fs caps globs x d t = true) (hd : d ≤ 1000000) (_h1 : 1 ≤ d) : 0 ≤ tk x ∧ tk x ≤ d ∧ 0 ≤ lv x ∧ lv x ≤ 1 ∧ (x.op = 18 → tk x = x.n + 1) := by
  have hl : 0 ≤ lv x ∧ lv x ≤ 1 := by unfold lv; split <;> simp
  unfold alw at h
  simp only [Bool.and_eq_true, decide_eq_true_eq] at h
  obtain ⟨⟨_, h2⟩, h3⟩ := h
  have h18 : x.op = 18 → tk x = x.n + 1 := by
    intro e
    simp [nm, e] at h2
    simp [tk, e]
    unfold Go.RowKit.wrap64
    omega
  have h0 : 0 ≤ tk x := by
    by_cases e6 : x.op = 6
    · simp [nm, e6] at h2; simp [tk, e6]; omega
    by_cases e9 : x.op = 9
    · simp [nm, e9] at h2; simp [tk, e9]; omega
    by_cases e18 : x.op = 18
    · rw [h18 e18]; simp [nm, e18] at h2; omega
    unfold tk
    rw [if_neg e6, if_neg e9, if_neg e18]
    split
    · decide
    · split <;> decide
  refine ⟨h0, ?_, hl.1, hl.2, h18⟩
  by_cases e8 : x.op = 8
  · simp [tk, e8]; omega
  by_cases e25 : x.op = 25
  · simp [tk, e25]; omega
  rw [if_neg e8, if_neg e25, decide_eq_true_eq] at h3
  omega
end CodM
namespace Go.Proofs.YtpmbdncackneoaaDoor.Oc
open Go.RowKit OctM CodM

/-- The boxes behind a call that leaves old blocks alone. -/
theorem free_of {w : World} {b : Nat} {cs : Array Value} {t : TypeId} (h : w.heap[b]? = some (.cells cs t (0, 0))) (i : Nat) : w.frozen? ⟨b, i, none⟩ = false := by simp [World.frozen?, h]
theorem set_two0 {w : World} {b : Nat} {u v x : Value} {t : TypeId} (h : w.heap[b]? = some (.cells #[u, v] t (0, 0))) : (w.setCell ⟨b, 0, none⟩ x).heap[b]? = some (.cells #[x, v] t (0, 0)) := by simp [World.setCell, Array.getElem?_modify, h]
theorem set_two1 {w : World} {b : Nat} {u v x : Value} {t : TypeId} (h : w.heap[b]? = some (.cells #[u, v] t (0, 0))) : (w.setCell ⟨b, 1, none⟩ x).heap[b]? = some (.cells #[u, x] t (0, 0)) := by simp [World.setCell, Array.getElem?_modify, h]
theorem set_other {w : World} {b i c : Nat} {x : Value} (h : b ≠ c) : (w.setCell ⟨b, i, none⟩ x).heap[c]? = w.heap[c]? := by simp [World.setCell, Array.getElem?_modify, h]
theorem set_size {w : World} {b i : Nat} {x : Value} : (w.setCell ⟨b, i, none⟩ x).heap.size = w.heap.size := by simp [World.setCell]

theorem goes_nil (i : Nat) (A : List (Int × Int)) : goes i [] A = (true, A) := rfl
theorem goes_far {i : Nat} {A : List (Int × Int)} {s : Int × Int × Int} {l : List (Int × Int × Int)} (h : ¬ (i : Int) < s.1) : goes i (s :: l) A = (false, A) := by unfold goes; rw [if_neg h]
theorem goes_no {i : Nat} {A B : List (Int × Int)} {s : Int × Int × Int} {l : List (Int × Int × Int)} (h : (i : Int) < s.1) (hr : rch A s.1.toNat s.2 = (false, B)) : goes i (s :: l) A = (false, B) := by unfold goes; rw [if_pos h, hr]; simp
theorem goes_yes {i : Nat} {A B : List (Int × Int)} {s : Int × Int × Int} {l : List (Int × Int × Int)} (h : (i : Int) < s.1) (hr : rch A s.1.toNat s.2 = (true, B)) : goes i (s :: l) A = goes i l B := by
  show (if (i : Int) < s.1 then _ else _) = _
  rw [if_pos h, hr]; simp
theorem goes_one {i : Nat} {A : List (Int × Int)} {s : Int × Int × Int} (h : (i : Int) < s.1) : goes i [s] A = rch A s.1.toNat s.2 := by
  rcases hr : rch A s.1.toNat s.2 with ⟨b, B⟩
  cases b
  · exact goes_no h hr
  · rw [goes_yes h hr]; rfl
theorem reEnd {q : Nat} {w w' : World} {r R : Bool × List (Int × Int)} {b : Bool} (hF : r = R) (hb : R.1 = b) (ha : AtS w' q R.2) (hk : Kept (fun k => k = q) w w') : RePost q w r (.returned (.bool b)) w' := by
  subst hF hb; exact ⟨rfl, ha, hk⟩

set_option maxHeartbeats 600000 in
set_option maxRecDepth 100000 in
theorem goOn_ret (p q : Nat) (A : List (Int × Int)) (fs : List Fun) (globs caps d t : Int) (i : Nat) (n a : Int) (s : ByteArray) (w : World) (va vc : Value) (h : WkC w p va globs caps vc q A.length) (hq : AtS w q A) (hal : alw fs caps globs ⟨8, n, a, s⟩ d t = true) (hd1 : 1 ≤ d) (hd2 : d ≤ 1000000) :
    Calls Tryd.prog 48 #[.pointer (some ⟨p, 0, none⟩), .int .i64 (i : Int), .agg #[.int .u8 8, .int .i64 n, .int .i64 a, .string s], .agg #[.int .i64 d, .int .i64 t]] w (RePost q w (goes i (succ ⟨8, n, a, s⟩ i d t) A)) := by
  obtain ⟨hT0, hT1, hL0, hL1, -⟩ := alw_tk hal hd2 hd1
  clear hal
  have hb2 : Below w.heap.size w ((w.alloc (.cells #[.int .u8 8, .int .i64 n, .int .i64 a, .string s] 28)).alloc (.cells #[.int .i64 d, .int .i64 t] 103)) := ((Below.refl _ _).alloc (Nat.le_refl _) _).alloc (by simp) _
  have HE := Lib.hid (effect 8 n a s ((w.alloc (.cells #[.int .u8 8, .int .i64 n, .int .i64 a, .string s] 28)).alloc (.cells #[.int .i64 d, .int .i64 t] 103)))
  unfold EffPost at HE
  generalize hT : tk ⟨8, n, a, s⟩ = T at *
  generalize hL : lv ⟨8, n, a, s⟩ = L at *
  have HT := Lib.hid hT
  have HL := Lib.hid hL
  clear hT hL
  have hD1 : 0 ≤ d + (L - T) := by omega
  have hD2 : d + (L - T) ≤ 1000001 := by omega
  have HB := Lib.hid hb2
  have HQ := Lib.hid hq
  have HW := Lib.hid h
  have hqq := hq.lt
  have hp := h.lt
  clear h hq hb2
  go_enter Tryd.func48, Tryd.ntmps48
  go_wp2_with fail
  refine HE.out.mono ?_
  rintro e w1 ⟨rfl, hb1⟩
  have hbw := HB.out.trans (hb1.mono HB.out.size)
  obtain ⟨k1, k2⟩ := box2 hb1
  have hz1 := hbw.size
  have l2 := lt_of_block k2
  have c0 : w1.cell? ⟨w.heap.size, 0, none⟩ = some (.int .u8 8) := cellk k1 rfl
  have c1 : w1.cell? ⟨w.heap.size, 1, none⟩ = some (.int .i64 n) := cellk k1 rfl
  have d0 : w1.cell? ⟨w.heap.size + 1, 0, none⟩ = some (.int .i64 d) := cellk k2 rfl
  have d1 : w1.cell? ⟨w.heap.size + 1, 1, none⟩ = some (.int .i64 t) := cellk k2 rfl
  have f0 := free_of k2 0
  have f1 := free_of k2 1
  have k1' : (w1.setCell ⟨w.heap.size + 1, 0, none⟩ (.int .i64 (d + (L - T)))).heap[w.heap.size]? = _ := (set_other (by omega)).trans k1
  have k2' := set_two0 (x := .int .i64 (d + (L - T))) k2
  have hW1 : WkC (w1.setCell ⟨w.heap.size + 1, 0, none⟩ (.int .i64 (d + (L - T)))) p va globs caps vc q A.length := HW.out.kept ((set_other (by omega)).trans (hbw.block p hp))
  have hQ1 : AtS (w1.setCell ⟨w.heap.size + 1, 0, none⟩ (.int .i64 (d + (L - T)))) q A := ((set_other (by omega)).trans (hbw.block q hqq)).trans HQ.out
  have hK1 : Kept (fun k => k = q) w (w1.setCell ⟨w.heap.size + 1, 0, none⟩ (.int .i64 (d + (L - T)))) := (kept_of_below hbw).setCell (.inr (by simp)) _
  clear hb1 hbw HE HB HQ HW
  have HF := Lib.hid (rePost (q := q) (w := w) (r := goes i (succ ⟨8, n, a, s⟩ i d t) A) (b := true) (A := A) rfl hQ1 hK1)
  clear hQ1 hK1 hW1 k1 k2 k1' k2'
  go_wp2_with fail
  go_ret
  exact HF.out

set_option maxHeartbeats 600000 in
set_option maxRecDepth 100000 in
theorem goOn_fail (p q : Nat) (A : List (Int × Int)) (fs : List Fun) (globs caps d t : Int) (i : Nat) (n a : Int) (s : ByteArray) (w : World) (va vc : Value) (h : WkC w p va globs caps vc q A.length) (hq : AtS w q A) (hal : alw fs caps globs ⟨26, n, a, s⟩ d t = true) (hd1 : 1 ≤ d) (hd2 : d ≤ 1000000) :
    Calls Tryd.prog 48 #[.pointer (some ⟨p, 0, none⟩), .int .i64 (i : Int), .agg #[.int .u8 26, .int .i64 n, .int .i64 a, .string s], .agg #[.int .i64 d, .int .i64 t]] w (RePost q w (goes i (succ ⟨26, n, a, s⟩ i d t) A)) := by
  obtain ⟨hT0, hT1, hL0, hL1, -⟩ := alw_tk hal hd2 hd1
  clear hal
  have hb2 : Below w.heap.size w ((w.alloc (.cells #[.int .u8 26, .int .i64 n, .int .i64 a, .string s] 28)).alloc (.cells #[.int .i64 d, .int .i64 t] 103)) := ((Below.refl _ _).alloc (Nat.le_refl _) _).alloc (by simp) _
  have HE := Lib.hid (effect 26 n a s ((w.alloc (.cells #[.int .u8 26, .int .i64 n, .int .i64 a, .string s] 28)).alloc (.cells #[.int .i64 d, .int .i64 t] 103)))
  unfold EffPost at HE
  generalize hT : tk ⟨26, n, a, s⟩ = T at *
  generalize hL : lv ⟨26, n, a, s⟩ = L at *
  have HT := Lib.hid hT
  have HL := Lib.hid hL
  clear hT hL
  have hD1 : 0 ≤ d + (L - T) := by omega
  have hD2 : d + (L - T) ≤ 1000001 := by omega
  have HB := Lib.hid hb2
  have HQ := Lib.hid hq
  have HW := Lib.hid h
  have hqq := hq.lt
  have hp := h.lt
  clear h hq hb2
  go_enter Tryd.func48, Tryd.ntmps48
  go_wp2_with fail
  refine HE.out.mono ?_
  rintro e w1 ⟨rfl, hb1⟩
  have hbw := HB.out.trans (hb1.mono HB.out.size)
  obtain ⟨k1, k2⟩ := box2 hb1
  have hz1 := hbw.size
  have l2 := lt_of_block k2
  have c0 : w1.cell? ⟨w.heap.size, 0, none⟩ = some (.int .u8 26) := cellk k1 rfl
  have c1 : w1.cell? ⟨w.heap.size, 1, none⟩ = some (.int .i64 n) := cellk k1 rfl
  have d0 : w1.cell? ⟨w.heap.size + 1, 0, none⟩ = some (.int .i64 d) := cellk k2 rfl
  have d1 : w1.cell? ⟨w.heap.size + 1, 1, none⟩ = some (.int .i64 t) := cellk k2 rfl
  have f0 := free_of k2 0
  have f1 := free_of k2 1
  have k1' : (w1.setCell ⟨w.heap.size + 1, 0, none⟩ (.int .i64 (d + (L - T)))).heap[w.heap.size]? = _ := (set_other (by omega)).trans k1
  have k2' := set_two0 (x := .int .i64 (d + (L - T))) k2
  have hW1 : WkC (w1.setCell ⟨w.heap.size + 1, 0, none⟩ (.int .i64 (d + (L - T)))) p va globs caps vc q A.length := HW.out.kept ((set_other (by omega)).trans (hbw.block p hp))
  have hQ1 : AtS (w1.setCell ⟨w.heap.size + 1, 0, none⟩ (.int .i64 (d + (L - T)))) q A := ((set_other (by omega)).trans (hbw.block q hqq)).trans HQ.out
  have hK1 : Kept (fun k => k = q) w (w1.setCell ⟨w.heap.size + 1, 0, none⟩ (.int .i64 (d + (L - T)))) := (kept_of_below hbw).setCell (.inr (by simp)) _
  clear hb1 hbw HE HB HQ HW
  have HF := Lib.hid (rePost (q := q) (w := w) (r := goes i (succ ⟨26, n, a, s⟩ i d t) A) (b := true) (A := A) rfl hQ1 hK1)
  clear hQ1 hK1 hW1 k1 k2 k1' k2'
  go_wp2_with fail
  go_ret
  exact HF.out

set_option maxHeartbeats 600000 in
set_option maxRecDepth 100000 in
theorem goOn_other (p q : Nat) (A : List (Int × Int)) (fs : List Fun) (globs caps d t : Int) (i : Nat) (op : Nat) (n a : Int) (s : ByteArray) (w : World) (va vc : Value) (h : WkC w p va globs caps vc q A.length) (hq : AtS w q A) (hvc : ∃ o c, vc = .slice o A.length c) (hpq : p ≠ q) (hi : i < 1000000) (hal : alw fs caps globs ⟨op, n, a, s⟩ d t = true) (hd1 : 1 ≤ d) (hd2 : d ≤ 1000000) (e8 : op ≠ 8) (e26 : op ≠ 26) (e12 : op ≠ 12) (e13 : op ≠ 13) (e24 : op ≠ 24) (e25 : op ≠ 25) :
    Calls Tryd.prog 48 #[.pointer (some ⟨p, 0, none⟩), .int .i64 (i : Int), .agg #[.int .u8 (op : Int), .int .i64 n, .int .i64 a, .string s], .agg #[.int .i64 d, .int .i64 t]] w (RePost q w (goes i (succ ⟨op, n, a, s⟩ i d t) A)) := by
  have u8 : ((op : Int) == 8) = false := by rw [beq_eq_false_iff_ne]; omega
  have u26 : ((op : Int) == 26) = false := by rw [beq_eq_false_iff_ne]; omega
  have u12 : ((op : Int) == 12) = false := by rw [beq_eq_false_iff_ne]; omega
  have u13 : ((op : Int) == 13) = false := by rw [beq_eq_false_iff_ne]; omega
  have u24 : ((op : Int) == 24) = false := by rw [beq_eq_false_iff_ne]; omega
  have u25 : ((op : Int) == 25) = false := by rw [beq_eq_false_iff_ne]; omega
  obtain ⟨hT0, hT1, hL0, hL1, -⟩ := alw_tk hal hd2 hd1
  clear hal
  have hb2 : Below w.heap.size w ((w.alloc (.cells #[.int .u8 (op : Int), .int .i64 n, .int .i64 a, .string s] 28)).alloc (.cells #[.int .i64 d, .int .i64 t] 103)) := ((Below.refl _ _).alloc (Nat.le_refl _) _).alloc (by simp) _
  have HE := Lib.hid (effect op n a s ((w.alloc (.cells #[.int .u8 (op : Int), .int .i64 n, .int .i64 a, .string s] 28)).alloc (.cells #[.int .i64 d, .int .i64 t] 103)))
  unfold EffPost at HE
  generalize hT : tk ⟨op, n, a, s⟩ = T at *
  generalize hL : lv ⟨op, n, a, s⟩ = L at *
  have HT := Lib.hid hT
  have HL := Lib.hid hL
  clear hT hL
  have hD1 : 0 ≤ d + (L - T) := by omega
  have hD2 : d + (L - T) ≤ 1000001 := by omega
  have HB := Lib.hid hb2
  have HQ := Lib.hid hq
  have HW := Lib.hid h
  have hqq := hq.lt
  have hp := h.lt
  clear h hq hb2
  go_enter Tryd.func48, Tryd.ntmps48
  go_wp2_with fail
  refine HE.out.mono ?_
  rintro e w1 ⟨rfl, hb1⟩
  have hbw := HB.out.trans (hb1.mono HB.out.size)
  obtain ⟨k1, k2⟩ := box2 hb1
  have hz1 := hbw.size
  have l2 := lt_of_block k2
  have c0 : w1.cell? ⟨w.heap.size, 0, none⟩ = some (.int .u8 (op : Int)) := cellk k1 rfl
  have c1 : w1.cell? ⟨w.heap.size, 1, none⟩ = some (.int .i64 n) := cellk k1 rfl
  have d0 : w1.cell? ⟨w.heap.size + 1, 0, none⟩ = some (.int .i64 d) := cellk k2 rfl
  have d1 : w1.cell? ⟨w.heap.size + 1, 1, none⟩ = some (.int .i64 t) := cellk k2 rfl
  have f0 := free_of k2 0
  have f1 := free_of k2 1
  have k1' : (w1.setCell ⟨w.heap.size + 1, 0, none⟩ (.int .i64 (d + (L - T)))).heap[w.heap.size]? = _ := (set_other (by omega)).trans k1
  have k2' := set_two0 (x := .int .i64 (d + (L - T))) k2
  have hW1 : WkC (w1.setCell ⟨w.heap.size + 1, 0, none⟩ (.int .i64 (d + (L - T)))) p va globs caps vc q A.length := HW.out.kept ((set_other (by omega)).trans (hbw.block p hp))
  have hQ1 : AtS (w1.setCell ⟨w.heap.size + 1, 0, none⟩ (.int .i64 (d + (L - T)))) q A := ((set_other (by omega)).trans (hbw.block q hqq)).trans HQ.out
  have hK1 : Kept (fun k => k = q) w (w1.setCell ⟨w.heap.size + 1, 0, none⟩ (.int .i64 (d + (L - T)))) := (kept_of_below hbw).setCell (.inr (by simp)) _
  clear hb1 hbw HE HB HQ HW
  have hr0 := reach_any p q A globs caps (d + (L - T)) (t) ((i : Int) + 1) _ va vc hW1 hQ1 hvc hpq (by omega)
  rw [show ((i : Int) + 1).toNat = i + 1 by omega] at hr0
  generalize hR : rch A (i + 1) (d + (L - T), t) = R at hr0
  have HR := Lib.hid hr0
  have HF : Hid (goes i (succ ⟨op, n, a, s⟩ i d t) A = R) := by
    have e : succ ⟨op, n, a, s⟩ i d t = [((i : Int) + 1, d + (L - T), t)] := by
      rw [← HT.out, ← HL.out]
      unfold succ
      rw [if_neg (by rintro (h | h); exact e8 h; exact e26 h), if_neg e12, if_neg e13, if_neg e24, if_neg e25]
    show _ = _
    rw [e, goes_one (by simp only []; omega), ← hR]
    simp only []
    rw [show ((i : Int) + 1).toNat = i + 1 by omega]
  have HK := Lib.hid hK1
  clear hQ1 hK1 hW1 k1 k2 k2' e8 e26 e12 e13 e24 e25 hr0 hR
  go_wp2_with fail
  refine HR.out.mono ?_
  rintro e w2 ⟨rfl, ha, hk⟩
  have HA := Lib.hid ha
  have HK2 := Lib.hid hk
  clear ha hk
  go_wp2_with fail
  go_ret
  exact reEnd HF.out rfl HA.out (HK.out.trans HK2.out)

set_option maxHeartbeats 600000 in
set_option maxRecDepth 100000 in
theorem goOn_12_no (p q : Nat) (A : List (Int × Int)) (fs : List Fun) (globs caps d t : Int) (i : Nat) (n a : Int) (s : ByteArray) (w : World) (va vc : Value) (h : WkC w p va globs caps vc q A.length) (hq : AtS w q A) (hal : alw fs caps globs ⟨12, n, a, s⟩ d t = true) (hd1 : 1 ≤ d) (hd2 : d ≤ 1000000) (hn : n ≤ (i : Int)) :
    Calls Tryd.prog 48 #[.pointer (some ⟨p, 0, none⟩), .int .i64 (i : Int), .agg #[.int .u8 12, .int .i64 n, .int .i64 a, .string s], .agg #[.int .i64 d, .int .i64 t]] w (RePost q w (goes i (succ ⟨12, n, a, s⟩ i d t) A)) := by
  have un : decide ((i : Int) < n) = false := by simp; omega
  obtain ⟨hT0, hT1, hL0, hL1, -⟩ := alw_tk hal hd2 hd1
  clear hal
  have hb2 : Below w.heap.size w ((w.alloc (.cells #[.int .u8 12, .int .i64 n, .int .i64 a, .string s] 28)).alloc (.cells #[.int .i64 d, .int .i64 t] 103)) := ((Below.refl _ _).alloc (Nat.le_refl _) _).alloc (by simp) _
  have HE := Lib.hid (effect 12 n a s ((w.alloc (.cells #[.int .u8 12, .int .i64 n, .int .i64 a, .string s] 28)).alloc (.cells #[.int .i64 d, .int .i64 t] 103)))
  unfold EffPost at HE
  generalize hT : tk ⟨12, n, a, s⟩ = T at *
  generalize hL : lv ⟨12, n, a, s⟩ = L at *
  have HT := Lib.hid hT
  have HL := Lib.hid hL
  clear hT hL
  have hD1 : 0 ≤ d + (L - T) := by omega
  have hD2 : d + (L - T) ≤ 1000001 := by omega
  have HB := Lib.hid hb2
  have HQ := Lib.hid hq
  have HW := Lib.hid h
  have hqq := hq.lt
  have hp := h.lt
  clear h hq hb2
  go_enter Tryd.func48, Tryd.ntmps48
  go_wp2_with fail
  refine HE.out.mono ?_
  rintro e w1 ⟨rfl, hb1⟩
  have hbw := HB.out.trans (hb1.mono HB.out.size)
  obtain ⟨k1, k2⟩ := box2 hb1
  have hz1 := hbw.size
  have l2 := lt_of_block k2
  have c0 : w1.cell? ⟨w.heap.size, 0, none⟩ = some (.int .u8 12) := cellk k1 rfl
  have c1 : w1.cell? ⟨w.heap.size, 1, none⟩ = some (.int .i64 n) := cellk k1 rfl
  have d0 : w1.cell? ⟨w.heap.size + 1, 0, none⟩ = some (.int .i64 d) := cellk k2 rfl
  have d1 : w1.cell? ⟨w.heap.size + 1, 1, none⟩ = some (.int .i64 t) := cellk k2 rfl
  have f0 := free_of k2 0
  have f1 := free_of k2 1
  have k1' : (w1.setCell ⟨w.heap.size + 1, 0, none⟩ (.int .i64 (d + (L - T)))).heap[w.heap.size]? = _ := (set_other (by omega)).trans k1
  have k2' := set_two0 (x := .int .i64 (d + (L - T))) k2
  have hW1 : WkC (w1.setCell ⟨w.heap.size + 1, 0, none⟩ (.int .i64 (d + (L - T)))) p va globs caps vc q A.length := HW.out.kept ((set_other (by omega)).trans (hbw.block p hp))
  have hQ1 : AtS (w1.setCell ⟨w.heap.size + 1, 0, none⟩ (.int .i64 (d + (L - T)))) q A := ((set_other (by omega)).trans (hbw.block q hqq)).trans HQ.out
  have hK1 : Kept (fun k => k = q) w (w1.setCell ⟨w.heap.size + 1, 0, none⟩ (.int .i64 (d + (L - T)))) := (kept_of_below hbw).setCell (.inr (by simp)) _
  clear hb1 hbw HE HB HQ HW
  have HF := Lib.hid (rePost (q := q) (w := w) (r := goes i (succ ⟨12, n, a, s⟩ i d t) A) (b := false) (A := A) (by simp only [succ]; exact goes_far (by simpa using hn)) hQ1 hK1)
  clear hQ1 hK1 hW1 k1 k2 k1' k2'
  go_wp2_with fail
  go_ret
  exact HF.out

set_option maxHeartbeats 600000 in
set_option maxRecDepth 100000 in
theorem goOn_13_no (p q : Nat) (A : List (Int × Int)) (fs : List Fun) (globs caps d t : Int) (i : Nat) (n a : Int) (s : ByteArray) (w : World) (va vc : Value) (h : WkC w p va globs caps vc q A.length) (hq : AtS w q A) (hal : alw fs caps globs ⟨13, n, a, s⟩ d t = true) (hd1 : 1 ≤ d) (hd2 : d ≤ 1000000) (hn : n ≤ (i : Int)) :
    Calls Tryd.prog 48 #[.pointer (some ⟨p, 0, none⟩), .int .i64 (i : Int), .agg #[.int .u8 13, .int .i64 n, .int .i64 a, .string s], .agg #[.int .i64 d, .int .i64 t]] w (RePost q w (goes i (succ ⟨13, n, a, s⟩ i d t) A)) := by
  have un : decide ((i : Int) < n) = false := by simp; omega
  obtain ⟨hT0, hT1, hL0, hL1, -⟩ := alw_tk hal hd2 hd1
  clear hal
  have hb2 : Below w.heap.size w ((w.alloc (.cells #[.int .u8 13, .int .i64 n, .int .i64 a, .string s] 28)).alloc (.cells #[.int .i64 d, .int .i64 t] 103)) := ((Below.refl _ _).alloc (Nat.le_refl _) _).alloc (by simp) _
  have HE := Lib.hid (effect 13 n a s ((w.alloc (.cells #[.int .u8 13, .int .i64 n, .int .i64 a, .string s] 28)).alloc (.cells #[.int .i64 d, .int .i64 t] 103)))
  unfold EffPost at HE
  generalize hT : tk ⟨13, n, a, s⟩ = T at *
  generalize hL : lv ⟨13, n, a, s⟩ = L at *
  have HT := Lib.hid hT
  have HL := Lib.hid hL
  clear hT hL
  have hD1 : 0 ≤ d + (L - T) := by omega
  have hD2 : d + (L - T) ≤ 1000001 := by omega
  have HB := Lib.hid hb2
  have HQ := Lib.hid hq
  have HW := Lib.hid h
  have hqq := hq.lt
  have hp := h.lt
  clear h hq hb2
  go_enter Tryd.func48, Tryd.ntmps48
  go_wp2_with fail
  refine HE.out.mono ?_
  rintro e w1 ⟨rfl, hb1⟩
  have hbw := HB.out.trans (hb1.mono HB.out.size)
  obtain ⟨k1, k2⟩ := box2 hb1
  have hz1 := hbw.size
  have l2 := lt_of_block k2
  have c0 : w1.cell? ⟨w.heap.size, 0, none⟩ = some (.int .u8 13) := cellk k1 rfl
  have c1 : w1.cell? ⟨w.heap.size, 1, none⟩ = some (.int .i64 n) := cellk k1 rfl
  have d0 : w1.cell? ⟨w.heap.size + 1, 0, none⟩ = some (.int .i64 d) := cellk k2 rfl
  have d1 : w1.cell? ⟨w.heap.size + 1, 1, none⟩ = some (.int .i64 t) := cellk k2 rfl
  have f0 := free_of k2 0
  have f1 := free_of k2 1
  have k1' : (w1.setCell ⟨w.heap.size + 1, 0, none⟩ (.int .i64 (d + (L - T)))).heap[w.heap.size]? = _ := (set_other (by omega)).trans k1
  have k2' := set_two0 (x := .int .i64 (d + (L - T))) k2
  have hW1 : WkC (w1.setCell ⟨w.heap.size + 1, 0, none⟩ (.int .i64 (d + (L - T)))) p va globs caps vc q A.length := HW.out.kept ((set_other (by omega)).trans (hbw.block p hp))
  have hQ1 : AtS (w1.setCell ⟨w.heap.size + 1, 0, none⟩ (.int .i64 (d + (L - T)))) q A := ((set_other (by omega)).trans (hbw.block q hqq)).trans HQ.out
  have hK1 : Kept (fun k => k = q) w (w1.setCell ⟨w.heap.size + 1, 0, none⟩ (.int .i64 (d + (L - T)))) := (kept_of_below hbw).setCell (.inr (by simp)) _
  clear hb1 hbw HE HB HQ HW
  have HF := Lib.hid (rePost (q := q) (w := w) (r := goes i (succ ⟨13, n, a, s⟩ i d t) A) (b := false) (A := A) (by simp only [succ]; exact goes_far (by simpa using hn)) hQ1 hK1)
  clear hQ1 hK1 hW1 k1 k2 k1' k2'
  go_wp2_with fail
  go_ret
  exact HF.out

set_option maxHeartbeats 600000 in
set_option maxRecDepth 100000 in
theorem goOn_24_no (p q : Nat) (A : List (Int × Int)) (fs : List Fun) (globs caps d t : Int) (i : Nat) (n a : Int) (s : ByteArray) (w : World) (va vc : Value) (h : WkC w p va globs caps vc q A.length) (hq : AtS w q A) (hal : alw fs caps globs ⟨24, n, a, s⟩ d t = true) (hd1 : 1 ≤ d) (hd2 : d ≤ 1000000) (hn : n ≤ (i : Int)) :
    Calls Tryd.prog 48 #[.pointer (some ⟨p, 0, none⟩), .int .i64 (i : Int), .agg #[.int .u8 24, .int .i64 n, .int .i64 a, .string s], .agg #[.int .i64 d, .int .i64 t]] w (RePost q w (goes i (succ ⟨24, n, a, s⟩ i d t) A)) := by
  have un : decide ((i : Int) < n) = false := by simp; omega
  obtain ⟨hT0, hT1, hL0, hL1, -⟩ := alw_tk hal hd2 hd1
  clear hal
  have hb2 : Below w.heap.size w ((w.alloc (.cells #[.int .u8 24, .int .i64 n, .int .i64 a, .string s] 28)).alloc (.cells #[.int .i64 d, .int .i64 t] 103)) := ((Below.refl _ _).alloc (Nat.le_refl _) _).alloc (by simp) _
  have HE := Lib.hid (effect 24 n a s ((w.alloc (.cells #[.int .u8 24, .int .i64 n, .int .i64 a, .string s] 28)).alloc (.cells #[.int .i64 d, .int .i64 t] 103)))
  unfold EffPost at HE
  generalize hT : tk ⟨24, n, a, s⟩ = T at *
  generalize hL : lv ⟨24, n, a, s⟩ = L at *
  have HT := Lib.hid hT
  have HL := Lib.hid hL
  clear hT hL
  have hD1 : 0 ≤ d + (L - T) := by omega
  have hD2 : d + (L - T) ≤ 1000001 := by omega
  have HB := Lib.hid hb2
  have HQ := Lib.hid hq
  have HW := Lib.hid h
  have hqq := hq.lt
  have hp := h.lt
  clear h hq hb2
  go_enter Tryd.func48, Tryd.ntmps48
  go_wp2_with fail
  refine HE.out.mono ?_
  rintro e w1 ⟨rfl, hb1⟩
  have hbw := HB.out.trans (hb1.mono HB.out.size)
  obtain ⟨k1, k2⟩ := box2 hb1
  have hz1 := hbw.size
  have l2 := lt_of_block k2
  have c0 : w1.cell? ⟨w.heap.size, 0, none⟩ = some (.int .u8 24) := cellk k1 rfl
  have c1 : w1.cell? ⟨w.heap.size, 1, none⟩ = some (.int .i64 n) := cellk k1 rfl
  have d0 : w1.cell? ⟨w.heap.size + 1, 0, none⟩ = some (.int .i64 d) := cellk k2 rfl
  have d1 : w1.cell? ⟨w.heap.size + 1, 1, none⟩ = some (.int .i64 t) := cellk k2 rfl
  have f0 := free_of k2 0
  have f1 := free_of k2 1
  have k1' : (w1.setCell ⟨w.heap.size + 1, 0, none⟩ (.int .i64 (d + (L - T)))).heap[w.heap.size]? = _ := (set_other (by omega)).trans k1
  have k2' := set_two0 (x := .int .i64 (d + (L - T))) k2
  have hW1 : WkC (w1.setCell ⟨w.heap.size + 1, 0, none⟩ (.int .i64 (d + (L - T)))) p va globs caps vc q A.length := HW.out.kept ((set_other (by omega)).trans (hbw.block p hp))
  have hQ1 : AtS (w1.setCell ⟨w.heap.size + 1, 0, none⟩ (.int .i64 (d + (L - T)))) q A := ((set_other (by omega)).trans (hbw.block q hqq)).trans HQ.out
  have hK1 : Kept (fun k => k = q) w (w1.setCell ⟨w.heap.size + 1, 0, none⟩ (.int .i64 (d + (L - T)))) := (kept_of_below hbw).setCell (.inr (by simp)) _
  clear hb1 hbw HE HB HQ HW
  have HF := Lib.hid (rePost (q := q) (w := w) (r := goes i (succ ⟨24, n, a, s⟩ i d t) A) (b := false) (A := A) (by simp only [succ]; exact goes_far (by simpa using hn)) hQ1 hK1)
  clear hQ1 hK1 hW1 k1 k2 k1' k2'
  go_wp2_with fail
  go_ret
  exact HF.out

set_option maxHeartbeats 600000 in
set_option maxRecDepth 100000 in
theorem goOn_12 (p q : Nat) (A : List (Int × Int)) (fs : List Fun) (globs caps d t : Int) (i : Nat) (n a : Int) (s : ByteArray) (w : World) (va vc : Value) (h : WkC w p va globs caps vc q A.length) (hq : AtS w q A) (hvc : ∃ o c, vc = .slice o A.length c) (hpq : p ≠ q) (hal : alw fs caps globs ⟨12, n, a, s⟩ d t = true) (hd1 : 1 ≤ d) (hd2 : d ≤ 1000000) (hn : (i : Int) < n) (N : Nat) (hN : n = (N : Int)) :
    Calls Tryd.prog 48 #[.pointer (some ⟨p, 0, none⟩), .int .i64 (i : Int), .agg #[.int .u8 12, .int .i64 n, .int .i64 a, .string s], .agg #[.int .i64 d, .int .i64 t]] w (RePost q w (goes i (succ ⟨12, n, a, s⟩ i d t) A)) := by
  subst hN
  have un2 : decide (i < N) = true := by simp; omega
  obtain ⟨hT0, hT1, hL0, hL1, -⟩ := alw_tk hal hd2 hd1
  clear hal
  have hb2 : Below w.heap.size w ((w.alloc (.cells #[.int .u8 12, .int .i64 (N : Int), .int .i64 a, .string s] 28)).alloc (.cells #[.int .i64 d, .int .i64 t] 103)) := ((Below.refl _ _).alloc (Nat.le_refl _) _).alloc (by simp) _
  have HE := Lib.hid (effect 12 (N : Int) a s ((w.alloc (.cells #[.int .u8 12, .int .i64 (N : Int), .int .i64 a, .string s] 28)).alloc (.cells #[.int .i64 d, .int .i64 t] 103)))
  unfold EffPost at HE
  generalize hT : tk ⟨12, (N : Int), a, s⟩ = T at *
  generalize hL : lv ⟨12, (N : Int), a, s⟩ = L at *
  have HT := Lib.hid hT
  have HL := Lib.hid hL
  clear hT hL
  have hD1 : 0 ≤ d + (L - T) := by omega
  have hD2 : d + (L - T) ≤ 1000001 := by omega
  have HB := Lib.hid hb2
  have HQ := Lib.hid hq
  have HW := Lib.hid h
  have hqq := hq.lt
  have hp := h.lt
  clear h hq hb2
  go_enter Tryd.func48, Tryd.ntmps48
  go_wp2_with fail
  refine HE.out.mono ?_
  rintro e w1 ⟨rfl, hb1⟩
  have hbw := HB.out.trans (hb1.mono HB.out.size)
  obtain ⟨k1, k2⟩ := box2 hb1
  have hz1 := hbw.size
  have l2 := lt_of_block k2
  have c0 : w1.cell? ⟨w.heap.size, 0, none⟩ = some (.int .u8 12) := cellk k1 rfl
  have c1 : w1.cell? ⟨w.heap.size, 1, none⟩ = some (.int .i64 (N : Int)) := cellk k1 rfl
  have d0 : w1.cell? ⟨w.heap.size + 1, 0, none⟩ = some (.int .i64 d) := cellk k2 rfl
  have d1 : w1.cell? ⟨w.heap.size + 1, 1, none⟩ = some (.int .i64 t) := cellk k2 rfl
  have f0 := free_of k2 0
  have f1 := free_of k2 1
  have k1' : (w1.setCell ⟨w.heap.size + 1, 0, none⟩ (.int .i64 (d + (L - T)))).heap[w.heap.size]? = _ := (set_other (by omega)).trans k1
  have k2' := set_two0 (x := .int .i64 (d + (L - T))) k2
  have hW1 : WkC (w1.setCell ⟨w.heap.size + 1, 0, none⟩ (.int .i64 (d + (L - T)))) p va globs caps vc q A.length := HW.out.kept ((set_other (by omega)).trans (hbw.block p hp))
  have hQ1 : AtS (w1.setCell ⟨w.heap.size + 1, 0, none⟩ (.int .i64 (d + (L - T)))) q A := ((set_other (by omega)).trans (hbw.block q hqq)).trans HQ.out
  have hK1 : Kept (fun k => k = q) w (w1.setCell ⟨w.heap.size + 1, 0, none⟩ (.int .i64 (d + (L - T)))) := (kept_of_below hbw).setCell (.inr (by simp)) _
  clear hb1 hbw HE HB HQ HW
  have hr0 := reach_any p q A globs caps (d + (L - T)) (t) ((N : Int)) _ va vc hW1 hQ1 hvc hpq (by omega)
  rw [show ((N : Int)).toNat = N by omega] at hr0
  generalize hR : rch A N (d + (L - T), t) = R at hr0
  have HR := Lib.hid hr0
  have HF : Hid (goes i (succ ⟨12, (N : Int), a, s⟩ i d t) A = R) := by
    have e : d + (L - T) = d := by rw [← HT.out, ← HL.out]; simp [tk, lv]
    rw [e] at hR
    show goes i [((N : Int), d, t)] A = R
    rw [goes_one hn, ← hR]
    rfl
  have HK := Lib.hid hK1
  clear hQ1 hK1 hW1 k1 k2 k2' hr0 hR
  go_wp2_with fail
  refine HR.out.mono ?_
  rintro e w2 ⟨rfl, ha, hk⟩
  have HA := Lib.hid ha
  have HK2 := Lib.hid hk
  clear ha hk
  go_wp2_with fail
  go_ret
  exact reEnd HF.out rfl HA.out (HK.out.trans HK2.out)

set_option maxHeartbeats 600000 in
set_option maxRecDepth 100000 in
theorem goOn_13 (p q : Nat) (A : List (Int × Int)) (fs : List Fun) (globs caps d t : Int) (i : Nat) (n a : Int) (s : ByteArray) (w : World) (va vc : Value) (h : WkC w p va globs caps vc q A.length) (hq : AtS w q A) (hvc : ∃ o c, vc = .slice o A.length c) (hpq : p ≠ q) (hi : i < 1000000) (hal : alw fs caps globs ⟨13, n, a, s⟩ d t = true) (hd1 : 1 ≤ d) (hd2 : d ≤ 1000000) (hn : (i : Int) < n) (N : Nat) (hN : n = (N : Int)) :
    Calls Tryd.prog 48 #[.pointer (some ⟨p, 0, none⟩), .int .i64 (i : Int), .agg #[.int .u8 13, .int .i64 n, .int .i64 a, .string s], .agg #[.int .i64 d, .int .i64 t]] w (RePost q w (goes i (succ ⟨13, n, a, s⟩ i d t) A)) := by
  subst hN
  have un2 : decide (i < N) = true := by simp; omega
  obtain ⟨hT0, hT1, hL0, hL1, -⟩ := alw_tk hal hd2 hd1
  clear hal
  have hb2 : Below w.heap.size w ((w.alloc (.cells #[.int .u8 13, .int .i64 (N : Int), .int .i64 a, .string s] 28)).alloc (.cells #[.int .i64 d, .int .i64 t] 103)) := ((Below.refl _ _).alloc (Nat.le_refl _) _).alloc (by simp) _
  have HE := Lib.hid (effect 13 (N : Int) a s ((w.alloc (.cells #[.int .u8 13, .int .i64 (N : Int), .int .i64 a, .string s] 28)).alloc (.cells #[.int .i64 d, .int .i64 t] 103)))
  unfold EffPost at HE
  generalize hT : tk ⟨13, (N : Int), a, s⟩ = T at *
  generalize hL : lv ⟨13, (N : Int), a, s⟩ = L at *
  have HT := Lib.hid hT
  have HL := Lib.hid hL
  clear hT hL
  have hD1 : 0 ≤ d + (L - T) := by omega
  have hD2 : d + (L - T) ≤ 1000001 := by omega
  have HB := Lib.hid hb2
  have HQ := Lib.hid hq
  have HW := Lib.hid h
  have hqq := hq.lt
  have hp := h.lt
  clear h hq hb2
  go_enter Tryd.func48, Tryd.ntmps48
  go_wp2_with fail
  refine HE.out.mono ?_
  rintro e w1 ⟨rfl, hb1⟩
  have hbw := HB.out.trans (hb1.mono HB.out.size)
  obtain ⟨k1, k2⟩ := box2 hb1
  have hz1 := hbw.size
  have l2 := lt_of_block k2
  have c0 : w1.cell? ⟨w.heap.size, 0, none⟩ = some (.int .u8 13) := cellk k1 rfl
  have c1 : w1.cell? ⟨w.heap.size, 1, none⟩ = some (.int .i64 (N : Int)) := cellk k1 rfl
  have d0 : w1.cell? ⟨w.heap.size + 1, 0, none⟩ = some (.int .i64 d) := cellk k2 rfl
  have d1 : w1.cell? ⟨w.heap.size + 1, 1, none⟩ = some (.int .i64 t) := cellk k2 rfl
  have f0 := free_of k2 0
  have f1 := free_of k2 1
  have k1' : (w1.setCell ⟨w.heap.size + 1, 0, none⟩ (.int .i64 (d + (L - T)))).heap[w.heap.size]? = _ := (set_other (by omega)).trans k1
  have k2' := set_two0 (x := .int .i64 (d + (L - T))) k2
  have hW1 : WkC (w1.setCell ⟨w.heap.size + 1, 0, none⟩ (.int .i64 (d + (L - T)))) p va globs caps vc q A.length := HW.out.kept ((set_other (by omega)).trans (hbw.block p hp))
  have hQ1 : AtS (w1.setCell ⟨w.heap.size + 1, 0, none⟩ (.int .i64 (d + (L - T)))) q A := ((set_other (by omega)).trans (hbw.block q hqq)).trans HQ.out
  have hK1 : Kept (fun k => k = q) w (w1.setCell ⟨w.heap.size + 1, 0, none⟩ (.int .i64 (d + (L - T)))) := (kept_of_below hbw).setCell (.inr (by simp)) _
  clear hb1 hbw HE HB HQ HW
  have hr0 := reach_any p q A globs caps (d + (L - T)) (t) ((N : Int)) _ va vc hW1 hQ1 hvc hpq (by omega)
  rw [show ((N : Int)).toNat = N by omega] at hr0
  have hlen := rch_length A N (d + (L - T), t)
  have eT : (1 : Int) = T := HT.out
  have eL : (0 : Int) = L := HL.out
  generalize hR : rch A N (d + (L - T), t) = R at hr0 hlen
  obtain ⟨b, A1⟩ := R
  have HW1 := Lib.hid hW1
  have HK := Lib.hid hK1
  have HLEN := Lib.hid hlen
  have HK1 := Lib.hid k1'
  have HK2 := Lib.hid k2'
  have hS : Hid (succ ⟨13, (N : Int), a, s⟩ i d t = [((N : Int), d + (L - T), t), ((i : Int) + 1, d + (L - T), t)]) := by
    show [((N : Int), d - 1, t), ((i : Int) + 1, d - 1, t)] = _
    rw [show d + (L - T) = d + (L - T) from rfl]
    simp only [List.cons.injEq, Prod.mk.injEq, and_true, true_and]
    omega
  have HR := Lib.hid hr0
  have HRE := Lib.hid hR
  clear hQ1 hK1 hW1 k1 k2 k1' k2' hr0 hR hlen eT eL
  rcases b with _ | _
  · go_wp2_with fail
    refine HR.out.mono ?_
    rintro e w2 ⟨rfl, ha, hk⟩
    have HA := Lib.hid ha
    have HKK := Lib.hid hk
    clear ha hk
    go_wp2_with fail
    go_ret
    exact reEnd (R := (false, A1)) (by rw [hS.out]; exact goes_no hn HRE.out) rfl HA.out (HK.out.trans HKK.out)
  · go_wp2_with fail
    refine HR.out.mono ?_
    rintro e w2 ⟨rfl, ha, hk⟩
    have g1 := (hk.block w.heap.size (by rw [set_size]; omega) (by omega)).trans HK1.out
    have g2 := (hk.block (w.heap.size + 1) (by rw [set_size]; omega) (by omega)).trans HK2.out
    have hk2 := hk.size
    rw [set_size] at hk2
    have q0 : w2.cell? ⟨w.heap.size, 1, none⟩ = some (.int .i64 (N : Int)) := cellk g1 rfl
    have q1 : w2.cell? ⟨w.heap.size + 1, 0, none⟩ = some (.int .i64 (d + (L - T))) := cellk g2 rfl
    have q2 : w2.cell? ⟨w.heap.size + 1, 1, none⟩ = some (.int .i64 t) := cellk g2 rfl
    have hW2 := HW1.out.kept (hk.block p HW1.out.lt hpq)
    rw [← HLEN.out] at hW2
    have hr0 := reach_any p q A1 globs caps (d + (L - T)) (t) ((i : Int) + 1) _ va vc hW2 ha (by rw [HLEN.out]; exact hvc) hpq (by omega)
    rw [show ((i : Int) + 1).toNat = i + 1 by omega] at hr0
    generalize hR : rch A1 (i + 1) (d + (L - T), t) = R at hr0
    have HR2 := Lib.hid hr0
    have HRE2 := Lib.hid hR
    have HKK := Lib.hid (HK.out.trans hk)
    clear ha hk g1 g2 hW2 hr0 hR c0 c1 d0 d1 f0 f1
    go_wp2_with fail
    refine HR2.out.mono ?_
    rintro e w3 ⟨rfl, ha, hk⟩
    have HA := Lib.hid ha
    have HK3 := Lib.hid hk
    clear ha hk
    go_wp2_with fail
    go_ret
    exact reEnd (by rw [hS.out, goes_yes hn HRE.out, goes_one (by simp only []; omega), ← HRE2.out]; simp only []; rw [show ((i : Int) + 1).toNat = i + 1 by omega]) rfl HA.out (HKK.out.trans HK3.out)

set_option maxHeartbeats 600000 in
set_option maxRecDepth 100000 in
theorem goOn_24 (p q : Nat) (A : List (Int × Int)) (fs : List Fun) (globs caps d t : Int) (i : Nat) (n a : Int) (s : ByteArray) (w : World) (va vc : Value) (h : WkC w p va globs caps vc q A.length) (hq : AtS w q A) (hvc : ∃ o c, vc = .slice o A.length c) (hpq : p ≠ q) (hi : i < 1000000) (hal : alw fs caps globs ⟨24, n, a, s⟩ d t = true) (hd1 : 1 ≤ d) (hd2 : d ≤ 1000000) (ht1 : 0 ≤ t) (ht2 : t ≤ 1000000) (hn : (i : Int) < n) (N : Nat) (hN : n = (N : Int)) :
    Calls Tryd.prog 48 #[.pointer (some ⟨p, 0, none⟩), .int .i64 (i : Int), .agg #[.int .u8 24, .int .i64 n, .int .i64 a, .string s], .agg #[.int .i64 d, .int .i64 t]] w (RePost q w (goes i (succ ⟨24, n, a, s⟩ i d t) A)) := by
  subst hN
  have un2 : decide (i < N) = true := by simp; omega
  obtain ⟨hT0, hT1, hL0, hL1, -⟩ := alw_tk hal hd2 hd1
  clear hal
  have hb2 : Below w.heap.size w ((w.alloc (.cells #[.int .u8 24, .int .i64 (N : Int), .int .i64 a, .string s] 28)).alloc (.cells #[.int .i64 d, .int .i64 t] 103)) := ((Below.refl _ _).alloc (Nat.le_refl _) _).alloc (by simp) _
  have HE := Lib.hid (effect 24 (N : Int) a s ((w.alloc (.cells #[.int .u8 24, .int .i64 (N : Int), .int .i64 a, .string s] 28)).alloc (.cells #[.int .i64 d, .int .i64 t] 103)))
  unfold EffPost at HE
  generalize hT : tk ⟨24, (N : Int), a, s⟩ = T at *
  generalize hL : lv ⟨24, (N : Int), a, s⟩ = L at *
  have HT := Lib.hid hT
  have HL := Lib.hid hL
  clear hT hL
  have hD1 : 0 ≤ d + (L - T) := by omega
  have hD2 : d + (L - T) ≤ 1000001 := by omega
  have HB := Lib.hid hb2
  have HQ := Lib.hid hq
  have HW := Lib.hid h
  have hqq := hq.lt
  have hp := h.lt
  clear h hq hb2
  go_enter Tryd.func48, Tryd.ntmps48
  go_wp2_with fail
  refine HE.out.mono ?_
  rintro e w1 ⟨rfl, hb1⟩
  have hbw := HB.out.trans (hb1.mono HB.out.size)
  obtain ⟨k1, k2⟩ := box2 hb1
  have hz1 := hbw.size
  have l2 := lt_of_block k2
  have c0 : w1.cell? ⟨w.heap.size, 0, none⟩ = some (.int .u8 24) := cellk k1 rfl
  have c1 : w1.cell? ⟨w.heap.size, 1, none⟩ = some (.int .i64 (N : Int)) := cellk k1 rfl
  have d0 : w1.cell? ⟨w.heap.size + 1, 0, none⟩ = some (.int .i64 d) := cellk k2 rfl
  have d1 : w1.cell? ⟨w.heap.size + 1, 1, none⟩ = some (.int .i64 t) := cellk k2 rfl
  have f0 := free_of k2 0
  have f1 := free_of k2 1
  have k1' : (w1.setCell ⟨w.heap.size + 1, 0, none⟩ (.int .i64 (d + (L - T)))).heap[w.heap.size]? = _ := (set_other (by omega)).trans k1
  have k2' := set_two0 (x := .int .i64 (d + (L - T))) k2
  have hW1 : WkC (w1.setCell ⟨w.heap.size + 1, 0, none⟩ (.int .i64 (d + (L - T)))) p va globs caps vc q A.length := HW.out.kept ((set_other (by omega)).trans (hbw.block p hp))
  have hQ1 : AtS (w1.setCell ⟨w.heap.size + 1, 0, none⟩ (.int .i64 (d + (L - T)))) q A := ((set_other (by omega)).trans (hbw.block q hqq)).trans HQ.out
  have hK1 : Kept (fun k => k = q) w (w1.setCell ⟨w.heap.size + 1, 0, none⟩ (.int .i64 (d + (L - T)))) := (kept_of_below hbw).setCell (.inr (by simp)) _
  clear hb1 hbw HE HB HQ HW
  have hr0 := reach_any p q A globs caps (d + (L - T) + 1) (t) ((N : Int)) _ va vc hW1 hQ1 hvc hpq (by omega)
  rw [show ((N : Int)).toNat = N by omega] at hr0
  have hlen := rch_length A N (d + (L - T) + 1, t)
  have eT : (0 : Int) = T := HT.out
  have eL : (0 : Int) = L := HL.out
  generalize hR : rch A N (d + (L - T) + 1, t) = R at hr0 hlen
  obtain ⟨b, A1⟩ := R
  have HW1 := Lib.hid hW1
  have HK := Lib.hid hK1
  have HLEN := Lib.hid hlen
  have HK1 := Lib.hid k1'
  have HK2 := Lib.hid k2'
  have hS : Hid (succ ⟨24, (N : Int), a, s⟩ i d t = [((N : Int), d + (L - T) + 1, t), ((i : Int) + 1, d + (L - T), t + 1)]) := by
    show [((N : Int), d + 1, t), ((i : Int) + 1, d, t + 1)] = _
    rw [show d + (L - T) = d + (L - T) from rfl]
    simp only [List.cons.injEq, Prod.mk.injEq, and_true, true_and]
    omega
  have HR := Lib.hid hr0
  have HRE := Lib.hid hR
  clear hQ1 hK1 hW1 k1 k2 k1' k2' hr0 hR hlen eT eL
  rcases b with _ | _
  · go_wp2_with fail
    refine HR.out.mono ?_
    rintro e w2 ⟨rfl, ha, hk⟩
    have HA := Lib.hid ha
    have HKK := Lib.hid hk
    clear ha hk
    go_wp2_with fail
    go_ret
    exact reEnd (R := (false, A1)) (by rw [hS.out]; exact goes_no hn HRE.out) rfl HA.out (HK.out.trans HKK.out)
  · go_wp2_with fail
    refine HR.out.mono ?_
    rintro e w2 ⟨rfl, ha, hk⟩
    have g1 := (hk.block w.heap.size (by rw [set_size]; omega) (by omega)).trans HK1.out
    have g2 := (hk.block (w.heap.size + 1) (by rw [set_size]; omega) (by omega)).trans HK2.out
    have hk2 := hk.size
    rw [set_size] at hk2
    have q0 : w2.cell? ⟨w.heap.size, 1, none⟩ = some (.int .i64 (N : Int)) := cellk g1 rfl
    have q1 : w2.cell? ⟨w.heap.size + 1, 0, none⟩ = some (.int .i64 (d + (L - T))) := cellk g2 rfl
    have q2 : w2.cell? ⟨w.heap.size + 1, 1, none⟩ = some (.int .i64 t) := cellk g2 rfl
    have hW2 := HW1.out.kept (hk.block p HW1.out.lt hpq)
    rw [← HLEN.out] at hW2
    have hr0 := reach_any p q A1 globs caps (d + (L - T)) (t + 1) ((i : Int) + 1) _ va vc hW2 ha (by rw [HLEN.out]; exact hvc) hpq (by omega)
    rw [show ((i : Int) + 1).toNat = i + 1 by omega] at hr0
    generalize hR : rch A1 (i + 1) (d + (L - T), t + 1) = R at hr0
    have HR2 := Lib.hid hr0
    have HRE2 := Lib.hid hR
    have HKK := Lib.hid (HK.out.trans hk)
    clear ha hk g1 g2 hW2 hr0 hR c0 c1 d0 d1 f0 f1
    go_wp2_with fail
    refine HR2.out.mono ?_
    rintro e w3 ⟨rfl, ha, hk⟩
    have HA := Lib.hid ha
    have HK3 := Lib.hid hk
    clear ha hk
    go_wp2_with fail
    go_ret
    exact reEnd (by rw [hS.out, goes_yes hn HRE.out, goes_one (by simp only []; omega), ← HRE2.out]; simp only []; rw [show ((i : Int) + 1).toNat = i + 1 by omega]) rfl HA.out (HKK.out.trans HK3.out)

set_option maxHeartbeats 600000 in
set_option maxRecDepth 100000 in
theorem goOn_25 (p q : Nat) (A : List (Int × Int)) (fs : List Fun) (globs caps d t : Int) (i : Nat) (n a : Int) (s : ByteArray) (w : World) (va vc : Value) (h : WkC w p va globs caps vc q A.length) (hq : AtS w q A) (hvc : ∃ o c, vc = .slice o A.length c) (hpq : p ≠ q) (hi : i < 1000000) (hal : alw fs caps globs ⟨25, n, a, s⟩ d t = true) (hd1 : 1 ≤ d) (hd2 : d ≤ 1000000) (ht1 : 0 ≤ t) (ht2 : t ≤ 1000000) :
    Calls Tryd.prog 48 #[.pointer (some ⟨p, 0, none⟩), .int .i64 (i : Int), .agg #[.int .u8 25, .int .i64 n, .int .i64 a, .string s], .agg #[.int .i64 d, .int .i64 t]] w (RePost q w (goes i (succ ⟨25, n, a, s⟩ i d t) A)) := by
  obtain ⟨hT0, hT1, hL0, hL1, -⟩ := alw_tk hal hd2 hd1
  clear hal
  have hb2 : Below w.heap.size w ((w.alloc (.cells #[.int .u8 25, .int .i64 n, .int .i64 a, .string s] 28)).alloc (.cells #[.int .i64 d, .int .i64 t] 103)) := ((Below.refl _ _).alloc (Nat.le_refl _) _).alloc (by simp) _
  have HE := Lib.hid (effect 25 n a s ((w.alloc (.cells #[.int .u8 25, .int .i64 n, .int .i64 a, .string s] 28)).alloc (.cells #[.int .i64 d, .int .i64 t] 103)))
  unfold EffPost at HE
  generalize hT : tk ⟨25, n, a, s⟩ = T at *
  generalize hL : lv ⟨25, n, a, s⟩ = L at *
  have HT := Lib.hid hT
  have HL := Lib.hid hL
  clear hT hL
  have hD1 : 0 ≤ d + (L - T) := by omega
  have hD2 : d + (L - T) ≤ 1000001 := by omega
  have HB := Lib.hid hb2
  have HQ := Lib.hid hq
  have HW := Lib.hid h
  have hqq := hq.lt
  have hp := h.lt
  clear h hq hb2
  go_enter Tryd.func48, Tryd.ntmps48
  go_wp2_with fail
  refine HE.out.mono ?_
  rintro e w1 ⟨rfl, hb1⟩
  have hbw := HB.out.trans (hb1.mono HB.out.size)
  obtain ⟨k1, k2⟩ := box2 hb1
  have hz1 := hbw.size
  have l2 := lt_of_block k2
  have c0 : w1.cell? ⟨w.heap.size, 0, none⟩ = some (.int .u8 25) := cellk k1 rfl
  have c1 : w1.cell? ⟨w.heap.size, 1, none⟩ = some (.int .i64 n) := cellk k1 rfl
  have d0 : w1.cell? ⟨w.heap.size + 1, 0, none⟩ = some (.int .i64 d) := cellk k2 rfl
  have d1 : w1.cell? ⟨w.heap.size + 1, 1, none⟩ = some (.int .i64 t) := cellk k2 rfl
  have f0 := free_of k2 0
  have f1 := free_of k2 1
  have k1' : (w1.setCell ⟨w.heap.size + 1, 0, none⟩ (.int .i64 (d + (L - T)))).heap[w.heap.size]? = _ := (set_other (by omega)).trans k1
  have k2' := set_two0 (x := .int .i64 (d + (L - T))) k2
  have hW1 : WkC (w1.setCell ⟨w.heap.size + 1, 0, none⟩ (.int .i64 (d + (L - T)))) p va globs caps vc q A.length := HW.out.kept ((set_other (by omega)).trans (hbw.block p hp))
  have hQ1 : AtS (w1.setCell ⟨w.heap.size + 1, 0, none⟩ (.int .i64 (d + (L - T)))) q A := ((set_other (by omega)).trans (hbw.block q hqq)).trans HQ.out
  have hK1 : Kept (fun k => k = q) w (w1.setCell ⟨w.heap.size + 1, 0, none⟩ (.int .i64 (d + (L - T)))) := (kept_of_below hbw).setCell (.inr (by simp)) _
  clear hb1 hbw HE HB HQ HW
  have hW2 : WkC ((w1.setCell ⟨w.heap.size + 1, 0, none⟩ (.int .i64 (d + (L - T)))).setCell ⟨w.heap.size + 1, 1, none⟩ (.int .i64 (t - 1))) p va globs caps vc q A.length := hW1.kept (set_other (by omega))
  have hQ2 : AtS ((w1.setCell ⟨w.heap.size + 1, 0, none⟩ (.int .i64 (d + (L - T)))).setCell ⟨w.heap.size + 1, 1, none⟩ (.int .i64 (t - 1))) q A := (set_other (by omega)).trans hQ1
  have hK2 : Kept (fun k => k = q) w ((w1.setCell ⟨w.heap.size + 1, 0, none⟩ (.int .i64 (d + (L - T)))).setCell ⟨w.heap.size + 1, 1, none⟩ (.int .i64 (t - 1))) := hK1.setCell (.inr (by simp)) _
  have eT : (0 : Int) = T := HT.out
  have eL : (0 : Int) = L := HL.out
  have hr0 := reach_any p q A globs caps (d + (L - T)) (t - 1) ((i : Int) + 1) _ va vc hW2 hQ2 hvc hpq (by omega)
  rw [show ((i : Int) + 1).toNat = i + 1 by omega] at hr0
  generalize hR : rch A (i + 1) (d + (L - T), t - 1) = R at hr0
  have HR := Lib.hid hr0
  have HF : Hid (goes i (succ ⟨25, n, a, s⟩ i d t) A = R) := by
    have e : succ ⟨25, n, a, s⟩ i d t = [((i : Int) + 1, d + (L - T), t - 1)] := by
      show [((i : Int) + 1, d, t - 1)] = _
      simp only [List.cons.injEq, Prod.mk.injEq, and_true, true_and]
      omega
    show _ = _
    rw [e, goes_one (by simp only []; omega), ← hR]
    simp only []
    rw [show ((i : Int) + 1).toNat = i + 1 by omega]
  have HK := Lib.hid hK2
  clear hQ1 hK1 hW1 hQ2 hK2 hW2 k1 k2 k2' hr0 hR eT eL
  go_wp2_with fail
  refine HR.out.mono ?_
  rintro e w2 ⟨rfl, ha, hk⟩
  have HA := Lib.hid ha
  have HK2 := Lib.hid hk
  clear ha hk
  go_wp2_with fail
  go_ret
  exact reEnd HF.out rfl HA.out (HK.out.trans HK2.out)

theorem goOn_any (p q : Nat) (A : List (Int × Int)) (fs : List Fun) (globs caps d t : Int) (i : Nat) (op : Nat) (n a : Int) (s : ByteArray) (w : World) (va vc : Value) (h : WkC w p va globs caps vc q A.length) (hq : AtS w q A) (hvc : ∃ o c, vc = .slice o A.length c) (hpq : p ≠ q) (hi : i < 1000000) (hal : alw fs caps globs ⟨op, n, a, s⟩ d t = true) (hd1 : 1 ≤ d) (hd2 : d ≤ 1000000) (ht1 : 0 ≤ t) (ht2 : t ≤ 1000000) :
    Calls Tryd.prog 48 #[.pointer (some ⟨p, 0, none⟩), .int .i64 (i : Int), .agg #[.int .u8 (op : Int), .int .i64 n, .int .i64 a, .string s], .agg #[.int .i64 d, .int .i64 t]] w (RePost q w (goes i (succ ⟨op, n, a, s⟩ i d t) A)) := by
  by_cases e8 : op = 8
  · subst e8; exact goOn_ret p q A fs globs caps d t i n a s w va vc h hq hal hd1 hd2
  by_cases e26 : op = 26
  · subst e26; exact goOn_fail p q A fs globs caps d t i n a s w va vc h hq hal hd1 hd2
  by_cases e12 : op = 12
  · subst e12
    by_cases hn : (i : Int) < n
    · obtain ⟨N, hN⟩ := Int.eq_ofNat_of_zero_le (show 0 ≤ n by omega)
      exact goOn_12 p q A fs globs caps d t i n a s w va vc h hq hvc hpq hal hd1 hd2 hn N hN
    · exact goOn_12_no p q A fs globs caps d t i n a s w va vc h hq hal hd1 hd2 (by omega)
  by_cases e13 : op = 13
  · subst e13
    by_cases hn : (i : Int) < n
    · obtain ⟨N, hN⟩ := Int.eq_ofNat_of_zero_le (show 0 ≤ n by omega)
      exact goOn_13 p q A fs globs caps d t i n a s w va vc h hq hvc hpq hi hal hd1 hd2 hn N hN
    · exact goOn_13_no p q A fs globs caps d t i n a s w va vc h hq hal hd1 hd2 (by omega)
  by_cases e24 : op = 24
  · subst e24
    by_cases hn : (i : Int) < n
    · obtain ⟨N, hN⟩ := Int.eq_ofNat_of_zero_le (show 0 ≤ n by omega)
      exact goOn_24 p q A fs globs caps d t i n a s w va vc h hq hvc hpq hi hal hd1 hd2 ht1 ht2 hn N hN
    · exact goOn_24_no p q A fs globs caps d t i n a s w va vc h hq hal hd1 hd2 (by omega)
  by_cases e25 : op = 25
  · subst e25; exact goOn_25 p q A fs globs caps d t i n a s w va vc h hq hvc hpq hi hal hd1 hd2 ht1 ht2
  exact goOn_other p q A fs globs caps d t i op n a s w va vc h hq hvc hpq hi hal hd1 hd2 e8 e26 e12 e13 e24 e25
end Go.Proofs.YtpmbdncackneoaaDoor.Oc
