/- DrumSure: the law's walk. -/
import Derived.Test.YtoekgglgcolliaaDruK
namespace Go.Proofs.Ytoekgglgcolliaa
open Go.RowKit

/-- The drum with one track. -/
def one (t : Tk) (ops : Nat) : Dr := ⟨1, 10000, upd (fun _ => ⟨[], [], false⟩) 0 t, false, ops, 0⟩

theorem upd_upd {α : Type} (f : Nat → α) (i : Nat) (x y : α) : upd (upd f i x) i y = upd f i y := by
  funext j; unfold upd; split <;> rfl

theorem one_new : new 1 10000 = one ⟨[], [], false⟩ 0 := by
  unfold new one
  congr 1
  funext j; unfold upd; split <;> rfl

theorem one_set (t u : Tk) (k : Nat) : (one t k).set 0 u = one u k := by
  unfold one Dr.set
  congr 1
  exact upd_upd _ _ _ _

theorem one_cnt (t : Tk) (k : Nat) : cnt (one t k) = (0, one t (k + 1)) := rfl
theorem one_chk (t : Tk) (k : Nat) : chk (one t k) 0 = 0 := rfl
theorem one_tr (t : Tk) (k : Nat) : (one t k).tr (0 : Int).toNat = t := rfl

theorem one_app (t : Tk) (k : Nat) (p : List UInt8) (h : t.now.length + p.length ≤ 10000) : appS (one t k) 0 p = (0, one ⟨t.now ++ p, t.dur, t.wr⟩ (k + 1)) := by
  unfold appS
  rw [if_neg (by rw [one_chk]; decide), one_tr, if_neg (by show ¬ 10000 < _; omega), show (0 : Int).toNat = 0 from rfl, one_set, one_cnt]
theorem one_write (t : Tk) (k : Nat) (p : List UInt8) (h : p.length ≤ 10000) : writeS (one t k) 0 p = (0, one ⟨p, t.dur, true⟩ (k + 1)) := by
  unfold writeS
  rw [if_neg (by rw [one_chk]; decide), if_neg (by show ¬ 10000 < _; omega), one_tr, show (0 : Int).toNat = 0 from rfl, one_set, one_cnt]
theorem one_sync (t : Tk) (k : Nat) : syncS (one t k) 0 = (0, one ⟨t.now, t.now, false⟩ (k + 1)) := by
  unfold syncS
  rw [if_neg (by rw [one_chk]; decide), one_cnt, if_pos rfl, one_tr, show (0 : Int).toNat = 0 from rfl]
  exact congrArg (Prod.mk 0) (one_set _ _ _)

set_option maxHeartbeats 4000000 in
set_option maxRecDepth 100000 in
theorem sure_out (a b : Value) (p q : List UInt8) (cuts : Value) (wr : Bool) (w : World) (ha : Rd w a p) (hb : Rd w b q) (hp : p.length ≤ 140737488351232) (hq : q.length ≤ 140737488351232) (h : 5000 < p.length + q.length) :
    Calls Try.prog 3 #[a, b, cuts, .bool wr] w fun e w' => e = .returned (.bool true) ∧ Below w.heap.size w w' := by
  obtain ⟨oa, ca, rfl⟩ : ∃ o c, a = .slice o p.length c := by
    rcases ha with ⟨rfl, rfl⟩ | ⟨_, c, rfl, _⟩ <;> exact ⟨_, _, rfl⟩
  obtain ⟨ob, cb, rfl⟩ : ∃ o c, b = .slice o q.length c := by
    rcases hb with ⟨rfl, rfl⟩ | ⟨_, c, rfl, _⟩ <;> exact ⟨_, _, rfl⟩
  have h0 : (0 : Int) ≤ (p.length : Int) := by omega
  have h1 : (p.length : Int) ≤ 140737488351232 := by omega
  have h2 : (0 : Int) ≤ (q.length : Int) := by omega
  have h3 : (q.length : Int) ≤ 140737488351232 := by omega
  have hd : (5000 : Int) < (p.length : Int) + (q.length : Int) := by omega
  clear ha hb h
  go_enter Try.func3, Try.ntmps3
  go_wp2_with fail
  refine (awake w).mono ?_
  rintro e w1 ⟨rfl, hb1⟩
  have HB1 := Lib.hid hb1
  clear hb1
  go_wp2_with fail
  refine (awake w1).mono ?_
  rintro e w2 ⟨rfl, hb2⟩
  have HB2 := Lib.hid (HB1.out.trans (hb2.mono HB1.out.size))
  clear hb2
  go_wp2_with fail
  go_ret
  exact ⟨rfl, HB2.out⟩

set_option maxHeartbeats 8000000 in
set_option maxRecDepth 100000 in
theorem sure_wr (a b : Value) (p q : List UInt8) (x : Value) (cuts : List Int) (w : World) (ha : Rd w a p) (hb : Rd w b q) (hx : RdI w x cuts) (h : p.length + q.length ≤ 5000) :
    Calls Try.prog 3 #[a, b, x, .bool true] w fun e w' => e = .returned (.bool true) ∧ Below w.heap.size w w' := by
  obtain ⟨oa, ca, rfl⟩ : ∃ o c, a = .slice o p.length c := by
    rcases ha with ⟨rfl, rfl⟩ | ⟨_, c, rfl, _⟩ <;> exact ⟨_, _, rfl⟩
  obtain ⟨ob, cb, rfl⟩ : ∃ o c, b = .slice o q.length c := by
    rcases hb with ⟨rfl, rfl⟩ | ⟨_, c, rfl, _⟩ <;> exact ⟨_, _, rfl⟩
  have h0 : (0 : Int) ≤ (p.length : Int) := by omega
  have h2 : (0 : Int) ≤ (q.length : Int) := by omega
  have hd : ¬ (5000 : Int) < (p.length : Int) + (q.length : Int) := by omega
  have h5 : (p.length : Int) + (q.length : Int) ≤ 5000 := by omega
  have HA := Lib.hid ha
  have HB := Lib.hid hb
  have HX := Lib.hid hx
  have HL := Lib.hid hx.lt
  have H5 := Lib.hid h
  clear ha hb hx h
  go_enter Try.func3, Try.ntmps3
  go_wp2_with fail
  refine (awake w).mono ?_
  rintro e w1 ⟨rfl, hb1⟩
  have HB1 := Lib.hid hb1
  clear hb1
  go_wp2_with fail
  refine (dm_new 1 10000 w1 (by decide) (by decide) (by decide) (by decide)).mono ?_
  rintro e w2 ⟨D, T, rfl, hd, hb, hT⟩
  have HB2 := Lib.hid (HB1.out.trans (hb.mono HB1.out.size))
  have HS1 := Lib.hid HB1.out.size
  have HT := Lib.hid hT
  rw [one_new] at hd
  have C1 := Lib.hid ((dm_append 0 _ p w2 hd (HA.out.below HB2.out) (by have := H5.out; omega) (by decide)).mono (DmP.at (congrArg Prod.fst (one_app _ 0 p (by have := H5.out; simp; omega))) (congrArg Prod.snd (one_app _ 0 p (by have := H5.out; simp; omega)))))
  clear hd hb hT
  go_wp2_with fail
  refine C1.out.mono ?_
  rintro e w3 ⟨rfl, hd, hb⟩
  have HB3 := Lib.hid (HB2.out.trans (hb.mono HS1.out))
  have C2 := Lib.hid ((dm_sync 0 w3 hd (by show 1 ≤ 1000000; decide)).mono (DmP.at (congrArg Prod.fst (one_sync _ _)) (congrArg Prod.snd (one_sync _ _))))
  clear hd hb C1
  go_wp2_with fail
  refine C2.out.mono ?_
  rintro e w4 ⟨rfl, hd, hb⟩
  have HB4 := Lib.hid (HB3.out.trans (hb.mono HS1.out))
  have C3 := Lib.hid ((dm_write 0 _ q w4 hd (HB.out.below HB4.out) (by have := H5.out; omega) (by show 2 ≤ 1000000; decide)).mono (DmP.at (congrArg Prod.fst (one_write _ _ q (by have := H5.out; omega))) (congrArg Prod.snd (one_write _ _ q (by have := H5.out; omega)))))
  clear hd hb C2
  go_wp2_with fail
  refine C3.out.mono ?_
  rintro e w5 ⟨rfl, hd, hb⟩
  have HB5 := Lib.hid (HB4.out.trans (hb.mono HS1.out))
  have C4 := Lib.hid ((dm_restart x cuts w5 hd (HX.out.kept fun g _ _ hg => HB5.out.block g hg) (fun hne e => by have := HL.out hne T e; have := HT.out; have := HS1.out; omega)).mono (DmP.at (x := 0) rfl rfl))
  clear hd hb C3
  go_wp2_with fail
  refine C4.out.mono ?_
  rintro e w6 ⟨rfl, hd, hb⟩
  have HB6 := Lib.hid (HB5.out.trans (hb.mono HS1.out))
  have C5 := Lib.hid (dm_read_ok 0 w6 hd rfl)
  clear hd hb C4
  go_wp2_with fail
  refine C5.out.mono ?_
  rintro e w7 ⟨v, rfl, ho, hb⟩
  have HB7 := Lib.hid (HB6.out.trans (hb.mono HB6.out.size))
  obtain ⟨R, hR, hcase⟩ : ∃ R, ((restartS (one ⟨q, (Tk.mk ([] ++ p) ([] ++ p) false).dur, true⟩ (0 + 1 + 1 + 1)) cuts).tr (0 : Int).toNat).now = R ∧ (R = p ∨ R ≠ p ∧ ∃ m, m ≤ q.length ∧ R = q.take m) := by
    refine ⟨_, rfl, ?_⟩
    show left ⟨q, [] ++ p, true⟩ (cuts.getD 0 (-1)) = p ∨ left ⟨q, [] ++ p, true⟩ (cuts.getD 0 (-1)) ≠ p ∧ ∃ m, m ≤ q.length ∧ left ⟨q, [] ++ p, true⟩ (cuts.getD 0 (-1)) = q.take m
    by_cases e : left ⟨q, [] ++ p, true⟩ (cuts.getD 0 (-1)) = p
    · exact .inl e
    · refine .inr ⟨e, ?_⟩
      unfold left at e ⊢
      rw [if_neg (by simp)] at e ⊢
      by_cases hc : cuts.getD 0 (-1) < 0
      · rw [if_pos hc] at e
        exact absurd (List.nil_append p) e
      · rw [if_neg hc]
        exact ⟨_, Nat.min_le_right _ _, rfl⟩
  have ho' : Own w7 w6.heap.size v R := by rw [← hR]; exact ho
  have hts : (convert 22 9 v).run Try.prog w7 = .ok (.string ⟨R.toArray⟩) w7 := toStr' ho'
  have htp : (convert 22 9 (.slice oa p.length ca)).run Try.prog w7 = .ok (.string ⟨p.toArray⟩) w7 := toStr (HA.out.below HB7.out)
  rcases hcase with hc | ⟨hc, m, hm, hRm⟩
  · subst hc
    clear ho ho' hb C5 hR
    go_wp2_with fail
    go_ret
    exact ⟨rfl, HB7.out⟩
  · obtain ⟨SV, hs1, hs2⟩ := cutH (HB.out.below HB7.out) m hm
    have htq : (convert 22 9 SV).run Try.prog w7 = .ok (.string ⟨(q.take m).toArray⟩) w7 := toStr (hs2 _ (HB.out.below HB7.out))
    have hne : (R == p) = false := by simpa using hc
    have hln := lenT R
    have hlm : R.length = m := by rw [hRm, List.length_take]; omega
    rw [hlm] at hln
    rw [← hRm] at htq
    have hmi : (m : Int) ≤ (q.length : Int) := by omega
    have hmd : decide (m ≤ q.length) = true := by simpa using hm
    have HRM := Lib.hid hRm
    clear ho ho' hb C5 hR hs2 hRm hlm hc hm
    go_wp2_with fail
    go_ret
    exact ⟨rfl, HB7.out⟩

set_option maxHeartbeats 8000000 in
set_option maxRecDepth 100000 in
theorem sure_app (a b : Value) (p q : List UInt8) (x : Value) (cuts : List Int) (w : World) (ha : Rd w a p) (hb : Rd w b q) (hx : RdI w x cuts) (h : p.length + q.length ≤ 5000) :
    Calls Try.prog 3 #[a, b, x, .bool false] w fun e w' => e = .returned (.bool true) ∧ Below w.heap.size w w' := by
  obtain ⟨oa, ca, rfl⟩ : ∃ o c, a = .slice o p.length c := by
    rcases ha with ⟨rfl, rfl⟩ | ⟨_, c, rfl, _⟩ <;> exact ⟨_, _, rfl⟩
  obtain ⟨ob, cb, rfl⟩ : ∃ o c, b = .slice o q.length c := by
    rcases hb with ⟨rfl, rfl⟩ | ⟨_, c, rfl, _⟩ <;> exact ⟨_, _, rfl⟩
  have h0 : (0 : Int) ≤ (p.length : Int) := by omega
  have h2 : (0 : Int) ≤ (q.length : Int) := by omega
  have hd : ¬ (5000 : Int) < (p.length : Int) + (q.length : Int) := by omega
  have h5 : (p.length : Int) + (q.length : Int) ≤ 5000 := by omega
  have HA := Lib.hid ha
  have HB := Lib.hid hb
  have HX := Lib.hid hx
  have HL := Lib.hid hx.lt
  have H5 := Lib.hid h
  clear ha hb hx h
  go_enter Try.func3, Try.ntmps3
  go_wp2_with fail
  refine (awake w).mono ?_
  rintro e w1 ⟨rfl, hb1⟩
  have HB1 := Lib.hid hb1
  clear hb1
  go_wp2_with fail
  refine (dm_new 1 10000 w1 (by decide) (by decide) (by decide) (by decide)).mono ?_
  rintro e w2 ⟨D, T, rfl, hd, hb, hT⟩
  have HB2 := Lib.hid (HB1.out.trans (hb.mono HB1.out.size))
  have HS1 := Lib.hid HB1.out.size
  have HT := Lib.hid hT
  rw [one_new] at hd
  have C1 := Lib.hid ((dm_append 0 _ p w2 hd (HA.out.below HB2.out) (by have := H5.out; omega) (by decide)).mono (DmP.at (congrArg Prod.fst (one_app _ 0 p (by have := H5.out; simp; omega))) (congrArg Prod.snd (one_app _ 0 p (by have := H5.out; simp; omega)))))
  clear hd hb hT
  go_wp2_with fail
  refine C1.out.mono ?_
  rintro e w3 ⟨rfl, hd, hb⟩
  have HB3 := Lib.hid (HB2.out.trans (hb.mono HS1.out))
  have C2 := Lib.hid ((dm_sync 0 w3 hd (by show 1 ≤ 1000000; decide)).mono (DmP.at (congrArg Prod.fst (one_sync _ _)) (congrArg Prod.snd (one_sync _ _))))
  clear hd hb C1
  go_wp2_with fail
  refine C2.out.mono ?_
  rintro e w4 ⟨rfl, hd, hb⟩
  have HB4 := Lib.hid (HB3.out.trans (hb.mono HS1.out))
  have hlen : ([] ++ p).length + q.length ≤ 10000 := by have := H5.out; simp; omega
  have C3 := Lib.hid ((dm_append 0 _ q w4 hd (HB.out.below HB4.out) (by have := H5.out; omega) (by show 2 ≤ 1000000; decide)).mono (DmP.at (congrArg Prod.fst (one_app _ _ q hlen)) (congrArg Prod.snd (one_app _ _ q hlen))))
  clear hd hb C2 hlen
  go_wp2_with fail
  refine C3.out.mono ?_
  rintro e w5 ⟨rfl, hd, hb⟩
  have HB5 := Lib.hid (HB4.out.trans (hb.mono HS1.out))
  have C4 := Lib.hid ((dm_restart x cuts w5 hd (HX.out.kept fun g _ _ hg => HB5.out.block g hg) (fun hne e => by have := HL.out hne T e; have := HT.out; have := HS1.out; omega)).mono (DmP.at (x := 0) rfl rfl))
  clear hd hb C3
  go_wp2_with fail
  refine C4.out.mono ?_
  rintro e w6 ⟨rfl, hd, hb⟩
  have HB6 := Lib.hid (HB5.out.trans (hb.mono HS1.out))
  have C5 := Lib.hid (dm_read_ok 0 w6 hd rfl)
  clear hd hb C4
  go_wp2_with fail
  refine C5.out.mono ?_
  rintro e w7 ⟨v, rfl, ho, hb⟩
  have HB7 := Lib.hid (HB6.out.trans (hb.mono HB6.out.size))
  obtain ⟨m, hm, hR⟩ : ∃ m, m ≤ q.length ∧ ((restartS (one ⟨(Tk.mk ([] ++ p) ([] ++ p) false).now ++ q, (Tk.mk ([] ++ p) ([] ++ p) false).dur, (Tk.mk ([] ++ p) ([] ++ p) false).wr⟩ (0 + 1 + 1 + 1)) cuts).tr (0 : Int).toNat).now = p ++ q.take m := by
    show ∃ m, m ≤ q.length ∧ left ⟨([] ++ p) ++ q, [] ++ p, false⟩ (cuts.getD 0 (-1)) = p ++ q.take m
    unfold left
    rw [if_pos rfl]
    refine ⟨min (cuts.getD 0 (-1)).toNat q.length, Nat.min_le_right _ _, ?_⟩
    simp only [List.nil_append, List.length_append, Nat.add_sub_cancel_left]
    rw [List.take_length_add_append]
  have ho' : Own w7 w6.heap.size v (p ++ q.take m) := by rw [← hR]; exact ho
  have hlm : (q.take m).length = m := by rw [List.length_take]; omega
  have hts : (convert 22 9 v).run Try.prog w7 = .ok (.string ⟨(p ++ q.take m).toArray⟩) w7 := toStr' ho'
  have htp : ∀ n, (convert 22 9 (.slice oa p.length ca)).run Try.prog (w7.drewN n) = .ok (.string ⟨p.toArray⟩) (w7.drewN n) := fun n => toStr (w := w7.drewN n) (by have := HA.out.below HB7.out; exact this)
  obtain ⟨SV, hs1, hs2⟩ := cutH (HB.out.below HB7.out) m hm
  have htq : ∀ n, (convert 22 9 SV).run Try.prog (w7.drewN n) = .ok (.string ⟨(q.take m).toArray⟩) (w7.drewN n) := fun n => toStr (w := w7.drewN n) (by have := hs2 _ (HB.out.below HB7.out); exact this)
  have hln := lenT (p ++ q.take m)
  have hll : (p ++ q.take m).length = p.length + m := by rw [List.length_append, hlm]
  rw [hll] at hln
  have hc1 := cutT (p ++ q.take m) p.length (by rw [hll]; omega)
  have hc2 := cutTl (p ++ q.take m) p.length (by rw [hll]; omega)
  rw [List.take_left] at hc1
  rw [List.drop_left] at hc2
  have hmi : (m : Int) ≤ (q.length : Int) := by omega
  have hmd : decide (m ≤ q.length) = true := by simpa using hm
  have hw1 : IntKind.i64.wrap ((p.length : Int) + (q.length : Int)) = (p.length : Int) + (q.length : Int) := IntWalk.i64_in _ (by omega)
  have hw2 : IntKind.i64.wrap ((p.length : Int) + (m : Int) - (p.length : Int)) = (m : Int) := by rw [IntWalk.i64_in _ (by omega)]; omega
  generalize p ++ q.take m = R at *
  clear ho ho' hb C5 hR hs2 hlm hm hll
  have eqR : (p == p) = true := by simp
  have eqQ : (q.take m == q.take m) = true := by simp
  have d1 : decide ((p.length : Int) + (m : Int) ≤ (p.length : Int) + (q.length : Int)) = true := by simp; omega
  have d2 : decide ((p.length : Int) ≤ (p.length : Int) + (m : Int)) = true := by simp; omega
  go_wp2
  go_quiet (fail)
  go_wp2
  go_ret
  exact ⟨rfl, HB7.out.os, HB7.out.tape, HB7.out.output, HB7.out.size, HB7.out.block⟩

/-- The law, whatever comes in. -/
theorem sure_walk (a : Value) (p : List UInt8) (b : Value) (q : List UInt8) (x : Value) (cuts : List Int) (wr : Bool) (w : World) (ha : Rd w a p) (hp : p.length ≤ 140737488351232) (hb : Rd w b q) (hq : q.length ≤ 140737488351232) (hx : RdI w x cuts) :
    Calls Try.prog 3 #[a, b, x, .bool wr] w fun e w' => e = .returned (.bool true) ∧ Below w.heap.size w w' := by
  by_cases h : 5000 < p.length + q.length
  · exact sure_out a b p q x wr w ha hb hp hq h
  · cases wr with
    | true => exact sure_wr a b p q x cuts w ha hb hx (by omega)
    | false => exact sure_app a b p q x cuts w ha hb hx (by omega)
end Go.Proofs.Ytoekgglgcolliaa
