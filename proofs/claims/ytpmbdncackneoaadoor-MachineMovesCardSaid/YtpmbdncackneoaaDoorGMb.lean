/- MacBA, MacBB, MacBC, MacBD, in one text. -/
import Derived.Test.YtpmbdncackneoaaDoorMacO
import Derived.BigRegion
import Derived.Test.YtpmbdncackneoaaDoorMacAD
import Derived.IntWalk
import Derived.Laws.Slices

namespace Go.Proofs.YtpmbdncackneoaaDoor
open Go.RowKit HeaM Ma

theorem isfun_t (k : Int) (h : k = 3) (w : World) : Calls Tryd.prog 90 #[.int .u8 k] w fun e w' => e = .returned (.bool false) ∧ w = w' := by
  subst h
  go_enter Tryd.func90, Tryd.ntmps90
  go_wp2
  go_ret
  exact ⟨rfl, rfl⟩

/-- Where an execution and its heap stand. -/
theorem RunE.at {C : Cx} {w : World} {s : Ms} (h : RunE C w s) : w.cell? ⟨C.lo, 0, none⟩ = some (.pointer (some ⟨C.M, 0, none⟩)) ∧ w.cell? ⟨C.M, 0, none⟩ = some (.pointer (some ⟨C.H, 0, none⟩)) := by
  obtain ⟨_, _, _, _, _, _, _, h1⟩ := h
  exact ⟨h1.cells.1, h1.mach.1⟩
theorem RunE.kind {C : Cx} {w : World} {s : Ms} {v : V} {x : Nat} (h : RunE C w s) (hr : Rep s.W s.F v) (hx : Hid (v.word = x)) (nq : Nat) :
    Calls Tryd.prog 54 #[.pointer (some ⟨C.H, 0, none⟩), .int .u64 (x : Int)] (w.drewN nq) fun e w' => e = .returned (.int .u8 (v.kind : Int)) ∧ ∃ mq, w' = w.drewN mq := by
  obtain ⟨_, _, _, _, _, _, _, h1⟩ := h.drewN nq
  exact (kind_v (w.drewN nq) h1.g.heap h1.g.len (by have := h1.g.wl; have := h1.fit.q; omega) hr hx).mono fun e w' ⟨h2, mq, h3⟩ => ⟨h2, nq + mq, by rw [h3]; simp [World.drewN, Nat.add_assoc]⟩
theorem RunE.len {C : Cx} {w : World} {s : Ms} {v : V} {x : Nat} (h : RunE C w s) (hr : Rep s.W s.F v) (hx : Hid (v.word = x)) (hn : v.isNum = false) (nq : Nat) :
    Calls Tryd.prog 56 #[.pointer (some ⟨C.H, 0, none⟩), .int .u64 (x : Int)] (w.drewN nq) fun e w' => e = .returned (.int .i64 (v.size : Int)) ∧ ∃ mq, w' = w.drewN mq := by
  obtain ⟨_, _, _, _, _, _, _, h1⟩ := h.drewN nq
  exact (len_v (w.drewN nq) h1.g.heap h1.g.len (by have := h1.g.wl; have := h1.fit.q; omega) hr hx hn).mono fun e w' ⟨h2, mq, h3⟩ => ⟨h2, nq + mq, by rw [h3]; simp [World.drewN, Nat.add_assoc]⟩
theorem RunE.text {C : Cx} {w : World} {s : Ms} {i : Nat} {l : List UInt8} {x : Nat} (h : RunE C w s) (hr : Rep s.W s.F (.txt i l)) (hx : Hid ((V.txt i l).word = x)) :
    Calls Tryd.prog 59 #[.pointer (some ⟨C.H, 0, none⟩), .int .u64 (x : Int)] w fun e w' => e = .returned (.string ⟨l.toArray⟩) ∧ RunE C w' s := by
  obtain ⟨a1, a2, a3, a4, a5, a6, a7, h1⟩ := h
  exact (text_v w h1.g.heap h1.g.len (by have := h1.g.wl; have := h1.fit.q; omega) h1.g.ws hr hx).mono fun e w' ⟨h2, h3⟩ => ⟨h2, RunE.below ⟨a1, a2, a3, a4, a5, a6, a7, h1⟩ h3⟩
theorem RunE.wlt {C : Cx} {w : World} {s : Ms} {v : V} (h : RunE C w s) (hr : Rep s.W s.F v) : v.word < 18446744073709551616 := by
  obtain ⟨_, _, _, _, _, _, _, h1⟩ := h
  exact word_lt hr (by have := h1.g.wl; have := h1.fit.q; omega)

set_option maxHeartbeats 4000000 in
set_option maxRecDepth 100000 in
theorem examine_txt {C : Cx} {s : Ms} {i j : Nat} {l m : List UInt8} {a b : Nat} {w : World} (h : RunE C w s) (hf : s.fuel ≠ 0) (hx : Rep s.W s.F (.txt i l)) (hy : Rep s.W s.F (.txt j m)) (ha : Hid ((V.txt i l).word = a)) (hb : Hid ((V.txt j m).word = b)) :
    Calls Tryd.prog 84 #[.pointer (some ⟨C.lo, 0, none⟩), .int .u64 (a : Int), .int .u64 (b : Int)] w fun e w' => e = .returned (.int .i64 (verd (decide (l = m)))) ∧ RunE C w' { s with fuel := s.fuel - 1 } := by
  have HS := Lib.hid (step_yes h hf)
  have hlt : a < 18446744073709551616 := by rw [← ha.out]; exact h.wlt hx
  have hlt2 : b < 18446744073709551616 := by rw [← hb.out]; exact h.wlt hy
  have HX : Hid (Rep s.W s.F (.txt i l)) := hx
  have HY : Hid (Rep s.W s.F (.txt j m)) := hy
  have hl1 : (l.length : Int) ≤ 1000000 := by have := hx.2.2; omega
  have hl2 : (m.length : Int) ≤ 1000000 := by have := hy.2.2; omega
  clear h hf hx hy
  go_enter Tryd.func84, Tryd.ntmps84
  go_wp2_with fail
  refine HS.out.mono ?_
  rintro e w1 ⟨rfl, h⟩
  have H := Lib.hid h
  clear h
  obtain ⟨c0, m0⟩ := H.out.at
  have HK : Hid (Calls Tryd.prog 54 #[.pointer (some ⟨C.H, 0, none⟩), .int .u64 (a : Int)] w1 fun e w' => e = .returned (.int .u8 3) ∧ ∃ mq, w' = w1.drewN mq) := H.out.kind HX.out ha 0
  have HIA : Hid (∀ w, Calls Tryd.prog 52 #[.int .u64 (a : Int)] w fun e w' => e = .returned (.bool false) ∧ w = w') := fun w => isnum_v (.txt i l) a w ha hlt
  have HIB : Hid (∀ w, Calls Tryd.prog 52 #[.int .u64 (b : Int)] w fun e w' => e = .returned (.bool false) ∧ w = w') := fun w => isnum_v (.txt j m) b w hb hlt2
  go_wp2_with fail
  refine HK.out.mono ?_
  rintro e w' ⟨rfl, nq, rfl⟩
  have HW : Hid (RunE C (w1.drewN nq) { s with fuel := s.fuel - 1 }) := H.out.drewN nq
  clear c0 m0 H HK
  generalize w1.drewN nq = w2 at *
  obtain ⟨c0, m0⟩ := HW.out.at
  go_wp2_with fail
  refine (HIA.out _).mono ?_
  rintro e w' ⟨rfl, rfl⟩
  go_wp2_with fail
  refine (HIB.out _).mono ?_
  rintro e w' ⟨rfl, rfl⟩
  go_wp2_with fail
  refine (isfun_t _ rfl _).mono ?_
  rintro e w' ⟨rfl, rfl⟩
  have KB : Hid (∀ nq, Calls Tryd.prog 54 #[.pointer (some ⟨C.H, 0, none⟩), .int .u64 (b : Int)] (w2.drewN nq) fun e w' => e = .returned (.int .u8 3) ∧ ∃ mq, w' = w2.drewN mq) := fun nq => HW.out.kind HY.out hb nq
  have LA : Hid (∀ nq, Calls Tryd.prog 56 #[.pointer (some ⟨C.H, 0, none⟩), .int .u64 (a : Int)] (w2.drewN nq) fun e w' => e = .returned (.int .i64 (l.length : Int)) ∧ ∃ mq, w' = w2.drewN mq) := fun nq => HW.out.len HX.out ha rfl nq
  have LB : Hid (∀ nq, Calls Tryd.prog 56 #[.pointer (some ⟨C.H, 0, none⟩), .int .u64 (b : Int)] (w2.drewN nq) fun e w' => e = .returned (.int .i64 (m.length : Int)) ∧ ∃ mq, w' = w2.drewN mq) := fun nq => HW.out.len HY.out hb rfl nq
  by_cases hlen : l.length = m.length
  · have e1 : ((l.length : Int) != (m.length : Int)) = false := by simp [hlen]
    have e2 : ((l.length : Int) == (m.length : Int)) = true := by simp [hlen]
    go_wp2_with fail
    go_quiet (first
      | (go_at_call 54; with_reducible exact KB.out _)
      | (go_at_call 56; with_reducible exact LA.out _)
      | (go_at_call 56; with_reducible exact LB.out _))
    have HW3 : Hid (RunE C (w2.drewN nq) { s with fuel := s.fuel - 1 }) := HW.out.drewN nq
    clear c0 m0 HW KB LA LB e1 e2 HIA HIB
    generalize w2.drewN nq = w3 at *
    obtain ⟨c0, m0⟩ := HW3.out.at
    have HTA := Lib.hid fun (W : World) (h : RunE C W { s with fuel := s.fuel - 1 }) => h.text HX.out ha
    have HTB := Lib.hid fun (W : World) (h : RunE C W { s with fuel := s.fuel - 1 }) => h.text HY.out hb
    have heq : (l == m) = decide (l = m) := by
      by_cases e : l = m
      · simp [e]
      · simp [e]
    go_wp2_with fail
    have HD : Hid (RunE C w3.drew { s with fuel := s.fuel - 1 }) := HW3.out.drewN 1
    go_region_law (first
      | (go_simp; go_at_call 59; (with_reducible refine (HTA.out _ HD.out).mono ?_); rintro e w4 ⟨rfl, hw4⟩; have HA4 := Lib.hid hw4; clear hw4; obtain ⟨y0, y1⟩ := HA4.out.at)
      | (go_simp; go_at_call 59; (with_reducible refine (HTB.out _ HD.out).mono ?_); rintro e w4 ⟨rfl, hw4⟩; have HB4 := Lib.hid hw4; clear hw4; obtain ⟨y0, y1⟩ := HB4.out.at)
      | (go_simp; go_at_call 59; (with_reducible refine (HTB.out _ HA4.out).mono ?_); rintro e w5 ⟨rfl, hw5⟩; have HZ := Lib.hid hw5; clear hw5; obtain ⟨z0, z1⟩ := HZ.out.at)
      | (go_simp; go_at_call 59; (with_reducible refine (HTA.out _ HB4.out).mono ?_); rintro e w5 ⟨rfl, hw5⟩; have HZ := Lib.hid hw5; clear hw5; obtain ⟨z0, z1⟩ := HZ.out.at)
      | (go_simp; go_at_call 89; refine (msame_t _ _).mono ?_; rintro e w' ⟨rfl, rfl⟩))
    all_goals
      go_wp2
      go_ret
      exact ⟨rfl, HZ.out⟩
  · have hne : decide (l = m) = false := by
      rw [decide_eq_false_iff_not]
      rintro rfl
      exact hlen rfl
    have e1 : ((l.length : Int) != (m.length : Int)) = true := by
      rw [bne_iff_ne]
      omega
    have e2 : ((l.length : Int) == (m.length : Int)) = false := by
      rw [beq_eq_false_iff_ne]
      omega
    have HNE := Lib.hid hne
    clear hne hlen
    go_wp2_with fail
    go_quiet (first
      | (go_at_call 54; with_reducible exact KB.out _)
      | (go_at_call 56; with_reducible exact LA.out _)
      | (go_at_call 56; with_reducible exact LB.out _))
    have HW3 : Hid (RunE C (w2.drewN nq) { s with fuel := s.fuel - 1 }) := HW.out.drewN nq
    clear c0 m0 HW KB LA LB e1 e2 HIA HIB
    generalize w2.drewN nq = w3 at *
    go_wp2_with fail
    go_ret
    exact ⟨by rw [HNE.out]; rfl, HW3.out⟩

set_option maxHeartbeats 4000000 in
set_option maxRecDepth 100000 in
/-- Two texts, one behind the other. -/
theorem operate_cat {C : Cx} {s s' : Ms} {n i j : Nat} {l m : List UInt8} {a b : Nat} {w : World} (h : RunE C w s) (hx : Rep s.W s.F (.txt i l)) (hy : Rep s.W s.F (.txt j m)) (ha : Hid ((V.txt i l).word = a)) (hb : Hid ((V.txt j m).word = b)) (hr : Ma.text C.m s (l ++ m) = some (n, s')) (hn : s.stk.length ≤ 1000000000) (hf : s.frs.length ≤ 1000000000) (htn : s.trs.length ≤ 1000000000) :
    Calls Tryd.prog 39 #[.pointer (some ⟨C.lo, 0, none⟩), .int .i64 9, .int .u64 (a : Int), .int .u64 (b : Int)] w (OkRun C s' n) := by
  have HX : Hid (Rep s.W s.F (.txt i l)) := hx
  have HY : Hid (Rep s.W s.F (.txt j m)) := hy
  have hsz : ¬ 9223372036854775807 < l.length + m.length := by have := hx.2.2; have := hy.2.2; omega
  have hcat : ((⟨l.toArray⟩ : ByteArray) ++ ⟨m.toArray⟩).data.toList = l ++ m := by rw [ByteArray.data_append]; simp
  have HT := Lib.hid fun (W : World) (h : RunE C W s) => text_t' (⟨l.toArray⟩ ++ ⟨m.toArray⟩) h hcat hr hn hf htn
  have H := Lib.hid h
  have KA : Hid (∀ nq, Calls Tryd.prog 54 #[.pointer (some ⟨C.H, 0, none⟩), .int .u64 (a : Int)] (w.drewN nq) fun e w' => e = .returned (.int .u8 3) ∧ ∃ mq, w' = w.drewN mq) := fun nq => H.out.kind HX.out ha nq
  obtain ⟨c0, m0⟩ := h.at
  clear h hx hy hr hcat
  go_enter Tryd.func39, Tryd.ntmps39
  go_wp2_with fail
  refine (KA.out 0).mono ?_
  rintro e w' ⟨rfl, nq, rfl⟩
  have HW : Hid (RunE C (w.drewN nq) s) := H.out.drewN nq
  clear c0 m0 H KA
  generalize w.drewN nq = w2 at *
  obtain ⟨c0, m0⟩ := HW.out.at
  have KB : Hid (∀ nq, Calls Tryd.prog 54 #[.pointer (some ⟨C.H, 0, none⟩), .int .u64 (b : Int)] (w2.drewN nq) fun e w' => e = .returned (.int .u8 3) ∧ ∃ mq, w' = w2.drewN mq) := fun nq => HW.out.kind HY.out hb nq
  go_wp2_with fail
  refine (KB.out 0).mono ?_
  rintro e w' ⟨rfl, nq, rfl⟩
  have HW3 : Hid (RunE C (w2.drewN nq) s) := HW.out.drewN nq
  clear c0 m0 HW KB
  generalize w2.drewN nq = w3 at *
  obtain ⟨c0, m0⟩ := HW3.out.at
  have HTA := Lib.hid fun (W : World) (h : RunE C W s) => h.text HX.out ha
  have HTB := Lib.hid fun (W : World) (h : RunE C W s) => h.text HY.out hb
  go_wp2_with fail
  have HD : Hid (RunE C w3.drew s) := HW3.out.drewN 1
  go_region_law (first
    | (go_simp; go_at_call 59; (with_reducible refine (HTA.out _ HD.out).mono ?_); rintro e w4 ⟨rfl, hw4⟩; have HA4 := Lib.hid hw4; clear hw4; obtain ⟨y0, y1⟩ := HA4.out.at)
    | (go_simp; go_at_call 59; (with_reducible refine (HTB.out _ HD.out).mono ?_); rintro e w4 ⟨rfl, hw4⟩; have HB4 := Lib.hid hw4; clear hw4; obtain ⟨y0, y1⟩ := HB4.out.at)
    | (go_simp; go_at_call 59; (with_reducible refine (HTB.out _ HA4.out).mono ?_); rintro e w5 ⟨rfl, hw5⟩; have HZ := Lib.hid hw5; clear hw5; obtain ⟨z0, z1⟩ := HZ.out.at)
    | (go_simp; go_at_call 59; (with_reducible refine (HTA.out _ HB4.out).mono ?_); rintro e w5 ⟨rfl, hw5⟩; have HZ := Lib.hid hw5; clear hw5; obtain ⟨z0, z1⟩ := HZ.out.at)
    | (go_simp; go_at_call 32; refine (HT.out _ HZ.out).mono ?_; rintro e w' ⟨rfl, hw⟩; have HV := Lib.hid hw; clear hw))
  all_goals
    go_wp2
    go_ret
    exact ⟨rfl, HV.out⟩
end Go.Proofs.YtpmbdncackneoaaDoor

namespace Go.Proofs.YtpmbdncackneoaaDoor
open Go.RowKit HeaM Ma

set_option maxHeartbeats 1000000 in
set_option maxRecDepth 100000 in
theorem operate_eqt {C : Cx} {s' : Ms} {n : Nat} {sign a b : Int} {w : World} (hs : sign = 5 ∨ sign = 6) (h : Calls Tryd.prog 58 #[.pointer (some ⟨C.lo, 0, none⟩), .int .i64 sign, .int .u64 a, .int .u64 b] w (OkRun C s' n)) :
    Calls Tryd.prog 39 #[.pointer (some ⟨C.lo, 0, none⟩), .int .i64 sign, .int .u64 a, .int .u64 b] w (OkRun C s' n) := by
  have HE := Lib.hid h
  clear h
  rcases hs with rfl | rfl
  all_goals
    go_enter Tryd.func39, Tryd.ntmps39
    go_wp2_with fail
    refine HE.out.mono ?_
    rintro e w' ⟨rfl, hw⟩
    have HW := Lib.hid hw
    clear hw
    go_wp2
    go_ret
    exact ⟨rfl, HW.out⟩

theorem dc_op (C : Cx) (n a : Int) (str : ByteArray) : DoC C ⟨20, n, a, str⟩ := by
  intro w s s' m f fs h hf hw hd
  have hd' : (match s.stk with | b :: a :: t => operate C.m { s with stk := t } n a b | _ => none) = some (m, s') := hd
  rcases hs : s.stk with _ | ⟨vb, _ | ⟨va, t⟩⟩
  · rw [hs] at hd'; cases hd'
  · rw [hs] at hd'; cases hd'
  rw [hs] at hd'
  have hn := hw.1
  have htl : t.length ≤ 1000000000 := by rw [hs] at hn; simp only [List.length_cons] at hn; omega
  refine do_op n a str h hs (by omega) fun w1 h1 => ?_
  have hra : Rep s.W s.F va ∧ Rep s.W s.F vb := by
    obtain ⟨_, _, _, _, _, _, _, h⟩ := h
    exact ⟨h.g.rstk va (by rw [hs]; simp), h.g.rstk vb (by rw [hs]; simp)⟩
  by_cases hsp : s.fuel = 0 ∧ (n = 5 ∨ n = 6)
  · have hd2 : operate C.m { s with stk := t } n va vb = some (m, s') := hd'
    unfold operate at hd2
    rw [if_pos hsp.2] at hd2
    rw [if_pos (show ({ s with stk := t } : Ms).fuel = 0 from hsp.1)] at hd2
    simp only [Option.some.injEq, Prod.mk.injEq] at hd2
    obtain ⟨rfl, rfl⟩ := hd2
    exact operate_spent hsp.2 hsp.1 h1
  · have hnsp : s.fuel ≠ 0 ∨ ¬ (n = 5 ∨ n = 6) := by
      by_cases h0 : s.fuel = 0
      · exact .inr fun h5 => hsp ⟨h0, h5⟩
      · exact .inl h0
    rcases operate_shape (s := { s with stk := t }) (va := va) (vb := vb) hnsp hd' with ⟨x, y, rfl, rfl⟩ | ⟨i, l, j, k, rfl, rfl, hsg⟩
    · exact operate_num h1 hra.1 hra.2 (Lib.hid rfl) (Lib.hid rfl) hd' htl (by have := hw.2.1; show s.frs.length ≤ _; omega) (by have := hw.2.2.1; show s.trs.length ≤ _; omega)
    · by_cases h9 : n = 9
      · subst h9
        have hd2 : Ma.text C.m { s with stk := t } (l ++ k) = some (m, s') := hd'
        exact operate_cat h1 hra.1 hra.2 (Lib.hid rfl) (Lib.hid rfl) hd2 htl (by have := hw.2.1; show s.frs.length ≤ _; omega) (by have := hw.2.2.1; show s.trs.length ≤ _; omega)
      · have h56 : n = 5 ∨ n = 6 := by omega
        have hfu : s.fuel ≠ 0 := hnsp.elim id fun g => absurd h56 g
        have hd2 : operate C.m { s with stk := t } n (.txt i l) (.txt j k) = some (m, s') := hd'
        unfold operate at hd2
        rw [if_pos h56, if_neg (show ¬ ({ s with stk := t } : Ms).fuel = 0 from hfu)] at hd2
        simp only [truth, ok, Option.some.injEq, Prod.mk.injEq] at hd2
        obtain ⟨rfl, rfl⟩ := hd2
        exact operate_eqt h56 (equal_yes h56 htl (examine_txt h1 hfu hra.1 hra.2 (Lib.hid rfl) (Lib.hid rfl)))

set_option maxHeartbeats 1000000 in
set_option maxRecDepth 100000 in
/-- A global. -/
theorem dc_glob (C : Cx) (n a : Int) (str : ByteArray) : DoC C ⟨5, n, a, str⟩ := by
  intro w s s' m f fs h hf hw hd
  have hd' : (if 0 ≤ n then match C.m.globs[n.toNat]? with
    | some v => ok (Ma.push s v)
    | none => none else none) = some (m, s') := hd
  by_cases h0 : 0 ≤ n
  · rw [if_pos h0] at hd'
    rcases hg : C.m.globs[n.toNat]? with _ | v
    · rw [hg] at hd'; cases hd'
    · rw [hg] at hd'
      simp only [ok, Option.some.injEq, Prod.mk.injEq] at hd'
      obtain ⟨rfl, rfl⟩ := hd'
      obtain ⟨k, rfl⟩ : ∃ k : Nat, n = (k : Int) := ⟨n.toNat, by omega⟩
      rw [Int.toNat_natCast] at hg
      have hkl : k < C.m.globs.length := (List.getElem?_eq_some_iff.1 hg).1
      have h2 : RunE C (w.alloc (.cells #[.int .u8 5, .int .i64 (k : Int), .int .i64 a, .string str] 28)) s := h.ins 5 (k : Int) a str
      have hblk := cell_of_row _ w.heap.size 1 _ _ (0, 0) (heap_alloc_new w (.cells #[.int .u8 5, .int .i64 (k : Int), .int .i64 a, .string str] 28))
      simp only [List.getElem?_toArray, List.getElem?_cons_succ, List.getElem?_cons_zero] at hblk
      have HE := Lib.hid h2
      have hrep : Rep s.W s.F v := by
        obtain ⟨_, _, _, _, _, _, _, h3⟩ := h2
        exact h3.g.rglb v (List.mem_of_getElem? hg)
      have hgc : ∃ o c, C.vg = .slice o C.m.globs.length c ∧ C.m.globs.length ≤ c ∧ c ≤ maxLen ∧ ∀ W : World, RunE C W s → W.cell? ⟨C.M, 2, none⟩ = some C.vg ∧ ∃ b off, o = some ⟨b, off, none⟩ ∧ W.cell? ⟨b, off + k, none⟩ = some (.int .u64 (v.word : Int)) := by
        have key : ∀ W : World, RunE C W s → ∃ a c, C.vg = .slice (some a) C.m.globs.length c ∧ C.m.globs.length ≤ c ∧ c ≤ maxLen ∧ a.spot = none ∧ W.cell? (a.add k) = some (.int .u64 (v.word : Int)) := by
          rintro W ⟨_, _, _, _, _, _, _, h3⟩
          rcases (h3.fit.stat W h3.g.kept).2.1 with ⟨_, hnil⟩ | ⟨a, c, hv, hl, hm, hc⟩
          · have := congrArg List.length hnil
            simp only [Ws, List.length_map, List.length_nil] at this
            omega
          · have e : (Ws (C.m.globs.map V.word)).length = C.m.globs.length := by simp [Ws]
            rw [e] at hv hl
            have h0 := hc 0 (.int .u64 ((C.m.globs[0]'(by omega)).word : Int)) (by
              rw [Ws, List.getElem?_map, List.getElem?_map, List.getElem?_eq_getElem (by omega)]
              rfl)
            have hsp : a.spot = none := by
              have := World.cell?_spot h0
              unfold Addr.add at this
              rw [if_pos rfl] at this
              exact this
            exact ⟨a, c, hv, hl, hm, hsp, hc k _ (by
              rw [Ws, List.getElem?_map, List.getElem?_map, hg]
              rfl)⟩
        obtain ⟨a0, c0, hv, hl, hm, hsp, _⟩ := key _ h2
        refine ⟨some a0, c0, hv, hl, hm, fun W hW => ⟨?_, ?_⟩⟩
        · obtain ⟨_, _, _, _, _, _, _, h3⟩ := hW
          exact h3.mach.2.2
        · obtain ⟨a1, c1, hv1, _, _, _, hc1⟩ := key W hW
          rw [hv] at hv1
          injection hv1 with hv1 _ _
          injection hv1 with hv1
          subst hv1
          obtain ⟨b, off, spot⟩ := a0
          obtain rfl : spot = none := hsp
          rw [add_none] at hc1
          exact ⟨b, off, rfl, hc1⟩
      obtain ⟨o, c, hvg, hgc1, hgc2, hgc3⟩ := hgc
      have HG := Lib.hid hgc3
      have HP := Lib.hid fun (W : World) (h : RunE C W s) => push_t (v := v) h hrep (Lib.hid rfl) (by have := hw.1; omega)
      have hki : (k : Int) < (C.m.globs.length : Int) := by omega
      unfold maxLen at hgc2
      clear h h2 hf hw hd hg hrep hgc3
      obtain ⟨c0, m0⟩ := HE.out.at
      obtain ⟨m2, b, off, rfl, cg⟩ := HG.out _ HE.out
      rw [hvg] at m2
      generalize v.word = x at *
      generalize C.m.globs.length = GL at *
      go_enter Tryd.func20, Tryd.ntmps20
      go_wp2_with fail
      generalize (w.alloc (.cells #[.int .u8 5, .int .i64 (k : Int), .int .i64 a, .string str] 28)) = w1 at *
      have HD := Lib.hid (HP.out _ (HE.out.drewN 1))
      go_region_law (first
        | (go_simp; go_at_call 30; refine HD.out.mono ?_; rintro e w2 ⟨rfl, hw2⟩; have HW2 := Lib.hid hw2; clear hw2))
      all_goals
        go_wp2
        go_ret
        exact ⟨rfl, HW2.out⟩
  · rw [if_neg h0] at hd'; cases hd'
end Go.Proofs.YtpmbdncackneoaaDoor

namespace Go.Proofs.YtpmbdncackneoaaDoor
open Go.RowKit HeaM Ma

theorem sizeWord (W : World) : (sizeOf (Tryd.prog.elem 52)).run Tryd.prog W = .ok 1 W := by kernel_rfl
theorem cutW (o : Option Addr) (n c k : Nat) (x : Int) (hx : x = (k : Int)) (hk : k ≤ c) (ho : o = none ∨ ∃ g, o = some ⟨g, 0, none⟩) (W : World) :
    (Instr.slice 52 (.slice o n c) none (some (.int .i64 x)) none).run Tryd.prog W = .ok (.slice o k c) W := by
  subst hx
  have ht : Tryd.prog.underlying 52 = some (.slice (Tryd.prog.elem 52)) := by kernel_rfl
  rw [run_slice_h W _ o _ c ht .i64 k (by omega) (by omega), sizeWord]
  show Result.ok (sliced o 0 (k : Int).toNat c 1) W = _
  rw [Int.toNat_natCast]
  unfold sliced
  rcases ho with rfl | ⟨g, rfl⟩
  · simp
  · simp [add_none]
theorem own_at0 {w : World} {base : Nat} {e : TypeId} {size n c m : Nat} {o : Option Addr} {xs : List Value} (h : w.ownsRow base e size (.slice o n c) m xs) : o = none ∨ ∃ g, o = some ⟨g, 0, none⟩ := by
  rcases h.2 with ⟨h1, _⟩ | ⟨g, cap, cur, h1, _⟩
  · injection h1 with h1 _ _
    exact .inl h1
  · injection h1 with h1 _ _
    exact .inr ⟨g, h1⟩
theorem own_cut0 {w : World} {base : Nat} {e : TypeId} {size cap n m : Nat} {o : Option Addr} {xs ys : List Value} (h : w.ownsRow base e size (.slice o n cap) n xs) (hm : m ≤ n) (hy : xs.take (m * size) = ys) : w.ownsRow base e size (.slice o m cap) m ys := by
  rcases own_at0 h with rfl | ⟨g, rfl⟩
  · rcases h.2 with ⟨h1, h2⟩ | ⟨g, cap', cur, h1, _⟩
    · injection h1 with _ _ h3
      subst h2 h3
      obtain rfl : m = 0 := by omega
      have h0 := h.1
      rw [Nat.zero_mul] at h0
      have : xs = [] := List.eq_nil_of_length_eq_zero h0
      subst this
      subst hy
      exact ⟨by simp, .inl ⟨rfl, rfl⟩⟩
    · injection h1 with h1 _ _
      cases h1
  · exact own_cut h hm hy
theorem ownBlock_len (o : Option Addr) (n c n' c' : Nat) : (Value.slice o n c).ownBlock = (Value.slice o n' c').ownBlock := by cases o <;> rfl

set_option maxHeartbeats 4000000 in
set_option maxRecDepth 100000 in
theorem dc_slide (C : Cx) (n a : Int) (str : ByteArray) : DoC C ⟨18, n, a, str⟩ := by
  intro w s s' m f fs h hf hw hd
  have hd' : (match s.stk with | v :: t => if 0 ≤ n ∧ n ≤ t.length then ok { s with stk := v :: t.drop n.toNat } else none | [] => none) = some (m, s') := hd
  rcases hs : s.stk with _ | ⟨v, t⟩
  · rw [hs] at hd'; cases hd'
  rw [hs] at hd'
  simp only at hd'
  by_cases hn : 0 ≤ n ∧ n ≤ t.length
  · rw [if_pos hn] at hd'
    simp only [ok, Option.some.injEq, Prod.mk.injEq] at hd'
    obtain ⟨rfl, rfl⟩ := hd'
    obtain ⟨k, rfl⟩ : ∃ k : Nat, n = (k : Int) := ⟨n.toNat, by omega⟩
    rw [Int.toNat_natCast]
    have hkt : k ≤ t.length := by omega
    have htl : t.length ≤ 100000000 := by have := hw.1; rw [hs] at this; simp only [List.length_cons] at this; omega
    refine do_lead 18 (k : Int) a str h (by omega) fun wa0 h1 => ?_
    clear h hd
    obtain ⟨hlt, hx⟩ := h1.insc 18 (k : Int) a str
    have HP := Lib.hid (pop_k (h1.ins 18 (k : Int) a str) hs (by have := hw.1; omega))
    have hrep : Rep s.W s.F v := by
      obtain ⟨_, _, _, _, _, _, _, h3⟩ := h1
      exact h3.g.rstk v (by rw [hs]; simp)
    clear h1 hw
    go_enter Tryd.func44, Tryd.ntmps44
    go_wp2_with fail
    refine HP.out.mono ?_
    rintro e w1 ⟨rfl, h2, hk2⟩
    have hx2 := (hk2.cell (p := ⟨wa0.heap.size, 1, none⟩) (by simp) (by show wa0.heap.size ≠ C.lo; omega)).trans hx
    obtain ⟨vfr, vst, vtr, vout, vdn, v1, v2, h3⟩ := h2
    have ho := h3.g.st
    obtain ⟨o, cap, rfl, hcap, hmax⟩ := own_slice ho
    change w1.ownsRow C.lo 31 1 (.slice o t.length cap) t.length (stkW t) at ho
    change t.length ≤ cap at hcap
    have hcut := own_cut0 ho (m := t.length - k) (ys := stkW (t.drop k)) (by omega) (by
      have := stkW_drop t (t.length - k)
      rw [show t.length - (t.length - k) = k by omega] at this
      rw [Nat.mul_one]
      exact this.symm)
    have hlen : (t.drop k).length = t.length - k := List.length_drop
    have hG := h3.g.stack (stk' := t.drop k) (Kept.refl _ _) (by rw [hlen]; exact hcut) (fun q hq => .inl ((ownBlock_len _ _ _ _ _).trans hq)) (fun u hu => h3.g.rstk u (List.mem_of_mem_drop hu))
    have hF : ∀ nq, RunE C ((w1.drewN nq).setCell ⟨C.lo, 2, none⟩ (.slice o (t.length - k) cap)) { s with stk := t.drop k } := fun nq => by
      have h4 := h3.drewN nq
      have hG4 := h4.g.stack (stk' := t.drop k) (Kept.refl _ _) (by rw [hlen]; exact hcut) (fun q hq => .inl ((ownBlock_len _ _ _ _ _).trans hq)) (fun u hu => h3.g.rstk u (List.mem_of_mem_drop hu))
      exact ⟨_, _, _, _, _, _, _, RunF.setR h4.fit ⟨_, _, _, _, _, _, h4.cell, rfl⟩ hG4⟩
    have HF := Lib.hid hF
    have c2 := h3.cells.2.2.1
    have f2 := h3.free 2
    have hct := cutW o t.length cap (t.length - k) ((t.length : Int) - (k : Int)) (by omega) (by omega) (own_at0 ho)
    have hw1 : IntKind.i64.wrap ((t.length : Int) - (k : Int)) = (t.length : Int) - (k : Int) := IntWalk.i64_in _ (by omega)
    have HPU : Hid (∀ W, RunE C W { s with stk := t.drop k } → Calls Tryd.prog 30 #[.pointer (some ⟨C.lo, 0, none⟩), .int .u64 (v.word : Int)] W (VoidRun C { s with stk := v :: t.drop k })) := fun W hW => push_t (s := { s with stk := t.drop k }) hW hrep (Lib.hid rfl) (by show (t.drop k).length ≤ _; omega)
    have c2' : w1.cell? ⟨C.lo, 2, none⟩ = some (.slice o t.length cap) := c2
    have hti : (t.length : Int) ≤ 100000000 := by omega
    have hki : (k : Int) ≤ (t.length : Int) := by omega
    clear h3 ho hcut hG hF c2 hk2 hx HP hs hf hrep hn
    generalize t.length = TL at *
    generalize v.word = x at *
    go_wp2_with fail
    go_region
    go_wp2_with fail
    refine (HPU.out _ (HF.out 1)).mono ?_
    rintro e w' ⟨rfl, hw'⟩
    have HW := Lib.hid hw'
    clear hw'
    go_wp2
    refine bodyPost_ret (results_none rfl _ _ _) rfl ?_
    exact ⟨rfl, HW.out⟩
  · rw [if_neg hn] at hd'; cases hd'
end Go.Proofs.YtpmbdncackneoaaDoor

namespace Go.Proofs.YtpmbdncackneoaaDoor
open Go.RowKit HeaM Ma

theorem RunE.textB {C : Cx} {w : World} {s : Ms} {i : Nat} {l : List UInt8} {x : Nat} (h : RunE C w s) (hr : Rep s.W s.F (.txt i l)) (hx : Hid ((V.txt i l).word = x)) :
    Calls Tryd.prog 59 #[.pointer (some ⟨C.H, 0, none⟩), .int .u64 (x : Int)] w fun e w' => e = .returned (.string ⟨l.toArray⟩) ∧ RunE C w' s ∧ Below w.heap.size w w' := by
  obtain ⟨a1, a2, a3, a4, a5, a6, a7, h1⟩ := h
  exact (text_v w h1.g.heap h1.g.len (by have := h1.g.wl; have := h1.fit.q; omega) h1.g.ws hr hx).mono fun e w' ⟨h2, h3⟩ => ⟨h2, RunE.below ⟨a1, a2, a3, a4, a5, a6, a7, h1⟩ h3, h3⟩

set_option maxHeartbeats 4000000 in
set_option maxRecDepth 100000 in
theorem is_txt {C : Cx} {s : Ms} {i : Nat} {l : List UInt8} {x : Nat} {w : World} (n a : Int) (str : ByteArray) (h : RunE C w s) (hx : Rep s.W s.F (.txt i l)) (ha : Hid ((V.txt i l).word = x)) :
    Calls Tryd.prog 43 #[.pointer (some ⟨C.lo, 0, none⟩), .agg #[.int .u8 15, .int .i64 n, .int .i64 a, .string str], .int .u64 (x : Int)] w fun e w' => e = .returned (.bool (decide (l = str.data.toList))) ∧ RunE C w' s := by
  have h1 : RunE C (w.alloc (.cells #[.int .u8 15, .int .i64 n, .int .i64 a, .string str] 28)) s := h.ins 15 n a str
  have hblk := cell_of_row _ w.heap.size 3 _ _ (0, 0) (heap_alloc_new w (.cells #[.int .u8 15, .int .i64 n, .int .i64 a, .string str] 28))
  simp only [List.getElem?_toArray, List.getElem?_cons_succ, List.getElem?_cons_zero] at hblk
  have hlt : w.heap.size < (w.alloc (.cells #[.int .u8 15, .int .i64 n, .int .i64 a, .string str] 28)).heap.size := by simp
  have HX : Hid (Rep s.W s.F (.txt i l)) := hx
  have heq : (l == str.toList) = decide (l = str.data.toList) := by
    rw [ByteArray.toList_eq, Bool.eq_iff_iff]
    simp
  clear h hx
  go_enter Tryd.func43, Tryd.ntmps43
  go_wp2_with fail
  generalize (w.alloc (.cells #[.int .u8 15, .int .i64 n, .int .i64 a, .string str] 28)) = w1 at *
  obtain ⟨c0, m0⟩ := h1.at
  have H1 := Lib.hid h1
  have KD : Hid (Calls Tryd.prog 54 #[.pointer (some ⟨C.H, 0, none⟩), .int .u64 (x : Int)] w1.drew fun e w' => e = .returned (.int .u8 3) ∧ ∃ mq, w' = w1.drewN mq) := h1.kind HX.out ha 1
  have HT := Lib.hid fun (W : World) (h : RunE C W s) => h.textB HX.out ha
  clear h1
  go_region_law (first
    | (go_simp; go_at_call 54; (with_reducible refine KD.out.mono ?_); rintro e w' ⟨rfl, mq, rfl⟩; have HM : Hid (RunE C (w1.drewN mq) s) := H1.out.drewN mq)
    | (go_simp; go_at_call 59; (with_reducible refine (HT.out _ HM.out).mono ?_); rintro e w4 ⟨rfl, hw4, hb4⟩; have HZ := Lib.hid hw4; have z3 := (hb4.cell (p := ⟨w.heap.size, 3, none⟩) hlt).trans hblk; clear hw4 hb4))
  all_goals
    go_wp2
    go_ret
    exact ⟨rfl, HZ.out⟩

set_option maxHeartbeats 4000000 in
set_option maxRecDepth 100000 in
theorem dc_istext (C : Cx) (n a : Int) (str : ByteArray) : DoC C ⟨15, n, a, str⟩ := by
  intro w s s' m f fs h hf hw hd
  have hd' : (match s.stk with | .txt _ l :: t => truth { s with stk := t } (decide (l = str.data.toList)) | _ => none) = some (m, s') := hd
  rcases hs : s.stk with _ | ⟨v, t⟩
  · rw [hs] at hd'; cases hd'
  rw [hs] at hd'
  rcases v with x | ⟨i, l⟩ | ⟨i, k⟩ | ⟨i, p⟩
  · cases hd'
  · simp only [truth, ok, Option.some.injEq, Prod.mk.injEq] at hd'
    obtain ⟨rfl, hs'⟩ := hd'
    have htl : t.length ≤ 100000000 := by have := hw.1; rw [hs] at this; simp only [List.length_cons] at this; omega
    have h1 : RunE C (w.alloc (.cells #[.int .u8 15, .int .i64 n, .int .i64 a, .string str] 28)) s := h.ins 15 n a str
    have hrep : Rep s.W s.F (.txt i l) := by
      obtain ⟨_, _, _, _, _, _, _, h3⟩ := h
      exact h3.g.rstk _ (by rw [hs]; simp)
    have hblk := fun j => cell_of_row _ w.heap.size j _ _ (0, 0) (heap_alloc_new w (.cells #[.int .u8 15, .int .i64 n, .int .i64 a, .string str] 28))
    have b0 := hblk 0
    have b1 := hblk 1
    have b2 := hblk 2
    have b3 := hblk 3
    simp only [List.getElem?_toArray, List.getElem?_cons_succ, List.getElem?_cons_zero] at b0 b1 b2 b3
    have hlt := h.lt
    have hsz : w.heap.size < (w.alloc (.cells #[.int .u8 15, .int .i64 n, .int .i64 a, .string str] 28)).heap.size := by simp
    have HPK := Lib.hid fun (W : World) (h : RunE C W s) => pop_k h hs (by rw [hs]; simp only [List.length_cons]; omega)
    have HI := Lib.hid fun (W : World) (h : RunE C W { s with stk := t }) => is_txt (x := (V.txt i l).word) n a str h hrep (Lib.hid rfl)
    have HTR : Hid (∀ W : World, RunE C W { s with stk := t } → Calls Tryd.prog 42 #[.pointer (some ⟨C.lo, 0, none⟩), .bool (decide (l = str.data.toList))] W (OkRun C s' 0)) := fun W h => by
      rw [← hs']
      exact truth_t (decide (l = str.data.toList)) h (by show t.length ≤ _; omega)
    clear h hf hw hd hrep hblk hs'
    generalize decide (l = str.data.toList) = bq at *
    go_enter Tryd.func20, Tryd.ntmps20
    go_wp2_with fail
    generalize (w.alloc (.cells #[.int .u8 15, .int .i64 n, .int .i64 a, .string str] 28)) = w1 at *
    have HD : Hid (RunE C w1.drew s) := h1.drewN 1
    clear h1
    go_region_law (first
      | (go_simp; go_at_call 38; (with_reducible refine (HPK.out _ HD.out).mono ?_); rintro e w2 ⟨rfl, hw2, hk2⟩; have H2 := Lib.hid hw2; have y0 := (hk2.cell (p := ⟨w.heap.size, 0, none⟩) hsz (by show w.heap.size ≠ C.lo; omega)).trans b0; have y1 := (hk2.cell (p := ⟨w.heap.size, 1, none⟩) hsz (by show w.heap.size ≠ C.lo; omega)).trans b1; have y2 := (hk2.cell (p := ⟨w.heap.size, 2, none⟩) hsz (by show w.heap.size ≠ C.lo; omega)).trans b2; have y3 := (hk2.cell (p := ⟨w.heap.size, 3, none⟩) hsz (by show w.heap.size ≠ C.lo; omega)).trans b3; clear hw2 hk2)
      | (go_simp; go_at_call 43; refine (HI.out _ H2.out).mono ?_; rintro e w3 ⟨rfl, hw3⟩; have H3 := Lib.hid hw3; clear hw3)
      | (go_simp; go_at_call 42; refine (HTR.out _ H3.out).mono ?_; rintro e w4 ⟨rfl, hw4⟩; have H4 := Lib.hid hw4; clear hw4))
    all_goals
      go_wp2
      go_ret
      exact ⟨rfl, H4.out⟩
  · cases hd'
  · cases hd'
end Go.Proofs.YtpmbdncackneoaaDoor
