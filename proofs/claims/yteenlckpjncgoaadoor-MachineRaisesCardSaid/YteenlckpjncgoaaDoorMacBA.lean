/- Two texts compared. -/
import Derived.Test.YteenlckpjncgoaaDoorGMb
import Derived.BigRegion
namespace Go.Proofs.YteenlckpjncgoaaDoor
open Go.RowKit HeaM Ma

theorem isfun_t (k : Int) (h : k = 3) (w : World) : Calls Tryd.prog 96 #[.int .u8 k] w fun e w' => e = .returned (.bool false) ∧ w = w' := by
  subst h
  go_enter Tryd.func96, Tryd.ntmps96
  go_wp2
  go_ret
  exact ⟨rfl, rfl⟩

/-- Where an execution and its heap stand. -/
theorem RunE.at {C : Cx} {w : World} {s : Ms} (h : RunE C w s) : w.cell? ⟨C.lo, 0, none⟩ = some (.pointer (some ⟨C.M, 0, none⟩)) ∧ w.cell? ⟨C.M, 0, none⟩ = some (.pointer (some ⟨C.H, 0, none⟩)) := by
  obtain ⟨_, _, _, _, _, _, _, h1⟩ := h
  exact ⟨h1.cells.1, h1.mach.1⟩
theorem RunE.kind {C : Cx} {w : World} {s : Ms} {v : V} {x : Nat} (h : RunE C w s) (hr : Rep s.W s.F v) (hx : Hid (v.word = x)) (nq : Nat) :
    Calls Tryd.prog 65 #[.pointer (some ⟨C.H, 0, none⟩), .int .u64 (x : Int)] (w.drewN nq) fun e w' => e = .returned (.int .u8 (v.kind : Int)) ∧ ∃ mq, w' = w.drewN mq := by
  obtain ⟨_, _, _, _, _, _, _, h1⟩ := h.drewN nq
  exact (kind_v (w.drewN nq) h1.g.heap h1.g.len (by have := h1.g.wl; have := h1.fit.q; omega) hr hx).mono fun e w' ⟨h2, mq, h3⟩ => ⟨h2, nq + mq, by rw [h3]; simp [World.drewN, Nat.add_assoc]⟩
theorem RunE.len {C : Cx} {w : World} {s : Ms} {v : V} {x : Nat} (h : RunE C w s) (hr : Rep s.W s.F v) (hx : Hid (v.word = x)) (hn : v.isNum = false) (nq : Nat) :
    Calls Tryd.prog 67 #[.pointer (some ⟨C.H, 0, none⟩), .int .u64 (x : Int)] (w.drewN nq) fun e w' => e = .returned (.int .i64 (v.size : Int)) ∧ ∃ mq, w' = w.drewN mq := by
  obtain ⟨_, _, _, _, _, _, _, h1⟩ := h.drewN nq
  exact (len_v (w.drewN nq) h1.g.heap h1.g.len (by have := h1.g.wl; have := h1.fit.q; omega) hr hx hn).mono fun e w' ⟨h2, mq, h3⟩ => ⟨h2, nq + mq, by rw [h3]; simp [World.drewN, Nat.add_assoc]⟩
theorem RunE.text {C : Cx} {w : World} {s : Ms} {i : Nat} {l : List UInt8} {x : Nat} (h : RunE C w s) (hr : Rep s.W s.F (.txt i l)) (hx : Hid ((V.txt i l).word = x)) :
    Calls Tryd.prog 10 #[.pointer (some ⟨C.H, 0, none⟩), .int .u64 (x : Int)] w fun e w' => e = .returned (.string ⟨l.toArray⟩) ∧ RunE C w' s := by
  obtain ⟨a1, a2, a3, a4, a5, a6, a7, h1⟩ := h
  exact (text_v w h1.g.heap h1.g.len (by have := h1.g.wl; have := h1.fit.q; omega) h1.g.ws hr hx).mono fun e w' ⟨h2, h3⟩ => ⟨h2, RunE.below ⟨a1, a2, a3, a4, a5, a6, a7, h1⟩ h3⟩
theorem RunE.wlt {C : Cx} {w : World} {s : Ms} {v : V} (h : RunE C w s) (hr : Rep s.W s.F v) : v.word < 18446744073709551616 := by
  obtain ⟨_, _, _, _, _, _, _, h1⟩ := h
  exact word_lt hr (by have := h1.g.wl; have := h1.fit.q; omega)

set_option maxHeartbeats 4000000 in
set_option maxRecDepth 100000 in
theorem examine_txt {C : Cx} {s : Ms} {i j : Nat} {l m : List UInt8} {a b : Nat} {w : World} (h : RunE C w s) (hf : s.fuel ≠ 0) (hx : Rep s.W s.F (.txt i l)) (hy : Rep s.W s.F (.txt j m)) (ha : Hid ((V.txt i l).word = a)) (hb : Hid ((V.txt j m).word = b)) :
    Calls Tryd.prog 90 #[.pointer (some ⟨C.lo, 0, none⟩), .int .u64 (a : Int), .int .u64 (b : Int)] w fun e w' => e = .returned (.int .i64 (verd (decide (l = m)))) ∧ RunE C w' { s with fuel := s.fuel - 1 } := by
  have HS := Lib.hid (step_yes h hf)
  have hlt : a < 18446744073709551616 := by rw [← ha.out]; exact h.wlt hx
  have hlt2 : b < 18446744073709551616 := by rw [← hb.out]; exact h.wlt hy
  have HX : Hid (Rep s.W s.F (.txt i l)) := hx
  have HY : Hid (Rep s.W s.F (.txt j m)) := hy
  have hl1 : (l.length : Int) ≤ 1000000 := by have := hx.2.2; omega
  have hl2 : (m.length : Int) ≤ 1000000 := by have := hy.2.2; omega
  clear h hf hx hy
  go_enter Tryd.func90, Tryd.ntmps90
  go_wp2_with fail
  refine HS.out.mono ?_
  rintro e w1 ⟨rfl, h⟩
  have H := Lib.hid h
  clear h
  obtain ⟨c0, m0⟩ := H.out.at
  have HK : Hid (Calls Tryd.prog 65 #[.pointer (some ⟨C.H, 0, none⟩), .int .u64 (a : Int)] w1 fun e w' => e = .returned (.int .u8 3) ∧ ∃ mq, w' = w1.drewN mq) := H.out.kind HX.out ha 0
  have HIA : Hid (∀ w, Calls Tryd.prog 56 #[.int .u64 (a : Int)] w fun e w' => e = .returned (.bool false) ∧ w = w') := fun w => isnum_v (.txt i l) a w ha hlt
  have HIB : Hid (∀ w, Calls Tryd.prog 56 #[.int .u64 (b : Int)] w fun e w' => e = .returned (.bool false) ∧ w = w') := fun w => isnum_v (.txt j m) b w hb hlt2
  go_wp2_with fail
  refine HK.out.mono ?_
  rintro e w' ⟨rfl, nq, rfl⟩
  have HW : Hid (RunE C (w1.drewN nq) { s with fuel := s.fuel - 1 }) := H.out.drewN nq
  clear c0 m0 H HK
  generalize w1.drewN nq = w2 at *
  obtain ⟨c0, m0⟩ := HW.out.at
  go_wp2_with fail
  refine (HIA.out _).mono ?_
  rintro e w' ⟨rfl, rfl⟩
  go_wp2_with fail
  refine (HIB.out _).mono ?_
  rintro e w' ⟨rfl, rfl⟩
  go_wp2_with fail
  refine (isfun_t _ rfl _).mono ?_
  rintro e w' ⟨rfl, rfl⟩
  have KB : Hid (∀ nq, Calls Tryd.prog 65 #[.pointer (some ⟨C.H, 0, none⟩), .int .u64 (b : Int)] (w2.drewN nq) fun e w' => e = .returned (.int .u8 3) ∧ ∃ mq, w' = w2.drewN mq) := fun nq => HW.out.kind HY.out hb nq
  have LA : Hid (∀ nq, Calls Tryd.prog 67 #[.pointer (some ⟨C.H, 0, none⟩), .int .u64 (a : Int)] (w2.drewN nq) fun e w' => e = .returned (.int .i64 (l.length : Int)) ∧ ∃ mq, w' = w2.drewN mq) := fun nq => HW.out.len HX.out ha rfl nq
  have LB : Hid (∀ nq, Calls Tryd.prog 67 #[.pointer (some ⟨C.H, 0, none⟩), .int .u64 (b : Int)] (w2.drewN nq) fun e w' => e = .returned (.int .i64 (m.length : Int)) ∧ ∃ mq, w' = w2.drewN mq) := fun nq => HW.out.len HY.out hb rfl nq
  by_cases hlen : l.length = m.length
  · have e1 : ((l.length : Int) != (m.length : Int)) = false := by simp [hlen]
    have e2 : ((l.length : Int) == (m.length : Int)) = true := by simp [hlen]
    go_wp2_with fail
    go_quiet (first
      | (go_at_call 65; with_reducible exact KB.out _)
      | (go_at_call 67; with_reducible exact LA.out _)
      | (go_at_call 67; with_reducible exact LB.out _))
    have HW3 : Hid (RunE C (w2.drewN nq) { s with fuel := s.fuel - 1 }) := HW.out.drewN nq
    clear c0 m0 HW KB LA LB e1 e2 HIA HIB
    generalize w2.drewN nq = w3 at *
    obtain ⟨c0, m0⟩ := HW3.out.at
    have HTA := Lib.hid fun (W : World) (h : RunE C W { s with fuel := s.fuel - 1 }) => h.text HX.out ha
    have HTB := Lib.hid fun (W : World) (h : RunE C W { s with fuel := s.fuel - 1 }) => h.text HY.out hb
    have heq : (l == m) = decide (l = m) := by
      by_cases e : l = m
      · simp [e]
      · simp [e]
    go_wp2_with fail
    have HD : Hid (RunE C w3.drew { s with fuel := s.fuel - 1 }) := HW3.out.drewN 1
    go_region_law (first
      | (go_simp; go_at_call 10; (with_reducible refine (HTA.out _ HD.out).mono ?_); rintro e w4 ⟨rfl, hw4⟩; have HA4 := Lib.hid hw4; clear hw4; obtain ⟨y0, y1⟩ := HA4.out.at)
      | (go_simp; go_at_call 10; (with_reducible refine (HTB.out _ HD.out).mono ?_); rintro e w4 ⟨rfl, hw4⟩; have HB4 := Lib.hid hw4; clear hw4; obtain ⟨y0, y1⟩ := HB4.out.at)
      | (go_simp; go_at_call 10; (with_reducible refine (HTB.out _ HA4.out).mono ?_); rintro e w5 ⟨rfl, hw5⟩; have HZ := Lib.hid hw5; clear hw5; obtain ⟨z0, z1⟩ := HZ.out.at)
      | (go_simp; go_at_call 10; (with_reducible refine (HTA.out _ HB4.out).mono ?_); rintro e w5 ⟨rfl, hw5⟩; have HZ := Lib.hid hw5; clear hw5; obtain ⟨z0, z1⟩ := HZ.out.at)
      | (go_simp; go_at_call 95; refine (msame_t _ _).mono ?_; rintro e w' ⟨rfl, rfl⟩))
    all_goals
      go_wp2
      go_ret
      exact ⟨rfl, HZ.out⟩
  · have hne : decide (l = m) = false := by
      rw [decide_eq_false_iff_not]
      rintro rfl
      exact hlen rfl
    have e1 : ((l.length : Int) != (m.length : Int)) = true := by
      rw [bne_iff_ne]
      omega
    have e2 : ((l.length : Int) == (m.length : Int)) = false := by
      rw [beq_eq_false_iff_ne]
      omega
    have HNE := Lib.hid hne
    clear hne hlen
    go_wp2_with fail
    go_quiet (first
      | (go_at_call 65; with_reducible exact KB.out _)
      | (go_at_call 67; with_reducible exact LA.out _)
      | (go_at_call 67; with_reducible exact LB.out _))
    have HW3 : Hid (RunE C (w2.drewN nq) { s with fuel := s.fuel - 1 }) := HW.out.drewN nq
    clear c0 m0 HW KB LA LB e1 e2 HIA HIB
    generalize w2.drewN nq = w3 at *
    go_wp2_with fail
    go_ret
    exact ⟨by rw [HNE.out]; rfl, HW3.out⟩

set_option maxHeartbeats 4000000 in
set_option maxRecDepth 100000 in
/-- Two texts, one behind the other. -/
theorem operate_cat {C : Cx} {s s' : Ms} {n i j : Nat} {l m : List UInt8} {a b : Nat} {w : World} (h : RunE C w s) (hx : Rep s.W s.F (.txt i l)) (hy : Rep s.W s.F (.txt j m)) (ha : Hid ((V.txt i l).word = a)) (hb : Hid ((V.txt j m).word = b)) (hr : Ma.text C.m s (l ++ m) = some (n, s')) (hn : s.stk.length ≤ 1000000000) (hf : s.frs.length ≤ 1000000000) (htn : s.trs.length ≤ 1000000000) :
    Calls Tryd.prog 50 #[.pointer (some ⟨C.lo, 0, none⟩), .int .i64 9, .int .u64 (a : Int), .int .u64 (b : Int)] w (OkRun C s' n) := by
  have HX : Hid (Rep s.W s.F (.txt i l)) := hx
  have HY : Hid (Rep s.W s.F (.txt j m)) := hy
  have hsz : ¬ 9223372036854775807 < l.length + m.length := by have := hx.2.2; have := hy.2.2; omega
  have hcat : ((⟨l.toArray⟩ : ByteArray) ++ ⟨m.toArray⟩).data.toList = l ++ m := by rw [ByteArray.data_append]; simp
  have HT := Lib.hid fun (W : World) (h : RunE C W s) => text_t' (⟨l.toArray⟩ ++ ⟨m.toArray⟩) h hcat hr hn hf htn
  have H := Lib.hid h
  have KA : Hid (∀ nq, Calls Tryd.prog 65 #[.pointer (some ⟨C.H, 0, none⟩), .int .u64 (a : Int)] (w.drewN nq) fun e w' => e = .returned (.int .u8 3) ∧ ∃ mq, w' = w.drewN mq) := fun nq => H.out.kind HX.out ha nq
  obtain ⟨c0, m0⟩ := h.at
  clear h hx hy hr hcat
  go_enter Tryd.func50, Tryd.ntmps50
  go_wp2_with fail
  refine (KA.out 0).mono ?_
  rintro e w' ⟨rfl, nq, rfl⟩
  have HW : Hid (RunE C (w.drewN nq) s) := H.out.drewN nq
  clear c0 m0 H KA
  generalize w.drewN nq = w2 at *
  obtain ⟨c0, m0⟩ := HW.out.at
  have KB : Hid (∀ nq, Calls Tryd.prog 65 #[.pointer (some ⟨C.H, 0, none⟩), .int .u64 (b : Int)] (w2.drewN nq) fun e w' => e = .returned (.int .u8 3) ∧ ∃ mq, w' = w2.drewN mq) := fun nq => HW.out.kind HY.out hb nq
  go_wp2_with fail
  refine (KB.out 0).mono ?_
  rintro e w' ⟨rfl, nq, rfl⟩
  have HW3 : Hid (RunE C (w2.drewN nq) s) := HW.out.drewN nq
  clear c0 m0 HW KB
  generalize w2.drewN nq = w3 at *
  obtain ⟨c0, m0⟩ := HW3.out.at
  have HTA := Lib.hid fun (W : World) (h : RunE C W s) => h.text HX.out ha
  have HTB := Lib.hid fun (W : World) (h : RunE C W s) => h.text HY.out hb
  go_wp2_with fail
  have HD : Hid (RunE C w3.drew s) := HW3.out.drewN 1
  go_region_law (first
    | (go_simp; go_at_call 10; (with_reducible refine (HTA.out _ HD.out).mono ?_); rintro e w4 ⟨rfl, hw4⟩; have HA4 := Lib.hid hw4; clear hw4; obtain ⟨y0, y1⟩ := HA4.out.at)
    | (go_simp; go_at_call 10; (with_reducible refine (HTB.out _ HD.out).mono ?_); rintro e w4 ⟨rfl, hw4⟩; have HB4 := Lib.hid hw4; clear hw4; obtain ⟨y0, y1⟩ := HB4.out.at)
    | (go_simp; go_at_call 10; (with_reducible refine (HTB.out _ HA4.out).mono ?_); rintro e w5 ⟨rfl, hw5⟩; have HZ := Lib.hid hw5; clear hw5; obtain ⟨z0, z1⟩ := HZ.out.at)
    | (go_simp; go_at_call 10; (with_reducible refine (HTA.out _ HB4.out).mono ?_); rintro e w5 ⟨rfl, hw5⟩; have HZ := Lib.hid hw5; clear hw5; obtain ⟨z0, z1⟩ := HZ.out.at)
    | (go_simp; go_at_call 43; refine (HT.out _ HZ.out).mono ?_; rintro e w' ⟨rfl, hw⟩; have HV := Lib.hid hw; clear hw))
  all_goals
    go_wp2
    go_ret
    exact ⟨rfl, HV.out⟩
end Go.Proofs.YteenlckpjncgoaaDoor
