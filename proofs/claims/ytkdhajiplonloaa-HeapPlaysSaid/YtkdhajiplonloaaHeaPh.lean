/- The reference's Need, Words (of one object). -/
/- The reference's Words of a text. -/
import Derived.Test.YtkdhajiplonloaaHeaPf
namespace Go.Proofs.Ytkdhajiplonloaa
open Go.RowKit HeaM

/-- An append whose run is known, as a step of a region that draws. -/
theorem step_append_known {P : Program} {w w' : World} {ops : Array Oper} {o : Oper} {a : Act} {K : Act → World → Prop} {Q : Exit → Act → World → Prop} {E : Prop} (hgd : o.guard = none) (s x : Operand) (t u : TypeId)
    (ho : o.op = .call { callee := .builtin .append, args := #[s, x], argTypes := #[t, u] }) (v y v' : Value) (hs : a.eval s = v) (hx : a.eval x = y)
    (hr : (Builtin.append_ #[t, u] o.type #[v, y]).run P w = .ok v' w') (h : K (a.put o.dst v') w') : if Region.wanted o (yielded ops a.tmps) = true then Oper.wp P o a w K Q else E := by
  have hw : Region.wanted o (yielded ops a.tmps) = true := by simp [Region.wanted, hgd]
  rw [if_pos hw]
  unfold Oper.wp execOp
  simp only [ho, resolve, invoke, builtin, Sem.run_bind, Sem.run_pure, Result.andThen_ok, List.map_toArray, List.map_cons, List.map_nil, hs, hx, hr]
  exact h

theorem refneed_t (k on oc : Nat) (oo : Option Addr) (str : ByteArray) (w : World) (hon : on ≤ 100000000) (h3 : k ≠ 3) :
    Calls Try.prog 8 #[.agg #[.int .u8 (k : Int), .slice oo on oc, .string str]] w fun e w' => e = .returned (.int .i64 ((1 + on : Nat) : Int)) ∧ Below w.heap.size w w' := by
  have hk3 : ((k : Int) == 3) = false := by rw [beq_eq_false_iff_ne]; omega
  have hoi : (on : Int) ≤ 100000000 := by omega
  go_enter Try.func8, Try.ntmps8
  go_wp2_with fail
  go_ret
  refine ⟨?_, (Below.refl _ _).alloc (Nat.le_refl _) _⟩
  show Ending.returned (Value.int .i64 (1 + (on : Int))) = _
  rw [show ((1 + on : Nat) : Int) = 1 + (on : Int) by omega]
theorem refneed_text (on oc : Nat) (oo : Option Addr) (str : ByteArray) (w : World) (hs : str.size ≤ 100000000) :
    Calls Try.prog 8 #[.agg #[.int .u8 3, .slice oo on oc, .string str]] w fun e w' => e = .returned (.int .i64 ((need 3 str.size : Nat) : Int)) ∧ Below w.heap.size w w' := by
  have hsi : (str.size : Int) ≤ 100000000 := by omega
  have hn : ((need 3 str.size : Nat) : Int) = 1 + ((str.size : Int) + 7) / 8 := by
    show ((1 + (str.size + 7) / 8 : Nat) : Int) = _
    omega
  have HN := Lib.hid hn
  clear hn
  go_enter Try.func8, Try.ntmps8
  go_wp2_with fail
  go_ret
  refine ⟨?_, (Below.refl _ _).alloc (Nat.le_refl _) _⟩
  show Ending.returned (Value.int .i64 (1 + ((str.size : Int) + 7) / 8)) = _
  rw [HN.out]

set_option maxHeartbeats 4000000 in
set_option maxRecDepth 100000 in
theorem refwords_parts (g k : Nat) (pv : Value) (ps : List Nat) (str : ByteArray) (w : World) (hg : w.heap[g]? = some (.cells #[.int .u8 (k : Int), pv, .string str] 35 (0, 0))) (hp : RdW w pv ps) (hk : k < 256) (h3 : k ≠ 3) (hn : ps.length ≤ 10000000) :
    Calls Try.prog 13 #[.slice (some ⟨g, 0, none⟩) 1 1] w fun e w' => ∃ v', e = .returned v' ∧ OwnU w' w.heap.size v' ((ps.length * 256 + k) :: ps) ∧ Below w.heap.size w w' := by
  obtain ⟨c0, c1, c2⟩ := ob_cells hg
  have hgl := lt_of_block hg
  obtain ⟨o, cap, hv, hcap, hm⟩ := hp.slice
  rw [Ws_length] at hv hcap
  have hk3 : ((k : Int) != 3) = true := by rw [bne_iff_ne]; omega
  have hki : (k : Int) ≤ 255 := by omega
  have hni : (ps.length : Int) ≤ 10000000 := by omega
  have e0 : IntKind.u64.wrap (ps.length : Int) = (ps.length : Int) := by rw [IntKind.wrap_u64]; omega
  have ek : IntKind.u64.wrap (k : Int) = (k : Int) := by rw [IntKind.wrap_u64]; omega
  have e1 : IntKind.u64.wrap ((ps.length : Int) * 256) = (ps.length : Int) * 256 := by rw [IntKind.wrap_u64]; omega
  have e2 : IntKind.u64.wrap ((ps.length : Int) * 256 + (k : Int)) = (ps.length : Int) * 256 + (k : Int) := by rw [IntKind.wrap_u64]; omega
  have HP := Lib.hid hp
  clear hp
  subst hv
  go_enter Try.func13, Try.ntmps13
  go_wp2_with fail
  refine wp_loop_rounds 2 ?_
  rw [rounds_succ]
  go_wp2_with fail
  obtain ⟨v1, w1, r1, o1, g1, a1⟩ := append_one (ty := 28) (t := 28) (w := w.drew.alloc (.cells #[.int .u64 ((ps.length : Int) * 256 + (k : Int))] 36)) (base := w.heap.size) (v := .slice none 0 0) (n := 0) (xs := []) u64Info Try.underlying28 rfl (World.ownsRow_nil _ _ _ _) (RdV.lit w.drew (.int .u64 ((ps.length : Int) * 256 + (k : Int))) 36) (by intro u hu; simp at hu; subst hu; rfl) (by simp) (by simp) (by simp)
  have r1' : (Builtin.append_ #[28, 28] 28 #[.slice none 0 0, .slice (some ⟨w.heap.size, 0, none⟩) 1 1]).run Try.prog (w.alloc (.cells #[.int .u64 ((ps.length : Int) * 256 + (k : Int))] 36)).drew = .ok v1 w1 := r1
  have HR1 := Lib.hid r1'
  have hb1 : Below w.heap.size w w1 := (((Below.refl _ _).drew).alloc (Nat.le_refl _) _).grown g1 (by simp) (fun j hj => by simp [Value.ownBlock] at hj)
  have hs1 := hb1.size
  have hg1 := (hb1.block g hgl).trans hg
  obtain ⟨d0, d1, d2⟩ := ob_cells hg1
  obtain ⟨v2, w2, r2, o2, g2, a2⟩ := append_one (ty := 28) (t := 28) u64Info Try.underlying28 rfl o1 (RdV.below HP.out hb1) (Ws_one ps) (by rw [Ws_length]; simp; omega) (by rw [Ws_length]; simp; omega) hs1
  have hfin : OwnU w2 w.heap.size v2 ((ps.length * 256 + k) :: ps) ∧ Below w.heap.size w w2 := by
    refine ⟨?_, hb1.grown g2 (by omega) (fun j hj => (o1.lt j hj).1)⟩
    have e : Ws ((ps.length * 256 + k) :: ps) = [] ++ [.int .u64 ((ps.length : Int) * 256 + (k : Int))] ++ Ws ps := by
      show Wv _ :: Ws ps = _
      unfold Wv
      rw [show ((ps.length * 256 + k : Nat) : Int) = (ps.length : Int) * 256 + (k : Int) by omega]
      rfl
    unfold OwnU
    rw [e]
    rw [Ws_length] at o2
    have e2 : ((ps.length * 256 + k) :: ps).length = 0 + [Value.int .u64 ((ps.length : Int) * 256 + (k : Int))].length + ps.length := by simp; omega
    rw [e2]
    exact o2
  have HR2 := Lib.hid r2
  have FIN := Lib.hid hfin
  clear r1 r1' r2 o1 o2 g1 g2 a1 a2 hfin
  go_region_law ((refine step_append_known rfl (.tmp 20) (.tmp 36) 28 28 rfl _ _ _ rfl rfl HR1.out ?_))
  all_goals
    clear c0 c1 c2
    go_wp2_with (at_builtin; refine wpList_append_known rfl (.tmp 38) (.tmp 43) 28 28 (by rfl) _ _ _ (by rfl) (by rfl) HR2.out ?_)
    rw [rounds_succ]
    go_wp2_with fail
    go_ret
    exact ⟨_, rfl, FIN.out⟩
end Go.Proofs.Ytkdhajiplonloaa
namespace Go.Proofs.Ytkdhajiplonloaa
open Go.RowKit HeaM

/-- The word from its last byte on, so far. -/
def wt (L : List UInt8) (m t : Nat) : Nat := le ((L.drop (8 * m + 8 - t)).take t)
theorem wt_in (L : List UInt8) (m t : Nat) (ht : t < 8) (h : 8 * m + 7 - t < L.length) : wt L m (t + 1) = wt L m t * 256 + (L[8 * m + 7 - t]'h).toNat := by
  unfold wt
  rw [show 8 * m + 8 - (t + 1) = 8 * m + 7 - t by omega, show 8 * m + 8 - t = 8 * m + 7 - t + 1 by omega, List.drop_eq_getElem_cons h, List.take_succ_cons]
  simp only [le]
  omega
theorem wt_out (L : List UInt8) (m t : Nat) (ht : t < 8) (h : L.length ≤ 8 * m + 7 - t) : wt L m (t + 1) = wt L m t * 256 := by
  unfold wt
  rw [List.drop_of_length_le (by omega), List.drop_of_length_le (by omega)]
  simp [le]
theorem wt_lt (L : List UInt8) (m t : Nat) : wt L m t < 256 ^ t := by
  have h := le_lt ((L.drop (8 * m + 8 - t)).take t)
  have h2 : ((L.drop (8 * m + 8 - t)).take t).length ≤ t := List.length_take_le _ _
  exact Nat.lt_of_lt_of_le h (Nat.pow_le_pow_right (by decide) h2)
theorem wt_all (L : List UInt8) (m : Nat) : wt L m 8 = wd L L.length m := by
  unfold wt wd
  rw [show 8 * m + 8 - 8 = 8 * m by omega, List.take_length]

set_option maxHeartbeats 4000000 in
set_option maxRecDepth 100000 in
theorem refwords_text (g : Nat) (pv : Value) (str : ByteArray) (w : World) (hg : w.heap[g]? = some (.cells #[.int .u8 3, pv, .string str] 35 (0, 0))) (hs : str.size ≤ 10000000) :
    Calls Try.prog 13 #[.slice (some ⟨g, 0, none⟩) 1 1] w fun e w' => ∃ v', e = .returned v' ∧ OwnU w' w.heap.size v' (enc1 str.data.toList) ∧ Below w.heap.size w w' := by
  obtain ⟨c0, c1, c2⟩ := ob_cells hg
  have hgl := lt_of_block hg
  have hsi : (str.size : Int) ≤ 10000000 := by omega
  have e0 : IntKind.u64.wrap (str.size : Int) = (str.size : Int) := by rw [IntKind.wrap_u64]; omega
  have e1 : IntKind.u64.wrap ((str.size : Int) * 256) = (str.size : Int) * 256 := by rw [IntKind.wrap_u64]; omega
  obtain ⟨v1, w1, r1, o1, g1, a1⟩ := append_one (ty := 28) (t := 28) (w := w.alloc (.cells #[.int .u64 ((str.size : Int) * 256 + 3)] 36)) (base := w.heap.size) (v := .slice none 0 0) (n := 0) (xs := []) u64Info Try.underlying28 rfl (World.ownsRow_nil _ _ _ _) (RdV.lit w (.int .u64 ((str.size : Int) * 256 + 3)) 36) (by intro u hu; simp at hu; subst hu; rfl) (by simp) (by simp) (by simp)
  have HR1 := Lib.hid r1
  have hb1 : Below w.heap.size w w1 := ((Below.refl _ _).alloc (Nat.le_refl _) _).grown g1 (by simp) (fun j hj => by simp [Value.ownBlock] at hj)
  have hst : OwnU w1 w.heap.size v1 ((str.size * 256 + 3) :: (List.range 0).map (wd str.data.toList str.size)) ∧ Below w.heap.size w w1 := by
    refine ⟨?_, hb1⟩
    unfold OwnU
    have e : Ws ((str.size * 256 + 3) :: (List.range 0).map (wd str.data.toList str.size)) = [] ++ [.int .u64 ((str.size : Int) * 256 + 3)] := by
      show [Wv _] = _
      unfold Wv
      rw [show ((str.size * 256 + 3 : Nat) : Int) = (str.size : Int) * 256 + 3 by omega]
      rfl
    rw [e]
    exact o1
  have HST := Lib.hid hst
  have HG := Lib.hid hg
  clear r1 o1 g1 a1 hb1 hst hg
  go_enter Try.func13, Try.ntmps13
  go_wp2_with fail
  refine wp_loop_rounds 2 ?_
  rw [rounds_succ]
  go_wp2_with (at_builtin; refine wpList_append_known rfl (.tmp 45) (.tmp 55) 28 28 (by rfl) _ _ _ (by rfl) (by rfl) HR1.out ?_)
  obtain ⟨M, hM⟩ : ∃ M, nw str.size = M := ⟨_, rfl⟩
  have hM1 : str.size ≤ 8 * M := by rw [← hM]; unfold nw; omega
  have hM2 : 8 * M ≤ str.size + 7 := by rw [← hM]; unfold nw; omega
  have HMM := Lib.hid hM
  clear hM c0 c1 c2
  go_loopw [3, 5] (fun v i wr => ∃ (m : Nat) (V : Value), V = v ∧ m ≤ M ∧ i = .int .i64 (8 * (m : Int)) ∧ Hid (OwnU wr w.heap.size V ((str.size * 256 + 3) :: (List.range m).map (wd str.data.toList str.size)) ∧ Below w.heap.size w wr)) (fun _ i _ => 8 * M + 8 - (intOf i).toNat)
  case atStart => exact ⟨0, _, rfl, Nat.zero_le _, by simp, HST.out⟩
  case round =>
    obtain ⟨m, V, hV, hm, rfl, HK⟩ := hrel
    subst hV
    have hg2 := (HK.out.2.block g hgl).trans HG.out
    obtain ⟨d0, d1, d2⟩ := ob_cells hg2
    have hgl2 := lt_of_block hg2
    clear hg2
    by_cases hlt : m < M
    · have hmi : 8 * (m : Int) < (str.size : Int) := by omega
      have hm0 : (0 : Int) ≤ (m : Int) := by omega
      have hmM : (m : Int) ≤ 10000000 := by omega
      go_wp2_with fail
      go_loop [6, 7] (fun x j => ∃ t : Nat, t ≤ 8 ∧ j = .int .i64 (7 - (t : Int)) ∧ x = .int .u64 (wt str.data.toList m t : Int)) (fun _ j => (intOf j + 1).toNat)
      case atStart => exact ⟨0, by omega, by simp, by simp [wt, le]⟩
      case round =>
        obtain ⟨t, ht, rfl, rfl⟩ := hrel
        by_cases ht8 : t < 8
        · have hj0 : decide ((0 : Int) ≤ 7 - (t : Int)) = true := by simp; omega
          have hj1 : (0 : Int) ≤ 7 - (t : Int) := by omega
          have hlt256 := wt_lt str.data.toList m t
          have hpow : 256 ^ t ≤ 256 ^ 7 := Nat.pow_le_pow_right (by decide) (by omega)
          have hXb : wt str.data.toList m t < 72057594037927936 := Nat.lt_of_lt_of_le hlt256 hpow
          have ti : (t : Int) ≤ 7 := by omega
          clear hlt256 hpow
          by_cases hin : 8 * m + 7 - t < str.size
          · have hwt := wt_in str.data.toList m t ht8 hin
            have HWT := Lib.hid hwt
            have hi1 : 8 * (m : Int) + (7 - (t : Int)) < (str.size : Int) := by omega
            have hi2 : (0 : Int) ≤ 8 * (m : Int) + (7 - (t : Int)) := by omega
            have hi3 : (8 * (m : Int) + (7 - (t : Int))).toNat = 8 * m + 7 - t := by omega
            have hbb : (str[8 * m + 7 - t]'hin).toNat < 256 := (str[8 * m + 7 - t]'hin).toNat_lt
            clear hwt
            generalize wt str.data.toList m t = x at *
            have hx1 : (x : Int) ≤ 72057594037927935 := by omega
            go_wp2_with fail
            go_round
            case rel =>
              refine ⟨t + 1, by omega, by go_num, ?_⟩
              rw [HWT.out]
              exact congrArg (Value.int .u64) (by rw [Int.natCast_add, Int.natCast_mul]; rfl)
            case measure => simp [intOf]; omega
          · have hwt := wt_out str.data.toList m t ht8 (by show str.size ≤ _; omega)
            have HWT := Lib.hid hwt
            have hi1 : ¬ 8 * (m : Int) + (7 - (t : Int)) < (str.size : Int) := by omega
            clear hwt
            generalize wt str.data.toList m t = x at *
            have hx1 : (x : Int) ≤ 72057594037927935 := by omega
            go_wp2_with fail
            go_round
            case rel => exact ⟨t + 1, by omega, by go_num, by rw [HWT.out]; go_num⟩
            case measure => simp [intOf]; omega
        · obtain rfl : t = 8 := by omega
          have hj0 : decide ((0 : Int) ≤ 7 - ((8 : Nat) : Int)) = false := by decide
          have hj1 : ¬ (0 : Int) ≤ 7 - ((8 : Nat) : Int) := by decide
          have hwa := wt_all str.data.toList m
          have HWA := Lib.hid hwa
          have hown := HK.out.1
          have hb := HK.out.2
          obtain ⟨v2, w2, r2, o2, g2, a2⟩ := append_one (ty := 28) (t := 28) u64Info Try.underlying28 rfl (hown.alloc (.cells #[.int .u64 (wt str.data.toList m 8 : Int)] 36)) (RdV.lit _ (.int .u64 (wt str.data.toList m 8 : Int)) 36) (by intro u hu; simp at hu; subst hu; rfl) (by simp; omega) (by simp; omega) (by have := hb.size; simp; omega)
          have hfin : OwnU w2 w.heap.size v2 ((str.size * 256 + 3) :: (List.range (m + 1)).map (wd str.data.toList str.size)) ∧ Below w.heap.size w w2 := by
            refine ⟨?_, (hb.alloc hb.size _).grown g2 (by have := hb.size; simp; omega) (fun j hj => (hown.lt j hj).1)⟩
            unfold OwnU
            have e : (str.size * 256 + 3) :: (List.range (m + 1)).map (wd str.data.toList str.size) = ((str.size * 256 + 3) :: (List.range m).map (wd str.data.toList str.size)) ++ [wt str.data.toList m 8] := by
              rw [List.range_succ, List.map_append, HWA.out]
              rfl
            rw [e, List.length_append, Ws_append]
            exact o2
          have HR2 := Lib.hid r2
          have FIN := Lib.hid hfin
          clear hwa hown hb r2 o2 g2 a2 hfin
          generalize wt str.data.toList m 8 = x at *
          go_wp2_with (at_builtin; refine wpList_append_known rfl (.tmp 95) (.tmp 97) 28 28 (by rfl) _ _ _ (by rfl) (by rfl) HR2.out ?_)
          go_roundw
          case rel => exact ⟨m + 1, _, rfl, by omega, by go_num, FIN.out⟩
          case measure => simp [intOf]; omega
    · obtain rfl : m = M := by omega
      have hmi : ¬ 8 * (m : Int) < (str.size : Int) := by omega
      have hfin : OwnU wr w.heap.size V (enc1 str.data.toList) ∧ Below w.heap.size w wr := by
        have h1 := HK.out
        rw [← HMM.out] at h1
        exact h1
      have FIN := Lib.hid hfin
      clear hfin HK
      go_wp2_with fail
      rw [rounds_succ]
      go_wp2_with fail
      go_ret
      exact ⟨_, rfl, FIN.out⟩
end Go.Proofs.Ytkdhajiplonloaa
