/- WaY, WaZ, WbA, WbB, LWTwice, OpenW, in one text. -/
import Derived.Test.YtdckcjcddibglaaGWv
import Derived.Test.YtdckcjcddibglaaGDec
import Derived.Deep.RegionHeld3
import Derived.OrdersHeld
import Derived.BigRegion
import Derived.Lib.SlBytesConst
import Derived.Test.YtdckcjcddibglaaOpenA
import Derived.Deep.Slices
import Derived.Deep.Fields
import Derived.ChangeSame

namespace Go.Proofs.Ytdckcjcddibglaa
open Go.RowKit OctM

theorem openS_sealed' (l : List UInt8) : openS (sealed l) = (l, 0) := by
  have h := sealed_length l
  have e : (sealed l).take ((sealed l).length - 4) = l := by
    rw [h, Nat.add_sub_cancel]
    exact List.take_left
  unfold openS
  rw [if_neg (by omega), e, if_pos rfl]
theorem uptoS_encK (n most : Nat) (r : List UInt8) (h : n ≤ most) (hm : n < 18446744073709551616) : uptoS (some (enc n ++ r)) (most : Int) = (n, some r) := by
  unfold uptoS
  rw [uintS_enc n r hm]
  rw [if_neg (by simp only; omega)]
theorem bytesS_encK (m : Nat) (k r : List UInt8) (h : k.length ≤ m) (hm : k.length < 18446744073709551616) : bytesS (some (encB k ++ r)) m = (k, some r) := by
  unfold bytesS encB
  rw [List.append_assoc, uptoS_encK k.length m (k ++ r) h hm]
  simp only
  rw [takeS_le (by simp)]
  simp
theorem zig_small {n : Int} (h0 : -1 ≤ n) (h1 : n < 7) : zig n < 18446744073709551616 := by
  unfold zig
  split <;> omega
def own1b (b : Nat) : Nat → Prop := fun k => k = b
theorem own1_eq {b k : Nat} (h : own1 (some ⟨b, 0, none⟩) k) : k = b := by
  obtain ⟨a, ha, hb⟩ := h
  injection ha with ha
  subst ha
  exact hb.symm

theorem duint {lim b n : Nat} {r : List UInt8} {w : World} (hn : n < 18446744073709551616) (h : D.RS lim w (some ⟨b, 0, none⟩) (some (enc n ++ r))) :
    Calls Try.prog 47 #[.pointer (some ⟨b, 0, none⟩)] w fun e w' => e = .returned (.int .u64 (n : Int)) ∧ D.RS lim w' (some ⟨b, 0, none⟩) (some r) ∧ Kept (own1 (some ⟨b, 0, none⟩)) w w' :=
  (D.ruint _ _ w h).mono fun _ _ h => by
    rw [uintS_enc n r hn] at h
    exact ⟨h.ret, h.st, h.kept⟩

set_option maxHeartbeats 2000000 in
set_option maxRecDepth 100000 in
theorem readVote_ok {lim b : Nat} {vt : Int} {r : List UInt8} {w : World} (h0 : -1 ≤ vt) (h1 : vt < 7) (h : D.RS lim w (some ⟨b, 0, none⟩) (some (enc (zig vt) ++ r))) :
    Calls Try.prog 48 #[.pointer (some ⟨b, 0, none⟩)] w fun e w' => e = .returned (.int .i64 vt) ∧ D.RS lim w' (some ⟨b, 0, none⟩) (some r) ∧ Kept (own1 (some ⟨b, 0, none⟩)) w w' := by
  have H1 : Calls Try.prog 58 #[.pointer (some ⟨b, 0, none⟩)] w fun e w' => e = .returned (.int .i64 vt) ∧ D.RS lim w' (some ⟨b, 0, none⟩) (some r) ∧ Kept (own1 (some ⟨b, 0, none⟩)) w w' :=
    (D.rint _ _ w h).mono fun _ _ h => by
      rw [uintS_enc (zig vt) r (zig_small h0 h1), unzig_zig] at h
      exact ⟨h.ret, h.st, h.kept⟩
  have H := Lib.hid H1
  have c1 : ¬ (vt < -1) := by omega
  have c2 : ¬ (7 ≤ vt) := by omega
  clear h H1
  go_enter Try.func48, Try.ntmps48
  go_wp2_with fail
  refine H.out.mono ?_
  rintro e w1 ⟨rfl, hr, hk⟩
  have HR := Lib.hid hr
  have HK := Lib.hid hk
  clear hr hk H
  go_wp2_with fail
  go_ret
  exact ⟨rfl, HR.out, HK.out⟩

set_option maxHeartbeats 4000000 in
set_option maxRecDepth 100000 in
theorem readEntry_ok {lim b : Nat} {x : En} {r : List UInt8} {w : World} (hok : x.Ok) (hlm : lim ≤ w.heap.size) (h : D.RS lim w (some ⟨b, 0, none⟩) (some (encE x ++ r))) :
    Calls Try.prog 51 #[.pointer (some ⟨b, 0, none⟩)] w fun e w' => ∃ o c n5, e = .returned (enV x (.slice o x.cl.length c)) ∧ Own w' n5 (.slice o x.cl.length c) x.cl ∧ w.heap.size ≤ n5 ∧ D.RS lim w' (some ⟨b, 0, none⟩) (some r) ∧ Kept (own1 (some ⟨b, 0, none⟩)) w w' := by
  have hbl : b < w.heap.size := D.RS.lt h
  obtain ⟨tm, ss, nm, cl⟩ := x
  obtain ⟨o1, o2, o3, o4⟩ := hok
  dsimp only at o1 o2 o3 o4
  have hb0 : Below w.heap.size w (w.alloc (.cells #[.int .u64 0, .int .u64 0, .int .u64 0, .slice none 0 0] 33)) := (Below.refl _ _).alloc (Nat.le_refl _) _
  have hn0 := heap_alloc_new w (.cells #[.int .u64 0, .int .u64 0, .int .u64 0, .slice none 0 0] 33)
  have hs0 : (w.alloc (.cells #[.int .u64 0, .int .u64 0, .int .u64 0, .slice none 0 0] 33)).heap.size = w.heap.size + 1 := by simp
  have e0 : encE ⟨tm, ss, nm, cl⟩ ++ r = enc tm ++ (enc ss ++ (enc nm ++ (encB cl ++ r))) := by simp [encE, List.append_assoc]
  rw [e0] at h
  have hr0 := h.below hb0
  clear h e0
  go_enter Try.func51, Try.ntmps51
  go_upto_region 1 with fail
  generalize (w.alloc (.cells #[.int .u64 0, .int .u64 0, .int .u64 0, .slice none 0 0] 33)) = w1 at *
  have H1 := Lib.hid (duint o1 hr0)
  have HK1 := Lib.hid (kept_of_below (S := own1 (some ⟨b, 0, none⟩)) hb0)
  have HN1 := Lib.hid hn0
  clear hr0 hb0 hn0
  go_wp2_with fail
  refine H1.out.mono ?_
  rintro e w2 ⟨rfl, hr2, hk2⟩
  have H2 := Lib.hid (duint o2 hr2)
  have HK2 := Lib.hid (HK1.out.trans hk2)
  have HN2 := Lib.hid ((hk2.block _ (by omega) (fun h => by have := own1_eq h; omega)).trans HN1.out)
  have hs2 := hk2.size
  clear hr2 hk2 H1 HK1 HN1
  go_wp2_with fail
  refine H2.out.mono ?_
  rintro e w3 ⟨rfl, hr3, hk3⟩
  have H3 := Lib.hid (duint o3 hr3)
  have HK3 := Lib.hid (HK2.out.trans hk3)
  have HN3 := Lib.hid ((hk3.block _ (by omega) (fun h => by have := own1_eq h; omega)).trans HN2.out)
  have hs3 := hk3.size
  clear hr3 hk3 H2 HK2 HN2
  go_wp2_with fail
  refine H3.out.mono ?_
  rintro e w4 ⟨rfl, hr4, hk4⟩
  have hq := bytesS_encK 4000 cl r o4 (by omega)
  rw [show ((4000 : Nat) : Int) = 4000 from rfl] at hq
  have H4 := D.rbytes _ _ 4000 w4 hr4 (by omega) (by omega) (by rw [hq]; simp; omega)
  rw [hq] at H4
  have HH4 := Lib.hid H4
  have HK4 := Lib.hid (HK3.out.trans hk4)
  have HN4 := Lib.hid ((hk4.block _ (by omega) (fun h => by have := own1_eq h; omega)).trans HN3.out)
  have hs4 := hk4.size
  clear hr4 hk4 H3 HK3 HN3 H4 hq
  go_wp2_with fail
  refine HH4.out.mono ?_
  rintro e w5 ⟨v5, rfl, ho5, hr5, hk5⟩
  obtain ⟨o, c, hv5⟩ : ∃ o c, v5 = .slice o cl.length c := by
    obtain ⟨o, c, h, _⟩ := own_slice ho5
    exact ⟨o, c, h⟩
  subst hv5
  have hn5 := (hk5.block _ (by omega) (fun h => by have := own1_eq h; omega)).trans HN4.out
  have hs5 := hk5.size
  have HK5 := Lib.hid (HK4.out.trans hk5)
  have HO5 := Lib.hid ho5
  have HR5 := Lib.hid hr5
  have HN5 := Lib.hid hn5
  clear ho5 hr5 hk5 hn5 HH4 HK4 HN4
  go_wp2_with (refine wpList_store_row rfl 33 (.tmp 2) (.tmp 11) rfl w.heap.size #[.int .u64 (tm : Int), .int .u64 (ss : Int), .int .u64 (nm : Int), .slice o cl.length c] rfl rfl 33 #[.int .u64 0, .int .u64 0, .int .u64 0, .slice none 0 0] HN5.out (by kernel_rfl) rfl (by simp [Value.oneCell']) ?_; generalize hW : World.setRow _ _ _ = W6)
  have hk6 : Kept (fun k => k = w.heap.size) w5 W6 := by rw [← hW]; exact row_kept _ _ _
  have hn6 : W6.heap[w.heap.size]? = some (.cells #[.int .u64 (tm : Int), .int .u64 (ss : Int), .int .u64 (nm : Int), .slice o cl.length c] 33 (0, 0)) := by rw [← hW]; exact setRow_heap _ _ _ _ _ _ HN5.out
  have r0 := cellk (i := 0) hn6 rfl
  have r1 := cellk (i := 1) hn6 rfl
  have r2 := cellk (i := 2) hn6 rfl
  have r3 := cellk (i := 3) hn6 rfl
  refine bodyPost_ret (v := .agg #[.int .u64 (tm : Int), .int .u64 (ss : Int), .int .u64 (nm : Int), .slice o cl.length c]) (by simp [results, Try.results51, go_sem, r0, r1, r2, r3]) rfl ?_
  refine ⟨o, c, w4.heap.size, rfl, ?_, by omega, ?_, HK5.out.step hk6 (fun k hk => .inr (by omega))⟩
  · exact own_kept HO5.out hk6 (fun g hg => by have := (HO5.out.lt g hg).1; omega)
  · exact HR5.out.keep hk6 (fun a ha e => by injection ha with ha; subst ha; simp at e; omega) (fun k hk e => by omega)
end Go.Proofs.Ytdckcjcddibglaa

namespace Go.Proofs.Ytdckcjcddibglaa
open Go.RowKit OctM

/-- An append, as a step of a region that draws. -/
theorem step_append_known {P : Program} {w w' : World} {ops : Array Oper} {o : Oper} {a : Act} {K : Act → World → Prop} {Q : Exit → Act → World → Prop} {E : Prop} (hgd : o.guard = none) (s x : Operand) (t u : TypeId)
    (ho : o.op = .call { callee := .builtin .append, args := #[s, x], argTypes := #[t, u] }) (v y v' : Value) (hs : a.eval s = v) (hx : a.eval x = y)
    (hr : (Builtin.append_ #[t, u] o.type #[v, y]).run P w = .ok v' w') (h : K (a.put o.dst v') w') : if Region.wanted o (yielded ops a.tmps) = true then Oper.wp P o a w K Q else E := by
  have hw : Region.wanted o (yielded ops a.tmps) = true := by simp [Region.wanted, hgd]
  rw [if_pos hw]
  unfold Oper.wp execOp
  simp only [ho, resolve, invoke, builtin, Sem.run_bind, Sem.run_pure, Result.andThen_ok, List.map_toArray, List.map_cons, List.map_nil, hs, hx, hr]
  exact h

set_option maxHeartbeats 2000000 in
set_option maxRecDepth 100000 in
theorem readFrame_ok {lim b : Nat} {I r : List UInt8} {w : World} (h : D.RS lim w (some ⟨b, 0, none⟩) (some (encB (sealed I) ++ r))) (hI : I.length ≤ 1000000) :
    Calls Try.prog 40 #[.pointer (some ⟨b, 0, none⟩)] w fun e w' => ∃ b', e = .returned (.pointer (some ⟨b', 0, none⟩)) ∧ D.RS b' w' (some ⟨b', 0, none⟩) (some I) ∧ D.RS lim w' (some ⟨b, 0, none⟩) (some r) ∧ Kept (own1 (some ⟨b, 0, none⟩)) w w' ∧ w.heap.size ≤ b' := by
  have hsl : (sealed I).length = I.length + 4 := sealed_length I
  have hq := bytesS_encK 1048576 (sealed I) r (by omega) (by omega)
  rw [show ((1048576 : Nat) : Int) = 1048576 from rfl] at hq
  have H1 := D.rbytes _ _ 1048576 w h (by omega) (by omega) (by rw [hq]; simp only; omega)
  rw [hq] at H1
  have HH1 := Lib.hid H1
  clear h H1 hq
  go_enter Try.func40, Try.ntmps40
  go_wp2_with fail
  refine HH1.out.mono ?_
  rintro e w1 ⟨v1, rfl, ho1, hr1, hk1⟩
  have HO := Lib.hid (openC v1 (sealed I) w1 (Rd.of_own ho1) (by omega))
  have HR1 := Lib.hid hr1
  have HK1 := Lib.hid hk1
  have hs1 := hk1.size
  clear ho1 hr1 hk1 HH1
  go_wp2_with fail
  refine HO.out.mono ?_
  rw [openS_sealed']
  rintro e w2 ⟨⟨v2, rfl, hrd2⟩, hb2⟩
  have HR2 := Lib.hid (HR1.out.below hb2)
  have HK2 := Lib.hid (HK1.out.trans (kept_of_below hb2))
  have hs2 := hb2.size
  have HN := Lib.hid (D.newReader v2 I w2 hrd2 (by omega))
  clear hrd2 hb2 HO HR1
  go_wp2_with fail
  refine HN.out.mono ?_
  rintro e w3 ⟨b3, rfl, hr3, hb3, hge⟩
  have HR3 := Lib.hid hr3
  have HRB := Lib.hid (HR2.out.below hb3)
  have HK3 := Lib.hid (HK2.out.trans (kept_of_below hb3))
  clear hr3 hb3 HN
  go_wp2_with fail
  go_ret
  exact ⟨b3, rfl, HR3.out, HRB.out, HK3.out, by omega⟩

/-- What a track contains, as cells. -/
def coC (turn : Nat) (s : Wst) (v : Value) : List Value := [.int .u64 (turn : Int), .int .u64 (s.tm : Int), .int .i64 s.vt, .int .u64 (s.bs : Int), v, .bool false]
def coZ : List Value := [.int .u64 0, .int .u64 0, .int .i64 0, .int .u64 0, .slice none 0 0, .bool false]

theorem bodyE_drop {l : List En} {j : Nat} (h : j < l.length) : bodyE (l.drop j) = encE l[j] ++ bodyE (l.drop (j + 1)) := by
  rw [List.drop_eq_getElem_cons h]
  rfl

set_option maxHeartbeats 8000000 in
set_option maxRecDepth 100000 in
theorem readWhole_ok {lim b : Nat} (turn : Nat) (s : Wst) (w : World) (hok : s.Ok) (ht : turn < 18446744073709551616) (hlm : lim ≤ w.heap.size) (h : D.RS lim w (some ⟨b, 0, none⟩) (some (headB turn s ++ bodyE s.lg))) :
    Calls Try.prog 39 #[.pointer (some ⟨b, 0, none⟩)] w fun e w' => ∃ v ps, e = .returned (.tuple #[.agg (coC turn s v).toArray, .bool true]) ∧ OwnL w' w.heap.size v ps ∧ ps.map Prod.fst = s.lg ∧ Kept (own1 (some ⟨b, 0, none⟩)) w w' := by
  have hblt : b < w.heap.size := D.RS.lt h
  obtain ⟨tm, vt, bs, lg⟩ := s
  obtain ⟨otm, ov0, ov1, obs, olg, olen⟩ := hok
  dsimp only at otm ov0 ov1 obs olg olen
  have HLG := Lib.hid olg
  have e0 : headB turn ⟨tm, vt, bs, lg⟩ ++ bodyE lg = enc turn ++ (enc tm ++ (enc (zig vt) ++ (enc bs ++ (enc lg.length ++ bodyE lg)))) := by simp [headB, List.append_assoc]
  dsimp only at h
  rw [e0] at h
  unfold coC
  dsimp only
  have hb0 : Below w.heap.size w (w.alloc (.cells coZ.toArray 74)) := (Below.refl _ _).alloc (Nat.le_refl _) _
  have hn0 := heap_alloc_new w (.cells coZ.toArray 74)
  have hs0 : (w.alloc (.cells coZ.toArray 74)).heap.size = w.heap.size + 1 := by simp
  have hr0 := h.below hb0
  obtain ⟨w1, hw1⟩ : ∃ w1, w.alloc (.cells coZ.toArray 74) = w1 := ⟨_, rfl⟩
  rw [hw1] at hb0 hn0 hs0 hr0
  have hw1' := hw1
  unfold coZ at hw1'
  have HW1 := Lib.hid hw1'
  clear h e0 olg hw1 hw1'
  go_enter Try.func39, Try.ntmps39
  go_upto_region 1 with fail
  rw [HW1.out]
  have H1 := Lib.hid (duint ht hr0)
  have HK1 := Lib.hid (kept_of_below (S := own1 (some ⟨b, 0, none⟩)) hb0)
  have HN1 := Lib.hid hn0
  clear hr0 hb0 hn0 HW1
  go_wp2_with fail
  refine H1.out.mono ?_
  rintro e w2 ⟨rfl, hr2, hk2⟩
  have H2 := Lib.hid (duint otm hr2)
  have HK2 := Lib.hid (HK1.out.trans hk2)
  have HN2 := Lib.hid ((hk2.block _ (by omega) (fun h => by have := own1_eq h; omega)).trans HN1.out)
  have hs2 := hk2.size
  clear hr2 hk2 H1 HK1 HN1
  go_wp2_with fail
  refine H2.out.mono ?_
  rintro e w3 ⟨rfl, hr3, hk3⟩
  have H3 := Lib.hid (readVote_ok ov0 ov1 hr3)
  have HK3 := Lib.hid (HK2.out.trans hk3)
  have HN3 := Lib.hid ((hk3.block _ (by omega) (fun h => by have := own1_eq h; omega)).trans HN2.out)
  have hs3 := hk3.size
  clear hr3 hk3 H2 HK2 HN2
  go_wp2_with fail
  refine H3.out.mono ?_
  rintro e w4 ⟨rfl, hr4, hk4⟩
  have H4 := Lib.hid (duint obs hr4)
  have HK4 := Lib.hid (HK3.out.trans hk4)
  have HN4 := Lib.hid ((hk4.block _ (by omega) (fun h => by have := own1_eq h; omega)).trans HN3.out)
  have hs4 := hk4.size
  clear hr4 hk4 H3 HK3 HN3
  go_wp2_with fail
  refine H4.out.mono ?_
  rintro e w5 ⟨rfl, hr5, hk5⟩
  have hs5 := hk5.size
  have hn5 := (hk5.block _ (by omega) (fun h => by have := own1_eq h; omega)).trans HN4.out
  have HK5 := Lib.hid (HK4.out.trans hk5)
  have hb6 : Below w5.heap.size w5 (w5.alloc (.cells #[.int .u64 (turn : Int), .int .u64 (tm : Int), .int .i64 vt, .int .u64 (bs : Int), .slice none 0 0, .bool false] 74)) := (Below.refl _ _).alloc (Nat.le_refl _) _
  have hn6 := heap_alloc_new w5 (.cells #[.int .u64 (turn : Int), .int .u64 (tm : Int), .int .i64 vt, .int .u64 (bs : Int), .slice none 0 0, .bool false] 74)
  have hs6 : (w5.alloc (.cells #[.int .u64 (turn : Int), .int .u64 (tm : Int), .int .i64 vt, .int .u64 (bs : Int), .slice none 0 0, .bool false] 74)).heap.size = w5.heap.size + 1 := by simp
  obtain ⟨w6, hw6⟩ : ∃ w6, w5.alloc (.cells #[.int .u64 (turn : Int), .int .u64 (tm : Int), .int .i64 vt, .int .u64 (bs : Int), .slice none 0 0, .bool false] 74) = w6 := ⟨_, rfl⟩
  rw [hw6] at hb6 hn6 hs6
  have hr6 := hr5.below hb6
  have hm6 := (hb6.block w.heap.size (by omega)).trans hn5
  have hu := D.rupto _ _ 1048576 w6 hr6 (by omega) (by omega)
  have huq := uptoS_encK lg.length 1048576 (bodyE lg) (by omega) (by omega)
  rw [show ((1048576 : Nat) : Int) = 1048576 from rfl] at huq
  rw [huq] at hu
  have HU := Lib.hid hu
  have HN6 := Lib.hid hn6
  have HM6 := Lib.hid hm6
  have HK6 := Lib.hid (HK5.out.trans (kept_of_below (S := own1 (some ⟨b, 0, none⟩)) hb6))
  have HW6 := Lib.hid hw6
  clear hr5 hk5 H4 HK4 HN4 hn5 HK5 hb6 hn6 hr6 hm6 hu huq hw6
  go_upto_region 2 with fail
  rw [HW6.out]
  clear HW6
  obtain ⟨cb, hcb⟩ : ∃ cb, w5.heap.size = cb := ⟨_, rfl⟩
  rw [hcb] at HN6 hs6
  rw [hcb]
  obtain ⟨rb, hrb⟩ : ∃ rb, w.heap.size = rb := ⟨_, rfl⟩
  have HRB := Lib.hid hrb
  rw [hrb] at HM6
  have hcr : rb < cb := by omega
  have hbr : b < rb := by omega
  go_wp2_with fail
  refine HU.out.mono ?_
  rintro e w7 ⟨rfl, hr7, hk7⟩
  have hs7 := hk7.size
  have hn7 := (hk7.block cb (by omega) (fun h => by have := own1_eq h; omega)).trans HN6.out
  have hm7 := (hk7.block rb (by omega) (fun h => by have := own1_eq h; omega)).trans HM6.out
  have HK7 := Lib.hid (HK6.out.trans hk7)
  have HR7 := Lib.hid hr7
  have HN7 := Lib.hid hn7
  have HM7 := Lib.hid hm7
  clear hr7 hk7 hn7 hm7 HU HN6 HM6 HK6 hcb
  go_wp2_with fail
  go_loopw [17] (fun t wr => ∃ (j : Nat) (ps : List (En × Value)) (LV : Value), j ≤ lg.length ∧ t = .int .i64 (j : Int) ∧ Hid (wr.heap[cb]? = some (.cells #[.int .u64 (turn : Int), .int .u64 (tm : Int), .int .i64 vt, .int .u64 (bs : Int), LV, .bool false] 74 (0, 0))) ∧ Hid (wr.heap[rb]? = some (.cells coZ.toArray 74 (0, 0))) ∧
    Hid (OwnL wr (cb + 1) LV ps) ∧ Hid (ps.map Prod.fst = lg.take j) ∧ Hid (D.RS lim wr (some ⟨b, 0, none⟩) (some (bodyE (lg.drop j)))) ∧ Hid (Kept (own1 (some ⟨b, 0, none⟩)) w wr) ∧ cb < wr.heap.size) (fun t _ => lg.length + 1 - (intOf t).toNat)
  case atStart => exact ⟨0, [], _, by omega, rfl, HN7.out, HM7.out, ownL_nil _ _, rfl, HR7.out, HK7.out, by omega⟩
  case round =>
    obtain ⟨j, ps, LV, hj, rfl, HC, HZ, HO, HP, HR, HK, hcl⟩ := hrel
    have hpl : ps.length = j := by
      have := congrArg List.length HP.out
      rw [List.length_map, List.length_take] at this
      omega
    by_cases hlt : j < lg.length
    · have hjI : (j : Int) < (lg.length : Int) := by omega
      have HBAD := Lib.hid (D.rbad _ _ wr HR.out)
      go_wp2_with fail
      refine HBAD.out.mono ?_
      rintro e w8 ⟨rfl, rfl⟩
      have hr := HR.out
      rw [bodyE_drop hlt] at hr
      have hxo := HLG.out lg[j] (List.getElem_mem hlt)
      have HTK := Lib.hid (show lg.take (j + 1) = lg.take j ++ [lg[j]] by rw [List.take_add_one, List.getElem?_eq_getElem hlt]; rfl)
      generalize lg[j] = x at *
      obtain ⟨olv, clv, hlv⟩ := HO.out.form
      subst hlv
      rw [hpl] at HC HO
      have HX := Lib.hid hxo
      have HRX := Lib.hid hr
      have x4 : wr.cell? ⟨cb, 4, none⟩ = some (.slice olv j clv) := cellk HC.out rfl
      have xf : wr.frozen? ⟨cb, 4, none⟩ = false := free_of HC.out 4
      have wi : IntKind.i64.wrap ((j : Int) + 1) = (j : Int) + 1 := IntWalk.i64_in _ (by omega)
      clear hxo hr HBAD
      go_upto_region 5 with fail
      refine wp_region_held_drew (S := fun _ => True) (by kernel_rfl) trivial ?_
      intro hHeld
      refine wpAnyH_take (i := 0) (v := ?_) (by simp only [List.getElem?_toArray, List.getElem?_cons_zero]; rfl) (by kernel_rfl) (by kernel_rfl) (by kernel_rfl) (by intro _ _ _ h; exact h) (Or.inl ⟨by rfl, ?_⟩) (by assumption) ?_
      rotate_left
      · (intro w hSw; (try dsimp only at hSw); go_simp; try with_reducible rfl)
      try simp only [Act.put, List.setIfInBounds_toArray, List.set_cons_zero, List.set_cons_succ]
      refine wpAnyH_take (i := 1) (v := ?_) (by simp only [List.getElem?_toArray, List.getElem?_cons_succ, List.getElem?_cons_zero]; rfl) (by kernel_rfl) (by kernel_rfl) (by kernel_rfl) (by intro _ _ _ h; exact h) (Or.inl ⟨by rfl, ?_⟩) (by assumption) ?_
      rotate_left
      · (intro w hSw; (try dsimp only at hSw); go_simp; try with_reducible rfl)
      try simp only [Act.put, List.setIfInBounds_toArray, List.set_cons_zero, List.set_cons_succ]
      refine wpAnyH_take (i := 3) (v := ?_) (by simp only [List.getElem?_toArray, List.getElem?_cons_succ, List.getElem?_cons_zero]; rfl) (by kernel_rfl) (by kernel_rfl) (by kernel_rfl) (by intro _ _ _ h; exact h) (Or.inl ⟨by rfl, ?_⟩) (by assumption) ?_
      rotate_left
      · (intro w hSw; (try dsimp only at hSw); go_simp; try with_reducible rfl)
      try simp only [Act.put, List.setIfInBounds_toArray, List.set_cons_zero, List.set_cons_succ]
      refine wpAnyH_ready (rs := [2, 4]) (by kernel_rfl) (by simp) ?_
      refine AllReadyH.cons (by simp only [List.getElem?_toArray, List.getElem?_cons_succ, List.getElem?_cons_zero]; rfl) (fun K hK => ?_) (AllReadyH.cons (by simp only [List.getElem?_toArray, List.getElem?_cons_succ, List.getElem?_cons_zero]; rfl) (fun K hK => ?_) AllReadyH.nil)
      · go_simp
        refine hK.out _ _ trivial (fun hHeld => ?_)
        clear hK K
        try simp only [Act.put, List.setIfInBounds_toArray, List.set_cons_zero, List.set_cons_succ]
        refine wpAnyH_ready (rs := [4]) (by kernel_rfl) (by simp) ?_
        refine AllReadyH.cons (by simp only [List.getElem?_toArray, List.getElem?_cons_succ, List.getElem?_cons_zero]; rfl) (fun K hK => ?_) AllReadyH.nil
        · go_simp
          refine (readEntry_ok (lim := lim) (b := b) (x := x) (r := bodyE (lg.drop (j + 1))) (w := wr.drew) HX.out (by show lim ≤ wr.heap.size; omega) (HRX.out.below ((Below.refl _ _).drew))).mono ?_
          rintro e w9 ⟨ox, cx, n5, rfl, hox, hn5, hrx, hkx⟩
          have hsd : wr.drew.heap.size = wr.heap.size := rfl
          have hs9 := hkx.size
          have hc9 := (hkx.block cb hcl (fun h => by have := own1_eq h; omega)).trans (show wr.drew.heap[cb]? = _ from HC.out)
          have hz9 := (hkx.block rb (by omega) (fun h => by have := own1_eq h; omega)).trans (show wr.drew.heap[rb]? = _ from HZ.out)
          have ho9 : OwnL w9 (cb + 1) (.slice olv j clv) ps := (HO.out.below ((Below.refl _ _).drew) (Nat.le_refl _)).kept hkx (fun g hg h => by have := own1_eq h; have := (HO.out.row.lt g hg).1; omega) (fun p hp g hg h => by have := own1_eq h; have := ((HO.out.cells p hp).lt g hg).1; omega)
          obtain ⟨oL, cL, w10, hr2, hol, hk10, hor⟩ := more_en2 (x, .slice ox x.cl.length cx) ho9 (own_base hox (by omega : cb + 1 ≤ n5)) (fun g hg hv => by
            have h5 := (hox.lt g hg).1
            have h6 := (HO.out.row.lt g hv).2
            omega) (by omega) (by omega)
          rw [hpl] at hr2 hol hor
          have hc10 := (hk10.block cb (by omega) (fun hv => by have := (HO.out.row.lt cb hv).1; omega)).trans hc9
          have hz10 := (hk10.block rb (by omega) (fun hv => by have := (HO.out.row.lt rb hv).1; omega)).trans hz9
          have hrs10 : D.RS lim w10 (some ⟨b, 0, none⟩) (some (bodyE (lg.drop (j + 1)))) := hrx.keep hk10 (fun a ha hv => by injection ha with ha; subst ha; have := (HO.out.row.lt _ hv).1; simp at this; omega) (fun k hk hv => by have := (HO.out.row.lt k hv).1; omega)
          have hk10' : Kept (own1 (some ⟨b, 0, none⟩)) w w10 := ((HK.out.drew).trans hkx).step hk10 (fun k hv => .inr (by have := (HO.out.row.lt k hv).1; omega))
          have hs10 := hk10.size
          have q4 : w9.cell? ⟨cb, 4, none⟩ = some (.slice olv j clv) := cellk hc9 rfl
          have q5 : (w9.alloc (.cells (cE (x, .slice ox x.cl.length cx)).toArray 33)).cell? ⟨cb, 4, none⟩ = some (.slice olv j clv) := cellk ((Below.heap_alloc _ _ _ (lt_of_block hc9)).trans hc9) rfl
          have q6 : w10.cell? ⟨cb, 4, none⟩ = some (.slice olv j clv) := cellk hc10 rfl
          have q6f : w10.frozen? ⟨cb, 4, none⟩ = false := free_of hc10 4
          have hc10l := lt_of_block hc10
          have hc9l := lt_of_block hc9
          have HR2 := Lib.hid hr2
          have HOL := Lib.hid hol
          have HC10 := Lib.hid hc10
          have HZ10 := Lib.hid hz10
          have HRS := Lib.hid hrs10
          have HK10 := Lib.hid hk10'
          unfold enV
          unfold cE at q5
          dsimp only at q5
          clear hox hrx hkx hc9 hz9 ho9 hol hk10 hor hc10 hz10 hrs10 hk10' hr2
          dsimp only
          refine hK.out _ _ trivial (fun hHeld => ?_)
          clear hK K
          try simp only [Act.put, List.setIfInBounds_toArray, List.set_cons_zero, List.set_cons_succ]
          refine wpAnyH_ready (rs := [5]) (by kernel_rfl) (by simp) ?_
          refine AllReadyH.cons (by simp only [List.getElem?_toArray, List.getElem?_cons_succ, List.getElem?_cons_zero]; rfl) (fun K hK => ?_) AllReadyH.nil
          · go_simp
            refine hK.out _ _ trivial (fun hHeld => ?_)
            clear hK K
            try simp only [Act.put, List.setIfInBounds_toArray, List.set_cons_zero, List.set_cons_succ]
            refine wpAnyH_ready (rs := [6]) (by kernel_rfl) (by simp) ?_
            refine AllReadyH.cons (by simp only [List.getElem?_toArray, List.getElem?_cons_succ, List.getElem?_cons_zero]; rfl) (fun K hK => ?_) AllReadyH.nil
            · refine step_append_known rfl (.tmp 23) (.tmp 26) 28 28 rfl _ _ _ rfl rfl HR2.out ?_
              refine hK.out _ _ trivial (fun hHeld => ?_)
              clear hK K
              try simp only [Act.put, List.setIfInBounds_toArray, List.set_cons_zero, List.set_cons_succ]
              refine wpAnyH_take (i := 7) (v := ?_) (by simp only [List.getElem?_toArray, List.getElem?_cons_succ, List.getElem?_cons_zero]; rfl) (by kernel_rfl) (by kernel_rfl) (by kernel_rfl) (by intro _ _ _ h; exact h) (Or.inl ⟨by rfl, ?_⟩) (by assumption) ?_
              rotate_left
              · (intro w hSw; (try dsimp only at hSw); go_simp; try with_reducible rfl)
              try simp only [Act.put, List.setIfInBounds_toArray, List.set_cons_zero, List.set_cons_succ]
              refine wpAnyH_take (i := 8) (v := ?_) (by simp only [List.getElem?_toArray, List.getElem?_cons_succ, List.getElem?_cons_zero]; rfl) (by kernel_rfl) (by kernel_rfl) (by kernel_rfl) (by intro _ _ _ h; exact h) (Or.inl ⟨by rfl, ?_⟩) (by assumption) ?_
              rotate_left
              · (intro w hSw; (try dsimp only at hSw); go_simp; try with_reducible rfl)
              try simp only [Act.put, List.setIfInBounds_toArray, List.set_cons_zero, List.set_cons_succ]
              refine wpAnyH_ready (rs := [9]) (by kernel_rfl) (by simp) ?_
              refine AllReadyH.cons (by simp only [List.getElem?_toArray, List.getElem?_cons_succ, List.getElem?_cons_zero]; rfl) (fun K hK => ?_) AllReadyH.nil
              · go_simp
                refine hK.out _ _ trivial (fun hHeld => ?_)
                clear hK K
                try simp only [Act.put, List.setIfInBounds_toArray, List.set_cons_zero, List.set_cons_succ]
                refine wpAnyH_done (by kernel_rfl) ?_ _
                have hst : Kept (fun k => k = cb) w10 (w10.setCell ⟨cb, 4, none⟩ (.slice oL (j + 1) cL)) := (Kept.refl (fun k => k = cb) w10).setCell (p := ⟨cb, 4, none⟩) (.inl rfl) _
                have hcS : (w10.setCell ⟨cb, 4, none⟩ (.slice oL (j + 1) cL)).heap[cb]? = some (.cells #[.int .u64 (turn : Int), .int .u64 (tm : Int), .int .i64 vt, .int .u64 (bs : Int), .slice oL (j + 1) cL, .bool false] 74 (0, 0)) := by have h1 := HC10.out; simp [World.setCell, Array.getElem?_modify, h1]
                have hzS := (hst.block rb (by omega) (by omega)).trans HZ10.out
                have hoS := HOL.out.beside (show cb < cb + 1 by omega) 4 (.slice oL (j + 1) cL)
                have hrS := HRS.out.keep hst (fun a ha e => by injection ha with ha; subst ha; simp at e; omega) (fun k hk e => by omega)
                have hkS := HK10.out.step hst (fun k hk => .inr (by omega))
                have hlS := hst.size
                have HCS := Lib.hid hcS
                have HZS := Lib.hid hzS
                have HOS := Lib.hid hoS
                have HRS2 := Lib.hid hrS
                have HKS := Lib.hid hkS
                generalize w10.setCell ⟨cb, 4, none⟩ (.slice oL (j + 1) cL) = wS at *
                clear hst hcS hzS hoS hrS hkS q4 q5 q6 q6f x4 xf
                go_wp2_with fail
                go_roundw
                case rel => exact ⟨j + 1, _, _, by omega, by go_num, HCS, HZS, HOS, by rw [HTK.out, List.map_append, HP.out]; rfl, HRS2, HKS, by omega⟩
                case measure => simp [intOf]; omega
      · go_simp
        refine (readEntry_ok (lim := lim) (b := b) (x := x) (r := bodyE (lg.drop (j + 1))) (w := wr.drew) HX.out (by show lim ≤ wr.heap.size; omega) (HRX.out.below ((Below.refl _ _).drew))).mono ?_
        rintro e w9 ⟨ox, cx, n5, rfl, hox, hn5, hrx, hkx⟩
        have hsd : wr.drew.heap.size = wr.heap.size := rfl
        have hs9 := hkx.size
        have hc9 := (hkx.block cb hcl (fun h => by have := own1_eq h; omega)).trans (show wr.drew.heap[cb]? = _ from HC.out)
        have hz9 := (hkx.block rb (by omega) (fun h => by have := own1_eq h; omega)).trans (show wr.drew.heap[rb]? = _ from HZ.out)
        have ho9 : OwnL w9 (cb + 1) (.slice olv j clv) ps := (HO.out.below ((Below.refl _ _).drew) (Nat.le_refl _)).kept hkx (fun g hg h => by have := own1_eq h; have := (HO.out.row.lt g hg).1; omega) (fun p hp g hg h => by have := own1_eq h; have := ((HO.out.cells p hp).lt g hg).1; omega)
        obtain ⟨oL, cL, w10, hr2, hol, hk10, hor⟩ := more_en2 (x, .slice ox x.cl.length cx) ho9 (own_base hox (by omega : cb + 1 ≤ n5)) (fun g hg hv => by
          have h5 := (hox.lt g hg).1
          have h6 := (HO.out.row.lt g hv).2
          omega) (by omega) (by omega)
        rw [hpl] at hr2 hol hor
        have hc10 := (hk10.block cb (by omega) (fun hv => by have := (HO.out.row.lt cb hv).1; omega)).trans hc9
        have hz10 := (hk10.block rb (by omega) (fun hv => by have := (HO.out.row.lt rb hv).1; omega)).trans hz9
        have hrs10 : D.RS lim w10 (some ⟨b, 0, none⟩) (some (bodyE (lg.drop (j + 1)))) := hrx.keep hk10 (fun a ha hv => by injection ha with ha; subst ha; have := (HO.out.row.lt _ hv).1; simp at this; omega) (fun k hk hv => by have := (HO.out.row.lt k hv).1; omega)
        have hk10' : Kept (own1 (some ⟨b, 0, none⟩)) w w10 := ((HK.out.drew).trans hkx).step hk10 (fun k hv => .inr (by have := (HO.out.row.lt k hv).1; omega))
        have hs10 := hk10.size
        have q4 : w9.cell? ⟨cb, 4, none⟩ = some (.slice olv j clv) := cellk hc9 rfl
        have q5 : (w9.alloc (.cells (cE (x, .slice ox x.cl.length cx)).toArray 33)).cell? ⟨cb, 4, none⟩ = some (.slice olv j clv) := cellk ((Below.heap_alloc _ _ _ (lt_of_block hc9)).trans hc9) rfl
        have q6 : w10.cell? ⟨cb, 4, none⟩ = some (.slice olv j clv) := cellk hc10 rfl
        have q6f : w10.frozen? ⟨cb, 4, none⟩ = false := free_of hc10 4
        have hc10l := lt_of_block hc10
        have hc9l := lt_of_block hc9
        have HR2 := Lib.hid hr2
        have HOL := Lib.hid hol
        have HC10 := Lib.hid hc10
        have HZ10 := Lib.hid hz10
        have HRS := Lib.hid hrs10
        have HK10 := Lib.hid hk10'
        unfold enV
        unfold cE at q5
        dsimp only at q5
        clear hox hrx hkx hc9 hz9 ho9 hol hk10 hor hc10 hz10 hrs10 hk10' hr2
        dsimp only
        refine hK.out _ _ trivial (fun hHeld => ?_)
        clear hK K
        try simp only [Act.put, List.setIfInBounds_toArray, List.set_cons_zero, List.set_cons_succ]
        refine wpAnyH_ready (rs := [2, 5]) (by kernel_rfl) (by simp) ?_
        refine AllReadyH.cons (by simp only [List.getElem?_toArray, List.getElem?_cons_succ, List.getElem?_cons_zero]; rfl) (fun K hK => ?_) (AllReadyH.cons (by simp only [List.getElem?_toArray, List.getElem?_cons_succ, List.getElem?_cons_zero]; rfl) (fun K hK => ?_) AllReadyH.nil)
        · go_simp
          refine hK.out _ _ trivial (fun hHeld => ?_)
          clear hK K
          try simp only [Act.put, List.setIfInBounds_toArray, List.set_cons_zero, List.set_cons_succ]
          refine wpAnyH_ready (rs := [5]) (by kernel_rfl) (by simp) ?_
          refine AllReadyH.cons (by simp only [List.getElem?_toArray, List.getElem?_cons_succ, List.getElem?_cons_zero]; rfl) (fun K hK => ?_) AllReadyH.nil
          · go_simp
            refine hK.out _ _ trivial (fun hHeld => ?_)
            clear hK K
            try simp only [Act.put, List.setIfInBounds_toArray, List.set_cons_zero, List.set_cons_succ]
            refine wpAnyH_ready (rs := [6]) (by kernel_rfl) (by simp) ?_
            refine AllReadyH.cons (by simp only [List.getElem?_toArray, List.getElem?_cons_succ, List.getElem?_cons_zero]; rfl) (fun K hK => ?_) AllReadyH.nil
            · refine step_append_known rfl (.tmp 23) (.tmp 26) 28 28 rfl _ _ _ rfl rfl HR2.out ?_
              refine hK.out _ _ trivial (fun hHeld => ?_)
              clear hK K
              try simp only [Act.put, List.setIfInBounds_toArray, List.set_cons_zero, List.set_cons_succ]
              refine wpAnyH_take (i := 7) (v := ?_) (by simp only [List.getElem?_toArray, List.getElem?_cons_succ, List.getElem?_cons_zero]; rfl) (by kernel_rfl) (by kernel_rfl) (by kernel_rfl) (by intro _ _ _ h; exact h) (Or.inl ⟨by rfl, ?_⟩) (by assumption) ?_
              rotate_left
              · (intro w hSw; (try dsimp only at hSw); go_simp; try with_reducible rfl)
              try simp only [Act.put, List.setIfInBounds_toArray, List.set_cons_zero, List.set_cons_succ]
              refine wpAnyH_take (i := 8) (v := ?_) (by simp only [List.getElem?_toArray, List.getElem?_cons_succ, List.getElem?_cons_zero]; rfl) (by kernel_rfl) (by kernel_rfl) (by kernel_rfl) (by intro _ _ _ h; exact h) (Or.inl ⟨by rfl, ?_⟩) (by assumption) ?_
              rotate_left
              · (intro w hSw; (try dsimp only at hSw); go_simp; try with_reducible rfl)
              try simp only [Act.put, List.setIfInBounds_toArray, List.set_cons_zero, List.set_cons_succ]
              refine wpAnyH_ready (rs := [9]) (by kernel_rfl) (by simp) ?_
              refine AllReadyH.cons (by simp only [List.getElem?_toArray, List.getElem?_cons_succ, List.getElem?_cons_zero]; rfl) (fun K hK => ?_) AllReadyH.nil
              · go_simp
                refine hK.out _ _ trivial (fun hHeld => ?_)
                clear hK K
                try simp only [Act.put, List.setIfInBounds_toArray, List.set_cons_zero, List.set_cons_succ]
                refine wpAnyH_done (by kernel_rfl) ?_ _
                have hst : Kept (fun k => k = cb) w10 (w10.setCell ⟨cb, 4, none⟩ (.slice oL (j + 1) cL)) := (Kept.refl (fun k => k = cb) w10).setCell (p := ⟨cb, 4, none⟩) (.inl rfl) _
                have hcS : (w10.setCell ⟨cb, 4, none⟩ (.slice oL (j + 1) cL)).heap[cb]? = some (.cells #[.int .u64 (turn : Int), .int .u64 (tm : Int), .int .i64 vt, .int .u64 (bs : Int), .slice oL (j + 1) cL, .bool false] 74 (0, 0)) := by have h1 := HC10.out; simp [World.setCell, Array.getElem?_modify, h1]
                have hzS := (hst.block rb (by omega) (by omega)).trans HZ10.out
                have hoS := HOL.out.beside (show cb < cb + 1 by omega) 4 (.slice oL (j + 1) cL)
                have hrS := HRS.out.keep hst (fun a ha e => by injection ha with ha; subst ha; simp at e; omega) (fun k hk e => by omega)
                have hkS := HK10.out.step hst (fun k hk => .inr (by omega))
                have hlS := hst.size
                have HCS := Lib.hid hcS
                have HZS := Lib.hid hzS
                have HOS := Lib.hid hoS
                have HRS2 := Lib.hid hrS
                have HKS := Lib.hid hkS
                generalize w10.setCell ⟨cb, 4, none⟩ (.slice oL (j + 1) cL) = wS at *
                clear hst hcS hzS hoS hrS hkS q4 q5 q6 q6f x4 xf
                go_wp2_with fail
                go_roundw
                case rel => exact ⟨j + 1, _, _, by omega, by go_num, HCS, HZS, HOS, by rw [HTK.out, List.map_append, HP.out]; rfl, HRS2, HKS, by omega⟩
                case measure => simp [intOf]; omega
        · go_simp
          refine hK.out _ _ trivial (fun hHeld => ?_)
          clear hK K
          try simp only [Act.put, List.setIfInBounds_toArray, List.set_cons_zero, List.set_cons_succ]
          refine wpAnyH_ready (rs := [2]) (by kernel_rfl) (by simp) ?_
          refine AllReadyH.cons (by simp only [List.getElem?_toArray, List.getElem?_cons_succ, List.getElem?_cons_zero]; rfl) (fun K hK => ?_) AllReadyH.nil
          · go_simp
            refine hK.out _ _ trivial (fun hHeld => ?_)
            clear hK K
            try simp only [Act.put, List.setIfInBounds_toArray, List.set_cons_zero, List.set_cons_succ]
            refine wpAnyH_ready (rs := [6]) (by kernel_rfl) (by simp) ?_
            refine AllReadyH.cons (by simp only [List.getElem?_toArray, List.getElem?_cons_succ, List.getElem?_cons_zero]; rfl) (fun K hK => ?_) AllReadyH.nil
            · refine step_append_known rfl (.tmp 23) (.tmp 26) 28 28 rfl _ _ _ rfl rfl HR2.out ?_
              refine hK.out _ _ trivial (fun hHeld => ?_)
              clear hK K
              try simp only [Act.put, List.setIfInBounds_toArray, List.set_cons_zero, List.set_cons_succ]
              refine wpAnyH_take (i := 7) (v := ?_) (by simp only [List.getElem?_toArray, List.getElem?_cons_succ, List.getElem?_cons_zero]; rfl) (by kernel_rfl) (by kernel_rfl) (by kernel_rfl) (by intro _ _ _ h; exact h) (Or.inl ⟨by rfl, ?_⟩) (by assumption) ?_
              rotate_left
              · (intro w hSw; (try dsimp only at hSw); go_simp; try with_reducible rfl)
              try simp only [Act.put, List.setIfInBounds_toArray, List.set_cons_zero, List.set_cons_succ]
              refine wpAnyH_take (i := 8) (v := ?_) (by simp only [List.getElem?_toArray, List.getElem?_cons_succ, List.getElem?_cons_zero]; rfl) (by kernel_rfl) (by kernel_rfl) (by kernel_rfl) (by intro _ _ _ h; exact h) (Or.inl ⟨by rfl, ?_⟩) (by assumption) ?_
              rotate_left
              · (intro w hSw; (try dsimp only at hSw); go_simp; try with_reducible rfl)
              try simp only [Act.put, List.setIfInBounds_toArray, List.set_cons_zero, List.set_cons_succ]
              refine wpAnyH_ready (rs := [9]) (by kernel_rfl) (by simp) ?_
              refine AllReadyH.cons (by simp only [List.getElem?_toArray, List.getElem?_cons_succ, List.getElem?_cons_zero]; rfl) (fun K hK => ?_) AllReadyH.nil
              · go_simp
                refine hK.out _ _ trivial (fun hHeld => ?_)
                clear hK K
                try simp only [Act.put, List.setIfInBounds_toArray, List.set_cons_zero, List.set_cons_succ]
                refine wpAnyH_done (by kernel_rfl) ?_ _
                have hst : Kept (fun k => k = cb) w10 (w10.setCell ⟨cb, 4, none⟩ (.slice oL (j + 1) cL)) := (Kept.refl (fun k => k = cb) w10).setCell (p := ⟨cb, 4, none⟩) (.inl rfl) _
                have hcS : (w10.setCell ⟨cb, 4, none⟩ (.slice oL (j + 1) cL)).heap[cb]? = some (.cells #[.int .u64 (turn : Int), .int .u64 (tm : Int), .int .i64 vt, .int .u64 (bs : Int), .slice oL (j + 1) cL, .bool false] 74 (0, 0)) := by have h1 := HC10.out; simp [World.setCell, Array.getElem?_modify, h1]
                have hzS := (hst.block rb (by omega) (by omega)).trans HZ10.out
                have hoS := HOL.out.beside (show cb < cb + 1 by omega) 4 (.slice oL (j + 1) cL)
                have hrS := HRS.out.keep hst (fun a ha e => by injection ha with ha; subst ha; simp at e; omega) (fun k hk e => by omega)
                have hkS := HK10.out.step hst (fun k hk => .inr (by omega))
                have hlS := hst.size
                have HCS := Lib.hid hcS
                have HZS := Lib.hid hzS
                have HOS := Lib.hid hoS
                have HRS2 := Lib.hid hrS
                have HKS := Lib.hid hkS
                generalize w10.setCell ⟨cb, 4, none⟩ (.slice oL (j + 1) cL) = wS at *
                clear hst hcS hzS hoS hrS hkS q4 q5 q6 q6f x4 xf
                go_wp2_with fail
                go_roundw
                case rel => exact ⟨j + 1, _, _, by omega, by go_num, HCS, HZS, HOS, by rw [HTK.out, List.map_append, HP.out]; rfl, HRS2, HKS, by omega⟩
                case measure => simp [intOf]; omega
    · obtain rfl : j = lg.length := by omega
      have hps : ps.map Prod.fst = lg := by rw [HP.out, List.take_length]
      have HPS := Lib.hid hps
      obtain ⟨olv, clv, hlv⟩ := HO.out.form
      subst hlv
      rw [hpl] at HC HO
      have hr := HR.out
      rw [List.drop_length, show bodyE [] = [] from rfl] at hr
      have HEND := Lib.hid (D.rend _ _ wr.drew (hr.below ((Below.refl _ _).drew)))
      have x0 : wr.cell? ⟨cb, 0, none⟩ = some (.int .u64 (turn : Int)) := cellk HC.out rfl
      have x1 : wr.cell? ⟨cb, 1, none⟩ = some (.int .u64 (tm : Int)) := cellk HC.out rfl
      have x2 : wr.cell? ⟨cb, 2, none⟩ = some (.int .i64 vt) := cellk HC.out rfl
      have x3 : wr.cell? ⟨cb, 3, none⟩ = some (.int .u64 (bs : Int)) := cellk HC.out rfl
      have x4 : wr.cell? ⟨cb, 4, none⟩ = some (.slice olv lg.length clv) := cellk HC.out rfl
      have x5 : wr.cell? ⟨cb, 5, none⟩ = some (.bool false) := cellk HC.out rfl
      have hii : ¬ (lg.length : Int) < (lg.length : Int) := by omega
      clear hr hps
      go_wp2_with fail
      refine wp_region_held_drew (S := fun w' => w'.cell? ⟨cb, 0, none⟩ = some (.int .u64 (turn : Int)) ∧ w'.cell? ⟨cb, 1, none⟩ = some (.int .u64 (tm : Int)) ∧ w'.cell? ⟨cb, 2, none⟩ = some (.int .i64 vt) ∧ w'.cell? ⟨cb, 3, none⟩ = some (.int .u64 (bs : Int)) ∧ w'.cell? ⟨cb, 4, none⟩ = some (.slice olv lg.length clv) ∧ w'.cell? ⟨cb, 5, none⟩ = some (.bool false)) (by kernel_rfl) ⟨x0, x1, x2, x3, x4, x5⟩ ?_
      intro hHeld
      refine wpAnyH_take (i := 0) (v := ?_) (by simp only [List.getElem?_toArray, List.getElem?_cons_zero]; rfl) (by kernel_rfl) (by kernel_rfl) (by kernel_rfl) (by intro _ _ _ h; exact h) (Or.inl ⟨by rfl, ?_⟩) (by assumption) ?_
      rotate_left
      · (intro w hSw; (try dsimp only at hSw); go_simp; try with_reducible rfl)
      try simp only [Act.put, List.setIfInBounds_toArray, List.set_cons_zero, List.set_cons_succ]
      refine wpAnyH_take (i := 1) (v := ?_) (by simp only [List.getElem?_toArray, List.getElem?_cons_succ, List.getElem?_cons_zero]; rfl) (by kernel_rfl) (by kernel_rfl) (by kernel_rfl) (by intro _ _ _ h; exact h) (Or.inl ⟨by rfl, ?_⟩) (by assumption) ?_
      rotate_left
      · (intro w hSw; (try dsimp only at hSw); go_simp; try with_reducible rfl)
      try simp only [Act.put, List.setIfInBounds_toArray, List.set_cons_zero, List.set_cons_succ]
      refine wpAnyH_ready (rs := [2]) (by kernel_rfl) (by simp) ?_
      refine AllReadyH.cons (by simp only [List.getElem?_toArray, List.getElem?_cons_succ, List.getElem?_cons_zero]; rfl) (fun K hK => ?_) AllReadyH.nil
      go_simp
      refine HEND.out.mono ?_
      rintro e wf ⟨rfl, rfl⟩
      dsimp only
      refine hK.out _ _ ⟨x0, x1, x2, x3, x4, x5⟩ (fun hHeld => ?_)
      clear hK K
      try simp only [Act.put, List.setIfInBounds_toArray, List.set_cons_zero, List.set_cons_succ]
      refine wpAnyH_ready (rs := [3]) (by kernel_rfl) (by simp) ?_
      refine AllReadyH.cons (by simp only [List.getElem?_toArray, List.getElem?_cons_succ, List.getElem?_cons_zero]; rfl) (fun K hK => ?_) AllReadyH.nil
      refine step_store_row rfl 74 (.tmp 2) (.tmp 31) rfl rb #[.int .u64 (turn : Int), .int .u64 (tm : Int), .int .i64 vt, .int .u64 (bs : Int), .slice olv lg.length clv, .bool false] rfl rfl 74 coZ.toArray (show wr.drew.heap[rb]? = _ from HZ.out) (by kernel_rfl) rfl (by simp [Value.oneCell']) ?_
      refine hK.out _ _ ⟨(cell_setRow_other _ _ _ ⟨cb, 0, none⟩ (by show cb ≠ rb; omega)).trans x0, (cell_setRow_other _ _ _ ⟨cb, 1, none⟩ (by show cb ≠ rb; omega)).trans x1, (cell_setRow_other _ _ _ ⟨cb, 2, none⟩ (by show cb ≠ rb; omega)).trans x2, (cell_setRow_other _ _ _ ⟨cb, 3, none⟩ (by show cb ≠ rb; omega)).trans x3, (cell_setRow_other _ _ _ ⟨cb, 4, none⟩ (by show cb ≠ rb; omega)).trans x4, (cell_setRow_other _ _ _ ⟨cb, 5, none⟩ (by show cb ≠ rb; omega)).trans x5⟩ (fun hHeld => ?_)
      clear hK K
      try simp only [Act.put]
      refine wpAnyH_take (i := 4) (v := ?_) (by simp only [List.getElem?_toArray, List.getElem?_cons_succ, List.getElem?_cons_zero]; rfl) (by kernel_rfl) (by kernel_rfl) (by kernel_rfl) (by intro _ _ _ h; exact h) (Or.inl ⟨by rfl, ?_⟩) (by assumption) ?_
      rotate_left
      · (intro w hSw; (try dsimp only at hSw); go_simp; try with_reducible rfl)
      try simp only [Act.put, List.setIfInBounds_toArray, List.set_cons_zero, List.set_cons_succ]
      refine wpAnyH_done (by kernel_rfl) ?_ _
      have hst : Kept (fun k => k = rb) wr (wr.drew.setRow rb #[.int .u64 (turn : Int), .int .u64 (tm : Int), .int .i64 vt, .int .u64 (bs : Int), .slice olv lg.length clv, .bool false]) := (Kept.refl _ _).drew.trans (row_kept wr.drew rb _)
      have hzS : (wr.drew.setRow rb #[.int .u64 (turn : Int), .int .u64 (tm : Int), .int .i64 vt, .int .u64 (bs : Int), .slice olv lg.length clv, .bool false]).heap[rb]? = some (.cells #[.int .u64 (turn : Int), .int .u64 (tm : Int), .int .i64 vt, .int .u64 (bs : Int), .slice olv lg.length clv, .bool false] 74 (0, 0)) := setRow_heap _ _ _ _ _ _ (show wr.drew.heap[rb]? = _ from HZ.out)
      generalize wr.drew.setRow rb #[.int .u64 (turn : Int), .int .u64 (tm : Int), .int .i64 vt, .int .u64 (bs : Int), .slice olv lg.length clv, .bool false] = wS at *
      have hoS := HO.out.kept hst (fun g hg e => by have := (HO.out.row.lt g hg).1; omega) (fun p hp g hg e => by have := ((HO.out.cells p hp).lt g hg).1; omega)
      have HOS := Lib.hid hoS
      have HKS := Lib.hid (HK.out.step hst (fun k hk => .inr (by have := HRB.out; omega)))
      have r0 := cellk (i := 0) hzS rfl
      have r1 := cellk (i := 1) hzS rfl
      have r2 := cellk (i := 2) hzS rfl
      have r3 := cellk (i := 3) hzS rfl
      have r4 := cellk (i := 4) hzS rfl
      have r5 := cellk (i := 5) hzS rfl
      clear hst hzS hoS hHeld x0 x1 x2 x3 x4 x5
      go_wp2_with fail
      refine bodyPost_ret (v := .tuple #[.agg #[.int .u64 (turn : Int), .int .u64 (tm : Int), .int .i64 vt, .int .u64 (bs : Int), .slice olv lg.length clv, .bool false], .bool true]) (by simp [results, Try.results39, go_sem, r0, r1, r2, r3, r4, r5]) rfl ?_
      exact ⟨_, ps, rfl, HOS.out.base (by have := HRB.out; omega), HPS.out, HKS.out⟩
end Go.Proofs.Ytdckcjcddibglaa

namespace Go.Proofs.Ytdckcjcddibglaa
open Go.RowKit OctM

set_option maxHeartbeats 4000000 in
set_option maxRecDepth 100000 in
theorem read_whole (v : Value) (turn : Nat) (s : Wst) (w : World) (h : Rd w v (wholeB turn s)) (hok : s.Ok) (ht : turn < 18446744073709551616) (hI : (headB turn s ++ bodyE s.lg).length ≤ 1000000) :
    Calls Try.prog 30 #[v] w fun e w' => ∃ lv ps, e = .returned (.agg (coC turn s lv).toArray) ∧ OwnL w' w.heap.size lv ps ∧ ps.map Prod.fst = s.lg ∧ Below w.heap.size w w' := by
  have hb0 : Below w.heap.size w (w.alloc (.cells coZ.toArray 74)) := (Below.refl _ _).alloc (Nat.le_refl _) _
  have hn0 := heap_alloc_new w (.cells coZ.toArray 74)
  have hs0 : (w.alloc (.cells coZ.toArray 74)).heap.size = w.heap.size + 1 := by simp
  obtain ⟨w1, hw1⟩ : ∃ w1, w.alloc (.cells coZ.toArray 74) = w1 := ⟨_, rfl⟩
  rw [hw1] at hb0 hn0 hs0
  have hw1' := hw1
  unfold coZ at hw1'
  have HW1 := Lib.hid hw1'
  have hlen : (wholeB turn s).length ≤ 2000000 := by
    have h1 := encB_len (sealed (headB turn s ++ bodyE s.lg))
    have h2 : (sealed (headB turn s ++ bodyE s.lg)).length = (headB turn s ++ bodyE s.lg).length + 4 := sealed_length _
    unfold wholeB
    omega
  have H1 := Lib.hid (D.newReader v (wholeB turn s) w1 (h.below hb0) (by omega))
  have HB1 := Lib.hid hb0
  have HN1 := Lib.hid hn0
  have HOK := Lib.hid hok
  have HI := Lib.hid hI
  clear h hb0 hn0 hw1 hw1' hok hI hlen
  go_enter Try.func30, Try.ntmps30
  go_upto_region 1 with fail
  rw [HW1.out]
  clear HW1
  obtain ⟨rb, hrb⟩ : ∃ rb, w.heap.size = rb := ⟨_, rfl⟩
  have HRB := Lib.hid hrb
  rw [hrb] at HN1 hs0
  rw [hrb]
  go_wp2_with fail
  refine H1.out.mono ?_
  rintro e w2 ⟨b, rfl, hr, hb2, hbge⟩
  have hbl := D.RS.lt hr
  have hr' : D.RS b w2 (some ⟨b, 0, none⟩) (some (encB (sealed (headB turn s ++ bodyE s.lg)) ++ [])) := by rw [List.append_nil]; exact hr
  have H2 := Lib.hid (readFrame_ok hr' HI.out)
  have hz2 := hb2.size
  have HB2 := Lib.hid (HB1.out.trans (hb2.mono (by omega)))
  have HN2 := Lib.hid ((hb2.block rb (by omega)).trans HN1.out)
  clear hr hr' hb2 H1 HB1 HN1
  go_wp2_with fail
  refine H2.out.mono ?_
  rintro e w3 ⟨b', rfl, hi3, hr3, hk3, hge3⟩
  have hbl3 := D.RS.lt hi3
  have hz3 := hk3.size
  have H3 := Lib.hid (readWhole_ok turn s w3 HOK.out ht (Nat.le_of_lt hbl3) hi3)
  have HB3 := Lib.hid (HB2.out.trans (hk3.below (n := w.heap.size) (by omega) (fun k hk => by have := own1_eq hk; omega)))
  have HN3 := Lib.hid ((hk3.block rb (by omega) (fun h => by have := own1_eq h; omega)).trans HN2.out)
  have HR3 := Lib.hid hr3
  simp only at hbl hbl3
  clear hi3 hr3 hk3 H2 HB2 HN2
  go_wp2_with fail
  refine H3.out.mono ?_
  rintro e w4 ⟨lv, ps, rfl, ho4, hps, hk4⟩
  obtain ⟨ol, cl, hlv⟩ := ho4.form
  subst hlv
  have hz4 := hk4.size
  have hb4 : Below w.heap.size w w4 := HB3.out.trans (hk4.below (n := w.heap.size) (by omega) (fun k hk => by have := own1_eq hk; omega))
  have hn4 := (hk4.block rb (by omega) (fun h => by have := own1_eq h; omega)).trans HN3.out
  have hr4 := HR3.out.keep hk4 (fun a ha e => by injection ha with ha; subst ha; have := own1_eq e; simp at this; omega) (fun k hk e => by have := own1_eq e; omega)
  obtain ⟨w5, hw5⟩ : ∃ w5, w4.alloc (.cells (coC turn s (.slice ol ps.length cl)).toArray 74) = w5 := ⟨_, rfl⟩
  have hb5 : Below w4.heap.size w4 (w4.alloc (.cells (coC turn s (.slice ol ps.length cl)).toArray 74)) := (Below.refl _ _).alloc (Nat.le_refl _) _
  have hn5 := heap_alloc_new w4 (.cells (coC turn s (.slice ol ps.length cl)).toArray 74)
  rw [hw5] at hb5 hn5
  have hz5 := hb5.size
  have HEND := Lib.hid (D.rend _ _ w5 (hr4.below hb5))
  have HB5 := Lib.hid (hb4.trans (hb5.mono (by omega)))
  have HN5 := Lib.hid ((hb5.block rb (by omega)).trans hn4)
  have HC5 := Lib.hid hn5
  have HO5 := Lib.hid (ho4.below hb5 (Nat.le_refl _))
  have HPS := Lib.hid hps
  have hlc := lt_of_block hn5
  unfold coC at hw5
  have HW5 := Lib.hid hw5
  clear ho4 hps hk4 hb4 hn4 hr4 hb5 hn5 hw5 H3 HB3 HN3 HR3
  unfold coC
  go_upto_region 3 with fail
  rw [HW5.out]
  obtain ⟨cb, hcb⟩ : ∃ cb, w4.heap.size = cb := ⟨_, rfl⟩
  rw [hcb] at HC5 hlc
  rw [hcb]
  have x0 : w5.cell? ⟨cb, 0, none⟩ = some (.int .u64 (turn : Int)) := cellk HC5.out rfl
  have x1 : w5.cell? ⟨cb, 1, none⟩ = some (.int .u64 (s.tm : Int)) := cellk HC5.out rfl
  have x2 : w5.cell? ⟨cb, 2, none⟩ = some (.int .i64 s.vt) := cellk HC5.out rfl
  have x3 : w5.cell? ⟨cb, 3, none⟩ = some (.int .u64 (s.bs : Int)) := cellk HC5.out rfl
  have x4 : w5.cell? ⟨cb, 4, none⟩ = some (.slice ol ps.length cl) := cellk HC5.out rfl
  have x5 : w5.cell? ⟨cb, 5, none⟩ = some (.bool false) := cellk HC5.out rfl
  clear HW5
  go_wp2_with fail
  go_loopw [18] (fun _ wr => wr = w5) (fun _ _ => 0)
  case atStart => rfl
  case round =>
    obtain rfl := hrel
    go_wp2_with fail
    refine HEND.out.mono ?_
    rintro e w6 ⟨rfl, rfl⟩
    go_wp2_with (refine wpList_store_row rfl 74 (.tmp 2) (.tmp 31) rfl rb #[.int .u64 (turn : Int), .int .u64 (s.tm : Int), .int .i64 s.vt, .int .u64 (s.bs : Int), .slice ol ps.length cl, .bool false] rfl rfl 74 coZ.toArray HN5.out (by kernel_rfl) rfl (by simp [Value.oneCell']) ?_; generalize hW : World.setRow _ _ _ = W7)
    have hst : Kept (fun k => k = rb) wr W7 := by rw [← hW]; exact row_kept _ _ _
    have hzS : W7.heap[rb]? = some (.cells #[.int .u64 (turn : Int), .int .u64 (s.tm : Int), .int .i64 s.vt, .int .u64 (s.bs : Int), .slice ol ps.length cl, .bool false] 74 (0, 0)) := by rw [← hW]; exact setRow_heap _ _ _ _ _ _ HN5.out
    have r0 := cellk (i := 0) hzS rfl
    have r1 := cellk (i := 1) hzS rfl
    have r2 := cellk (i := 2) hzS rfl
    have r3 := cellk (i := 3) hzS rfl
    have r4 := cellk (i := 4) hzS rfl
    have r5 := cellk (i := 5) hzS rfl
    have hoS := HO5.out.kept hst (fun g hg e => by have := (HO5.out.row.lt g hg).1; omega) (fun p hp g hg e => by have := ((HO5.out.cells p hp).lt g hg).1; omega)
    have hbS := HB5.out.trans (hst.below (n := w.heap.size) (by omega) (fun k hk => by omega))
    refine bodyPost_ret (v := .agg #[.int .u64 (turn : Int), .int .u64 (s.tm : Int), .int .i64 s.vt, .int .u64 (s.bs : Int), .slice ol ps.length cl, .bool false]) (by simp [results, Try.results30, go_sem, r0, r1, r2, r3, r4, r5]) rfl ?_
    exact ⟨_, ps, rfl, hoS.base (by omega), HPS.out, hbS⟩
end Go.Proofs.Ytdckcjcddibglaa

namespace Go.Proofs.Ytdckcjcddibglaa
open Go.RowKit OctM

set_option maxHeartbeats 8000000 in
set_option maxRecDepth 100000 in
theorem wopen_two (turn : Nat) (s : Wst) (w : World) {X : Nat → Prop} {D T : Nat} {d : Dr} (h : Dt w X D T d) (hX : ∀ k, X k → k < w.heap.size) (hn : d.n = 3) (hoff : d.off = false) (h1 : (d.tr 1).now = []) (h2 : (d.tr 2).now = wholeB turn s) (hok : s.Ok) (hpos : 0 < s.lg.length) (ht1 : 1 ≤ turn) (ht2 : turn ≤ 1000000) (hI : (headB turn s ++ bodyE s.lg).length ≤ 1000000) :
    Calls Try.prog 14 #[.pointer (some ⟨D, 0, none⟩), .int .i64 1] w fun e w' => ∃ B, e = .returned (.tuple #[.pointer (some ⟨B, 0, none⟩), .int .i64 0]) ∧ WlAt w' (Fr X w w') B D T ⟨d, 2, 1, turn, false, s⟩ ∧ Below w.heap.size w w' := by
  have HT := Lib.hid (dt_tracks w h)
  have HR := Lib.hid (dt_read 1 w h)
  have hc1 : chk d 1 = 0 := by unfold chk; rw [if_neg (by omega), if_neg (by rw [hoff]; simp)]
  have hc2 : chk d 2 = 0 := by unfold chk; rw [if_neg (by omega), if_neg (by rw [hoff]; simp)]
  rw [hn] at HT
  have HH := Lib.hid h
  have HX := Lib.hid hX
  have HC2 := Lib.hid hc2
  have HE1 := Lib.hid h1
  have HE2 := Lib.hid h2
  have HOK := Lib.hid hok
  have HPO := Lib.hid hpos
  have HI := Lib.hid hI
  clear h hX hc2 h1 h2 hok hpos hI
  go_enter Try.func14, Try.ntmps14
  go_wp2_with fail
  refine HT.out.mono ?_
  rintro e w' ⟨rfl, rfl⟩
  go_wp2_with fail
  refine HR.out.mono ?_
  rintro e w1 (⟨h0, -⟩ | ⟨-, v1, rfl, ho1, hb1⟩)
  · exact absurd hc1 h0
  have e1 : (1 : Int).toNat = 1 := rfl
  rw [e1, HE1.out] at ho1
  have HR2 := Lib.hid (dt_read 2 w1 (HH.out.low hb1))
  have HO1 := Lib.hid ho1
  have HB1 := Lib.hid hb1
  have hs1 := hb1.size
  clear ho1 hb1 hc1 e1 HR HT
  go_wp2_with fail
  refine HR2.out.mono ?_
  rintro e w2 (⟨h0, -⟩ | ⟨-, v2, rfl, ho2, hb2⟩)
  · exact absurd HC2.out h0
  have e2 : (2 : Int).toNat = 2 := rfl
  rw [e2, HE2.out] at ho2
  have HB2 := Lib.hid (HB1.out.trans (hb2.mono hs1))
  have H3 := Lib.hid (read_empty v1 w2 ((Rd.of_own HO1.out).below hb2))
  have HO2 := Lib.hid ho2
  have hs2 := hb2.size
  clear ho2 hb2 HR2 e2 HC2
  go_wp2_with fail
  refine H3.out.mono ?_
  rintro e w3 ⟨rfl, hb3⟩
  have H4 := Lib.hid (read_whole v2 turn s w3 ((Rd.of_own HO2.out).below hb3) HOK.out (by omega) HI.out)
  have HB3 := Lib.hid (HB2.out.trans (hb3.mono (by omega)))
  have hs3 := hb3.size
  clear hb3 H3
  go_wp2_with fail
  refine H4.out.mono ?_
  rintro e w4 ⟨lv, ps, rfl, ho4, hps, hb4⟩
  obtain ⟨ol, cl, hlv⟩ := ho4.form
  subst hlv
  unfold coC
  have HB4 := Lib.hid (HB3.out.trans (hb4.mono (by omega)))
  have hs4 := hb4.size
  have HO4 := Lib.hid ho4
  have HPS := Lib.hid hps
  clear hb4 H4 ho4 hps
  obtain ⟨w6, hw6⟩ : ∃ w6, (w4.alloc (.cells #[.int .u64 0, .int .u64 0, .int .i64 (-1), .int .u64 0, .slice none 0 0, .bool true] 74)).alloc (.cells #[.int .u64 (turn : Int), .int .u64 (s.tm : Int), .int .i64 s.vt, .int .u64 (s.bs : Int), .slice ol ps.length cl, .bool false] 74) = w6 := ⟨_, rfl⟩
  have hb6 : Below w4.heap.size w4 ((w4.alloc (.cells #[.int .u64 0, .int .u64 0, .int .i64 (-1), .int .u64 0, .slice none 0 0, .bool true] 74)).alloc (.cells #[.int .u64 (turn : Int), .int .u64 (s.tm : Int), .int .i64 s.vt, .int .u64 (s.bs : Int), .slice ol ps.length cl, .bool false] 74)) := ((Below.refl _ _).alloc (Nat.le_refl _) _).alloc (by simp) _
  have hs6 : ((w4.alloc (.cells #[.int .u64 0, .int .u64 0, .int .i64 (-1), .int .u64 0, .slice none 0 0, .bool true] 74)).alloc (.cells #[.int .u64 (turn : Int), .int .u64 (s.tm : Int), .int .i64 s.vt, .int .u64 (s.bs : Int), .slice ol ps.length cl, .bool false] 74)).heap.size = w4.heap.size + 2 := by simp
  have hm1 : ((w4.alloc (.cells #[.int .u64 0, .int .u64 0, .int .i64 (-1), .int .u64 0, .slice none 0 0, .bool true] 74)).alloc (.cells #[.int .u64 (turn : Int), .int .u64 (s.tm : Int), .int .i64 s.vt, .int .u64 (s.bs : Int), .slice ol ps.length cl, .bool false] 74)).heap[w4.heap.size]? = some (.cells #[.int .u64 0, .int .u64 0, .int .i64 (-1), .int .u64 0, .slice none 0 0, .bool true] 74 (0, 0)) := by
    rw [Below.heap_alloc _ _ _ (by simp)]; exact heap_alloc_new _ _
  have hm2 : ((w4.alloc (.cells #[.int .u64 0, .int .u64 0, .int .i64 (-1), .int .u64 0, .slice none 0 0, .bool true] 74)).alloc (.cells #[.int .u64 (turn : Int), .int .u64 (s.tm : Int), .int .i64 s.vt, .int .u64 (s.bs : Int), .slice ol ps.length cl, .bool false] 74)).heap[w4.heap.size + 1]? = some (.cells #[.int .u64 (turn : Int), .int .u64 (s.tm : Int), .int .i64 s.vt, .int .u64 (s.bs : Int), .slice ol ps.length cl, .bool false] 74 (0, 0)) := by
    have := heap_alloc_new (w4.alloc (.cells #[.int .u64 0, .int .u64 0, .int .i64 (-1), .int .u64 0, .slice none 0 0, .bool true] 74)) (.cells #[.int .u64 (turn : Int), .int .u64 (s.tm : Int), .int .i64 s.vt, .int .u64 (s.bs : Int), .slice ol ps.length cl, .bool false] 74)
    simpa using this
  rw [hw6] at hb6 hs6 hm1 hm2
  have HW6 := Lib.hid hw6
  clear hw6
  go_upto_region 12 with fail
  rw [HW6.out]
  have hb7 : Below w6.heap.size w6 (w6.alloc (.cells #[.pointer (some ⟨D, 0, none⟩), .int .i64 1, .int .i64 2, .int .u64 0, .bool false, .int .u64 0, .int .i64 0, .int .u64 0, .slice none 0 0] 53)) := (Below.refl _ _).alloc (Nat.le_refl _) _
  have hn7 := heap_alloc_new w6 (.cells #[.pointer (some ⟨D, 0, none⟩), .int .i64 1, .int .i64 2, .int .u64 0, .bool false, .int .u64 0, .int .i64 0, .int .u64 0, .slice none 0 0] 53)
  have hs7 : (w6.alloc (.cells #[.pointer (some ⟨D, 0, none⟩), .int .i64 1, .int .i64 2, .int .u64 0, .bool false, .int .u64 0, .int .i64 0, .int .u64 0, .slice none 0 0] 53)).heap.size = w6.heap.size + 1 := by simp
  go_upto_region 13 with fail
  generalize (w6.alloc (.cells #[.pointer (some ⟨D, 0, none⟩), .int .i64 1, .int .i64 2, .int .u64 0, .bool false, .int .u64 0, .int .i64 0, .int .u64 0, .slice none 0 0] 53)) = w7 at *
  have hm1 := (hb7.block w4.heap.size (by omega)).trans hm1
  have hm2 := (hb7.block (w4.heap.size + 1) (by omega)).trans hm2
  have HB7 := Lib.hid ((HB4.out.trans (hb6.mono (by omega))).trans (hb7.mono (by omega)))
  have H47 := Lib.hid (hb6.trans (hb7.mono (by omega)))
  have x0 : w7.cell? ⟨w4.heap.size, 0, none⟩ = some (.int .u64 0) := cellk hm1 rfl
  have y0 : w7.cell? ⟨w4.heap.size + 1, 0, none⟩ = some (.int .u64 (turn : Int)) := cellk hm2 rfl
  have y1 : w7.cell? ⟨w4.heap.size + 1, 1, none⟩ = some (.int .u64 (s.tm : Int)) := cellk hm2 rfl
  have y2 : w7.cell? ⟨w4.heap.size + 1, 2, none⟩ = some (.int .i64 s.vt) := cellk hm2 rfl
  have y3 : w7.cell? ⟨w4.heap.size + 1, 3, none⟩ = some (.int .u64 (s.bs : Int)) := cellk hm2 rfl
  have y4 : w7.cell? ⟨w4.heap.size + 1, 4, none⟩ = some (.slice ol ps.length cl) := cellk hm2 rfl
  have y5 : w7.cell? ⟨w4.heap.size + 1, 5, none⟩ = some (.bool false) := cellk hm2 rfl
  rw [hs6] at hn7
  have HN7 := Lib.hid hn7
  have HM1 := Lib.hid hm1
  obtain ⟨B, hB⟩ : ∃ B, w4.heap.size + 2 = B := ⟨_, rfl⟩
  rw [hB] at HN7
  obtain ⟨w8, hw8⟩ : ∃ w8, w7.setRow w4.heap.size #[.int .u64 (turn : Int), .int .u64 (s.tm : Int), .int .i64 s.vt, .int .u64 (s.bs : Int), .slice ol ps.length cl, .bool false] = w8 := ⟨_, rfl⟩
  have hk8 : Kept (fun k => k = w4.heap.size) w7 w8 := by rw [← hw8]; exact row_kept _ _ _
  have hm8 : w8.heap[w4.heap.size]? = some (.cells #[.int .u64 (turn : Int), .int .u64 (s.tm : Int), .int .i64 s.vt, .int .u64 (s.bs : Int), .slice ol ps.length cl, .bool false] 74 (0, 0)) := by rw [← hw8]; exact setRow_heap _ _ _ _ _ _ hm1
  have hn8 := (hk8.block B (lt_of_block HN7.out) (by omega)).trans HN7.out
  have hs8 := hk8.size
  have z1 : w8.cell? ⟨B, 1, none⟩ = some (.int .i64 1) := cellk hn8 rfl
  have z2 : w8.cell? ⟨B, 2, none⟩ = some (.int .i64 2) := cellk hn8 rfl
  have f1 := free_of hn8 1
  have f2 := free_of hn8 2
  have hBl := lt_of_block hn8
  have HW8 := Lib.hid hw8
  have HM8 := Lib.hid hm8
  have HN8 := Lib.hid hn8
  have HK8 := Lib.hid hk8
  have htI : (0 : Int) < (turn : Int) := by omega
  have htg : ¬ (turn : Int) ≤ 0 := by omega
  have hBe : w4.heap.size + 1 + 1 = B := by omega
  have HBE := Lib.hid hB
  clear hb6 hb7 hm1 hm2 hn7 hw8 hk8 hm8 hn8
  try rw [hBe]
  go_upto_region 15 with (refine wpList_store_row rfl 74 (.tmp 9) (.tmp 59) rfl w4.heap.size #[.int .u64 (turn : Int), .int .u64 (s.tm : Int), .int .i64 s.vt, .int .u64 (s.bs : Int), .slice ol ps.length cl, .bool false] rfl rfl 74 #[.int .u64 0, .int .u64 0, .int .i64 (-1), .int .u64 0, .slice none 0 0, .bool true] HM1.out (by kernel_rfl) rfl (by simp [Value.oneCell']) ?_; rw [HW8.out])
  obtain ⟨w9, hw9⟩ : ∃ w9, (w8.setCell ⟨B, 1, none⟩ (.int .i64 2)).setCell ⟨B, 2, none⟩ (.int .i64 1) = w9 := ⟨_, rfl⟩
  have hk9 : Kept (fun k => k = B) w8 w9 := by rw [← hw9]; exact ((Kept.refl (fun k => k = B) w8).setCell (p := ⟨B, 1, none⟩) (.inl rfl) _).setCell (p := ⟨B, 2, none⟩) (.inl rfl) _
  have hn9 : w9.heap[B]? = some (.cells #[.pointer (some ⟨D, 0, none⟩), .int .i64 2, .int .i64 1, .int .u64 0, .bool false, .int .u64 0, .int .i64 0, .int .u64 0, .slice none 0 0] 53 (0, 0)) := by
    rw [← hw9]
    have := HN8.out
    simp [World.setCell, Array.getElem?_modify, this]
  have hm9 := (hk9.block w4.heap.size (lt_of_block HM8.out) (by have := HBE.out; omega)).trans HM8.out
  rw [hw9]
  have x0 : w9.cell? ⟨w4.heap.size, 0, none⟩ = some (.int .u64 (turn : Int)) := cellk hm9 rfl
  have x1 : w9.cell? ⟨w4.heap.size, 1, none⟩ = some (.int .u64 (s.tm : Int)) := cellk hm9 rfl
  have x2 : w9.cell? ⟨w4.heap.size, 2, none⟩ = some (.int .i64 s.vt) := cellk hm9 rfl
  have x3 : w9.cell? ⟨w4.heap.size, 3, none⟩ = some (.int .u64 (s.bs : Int)) := cellk hm9 rfl
  have x4 : w9.cell? ⟨w4.heap.size, 4, none⟩ = some (.slice ol ps.length cl) := cellk hm9 rfl
  have x5 : w9.cell? ⟨w4.heap.size, 5, none⟩ = some (.bool false) := cellk hm9 rfl
  have z3 : w9.cell? ⟨B, 3, none⟩ = some (.int .u64 0) := cellk hn9 rfl
  have z4 : w9.cell? ⟨B, 4, none⟩ = some (.bool false) := cellk hn9 rfl
  have z5 : w9.cell? ⟨B, 5, none⟩ = some (.int .u64 0) := cellk hn9 rfl
  have z6 : w9.cell? ⟨B, 6, none⟩ = some (.int .i64 0) := cellk hn9 rfl
  have z7 : w9.cell? ⟨B, 7, none⟩ = some (.int .u64 0) := cellk hn9 rfl
  have z8 : w9.cell? ⟨B, 8, none⟩ = some (.slice none 0 0) := cellk hn9 rfl
  have f3 := free_of hn9 3
  have f4 := free_of hn9 4
  have f5 := free_of hn9 5
  have f6 := free_of hn9 6
  have f7 := free_of hn9 7
  have f8 := free_of hn9 8
  have hs9 := hk9.size
  have hbl9 := lt_of_block hn9
  have HN9 := Lib.hid hn9
  have HK9 := Lib.hid hk9
  clear hw9 hk9 hn9 hm9 z1 z2 f1 f2 y0 y1 y2 y3 y4 y5 HM8 HN8 HW8 HM1 HN7 hBl
  go_region
  have hge : w.heap.size ≤ B := by have := HBE.out; omega
  have hc8 : (((((((w9.setCell ⟨B, 3, none⟩ (.int .u64 (turn : Int))).setCell ⟨B, 4, none⟩ (.bool false)).setCell ⟨B, 5, none⟩ (.int .u64 (s.tm : Int))).setCell ⟨B, 6, none⟩ (.int .i64 s.vt)).setCell ⟨B, 7, none⟩ (.int .u64 (s.bs : Int))).setCell ⟨B, 8, none⟩ (.slice ol ps.length cl)).drew).heap[B]? = some (.cells #[.pointer (some ⟨D, 0, none⟩), .int .i64 2, .int .i64 1, .int .u64 (turn : Int), .bool false, .int .u64 (s.tm : Int), .int .i64 s.vt, .int .u64 (s.bs : Int), .slice ol ps.length cl] 53 (0, 0)) := by
    have := HN9.out
    simp [World.setCell, World.drew, Array.getElem?_modify, this]
  have hkS : Kept (fun k => k = B) w9 (((((((w9.setCell ⟨B, 3, none⟩ (.int .u64 (turn : Int))).setCell ⟨B, 4, none⟩ (.bool false)).setCell ⟨B, 5, none⟩ (.int .u64 (s.tm : Int))).setCell ⟨B, 6, none⟩ (.int .i64 s.vt)).setCell ⟨B, 7, none⟩ (.int .u64 (s.bs : Int))).setCell ⟨B, 8, none⟩ (.slice ol ps.length cl)).drew) := (((((((Kept.refl (fun k => k = B) w9).setCell (p := ⟨B, 3, none⟩) (.inl rfl) _).setCell (p := ⟨B, 4, none⟩) (.inl rfl) _).setCell (p := ⟨B, 5, none⟩) (.inl rfl) _).setCell (p := ⟨B, 6, none⟩) (.inl rfl) _).setCell (p := ⟨B, 7, none⟩) (.inl rfl) _).setCell (p := ⟨B, 8, none⟩) (.inl rfl) _).drew
  generalize (((((((w9.setCell ⟨B, 3, none⟩ (.int .u64 (turn : Int))).setCell ⟨B, 4, none⟩ (.bool false)).setCell ⟨B, 5, none⟩ (.int .u64 (s.tm : Int))).setCell ⟨B, 6, none⟩ (.int .i64 s.vt)).setCell ⟨B, 7, none⟩ (.int .u64 (s.bs : Int))).setCell ⟨B, 8, none⟩ (.slice ol ps.length cl)).drew) = wz at *
  have hsz := hkS.size
  have hBE := HBE.out
  have hB8 : Below w4.heap.size w4 wz := ((H47.out.trans (HK8.out.below (by have := H47.out.size; omega) (fun k hk => by omega))).trans (HK9.out.below (by have := H47.out.size; omega) (fun k hk => by omega))).trans (hkS.below (by have := H47.out.size; omega) (fun k hk => by omega))
  have HBZ := Lib.hid (HB4.out.trans (hB8.mono (by omega)))
  have hlog := (HO4.out.inside (L := fun k => w3.heap.size ≤ k ∧ k < w4.heap.size) (fun g h1 h2 => ⟨h1, h2⟩) (by have := congrArg List.length HPS.out; rw [List.length_map] at this; have := HPO.out; omega)).block (w' := wz) (fun g hg => hB8.block g hg.2) (fun _ h => h)
  rw [HPS.out] at hlog
  have hpl : ps.length = s.lg.length := by have := congrArg List.length HPS.out; rwa [List.length_map] at this
  have HC8 := Lib.hid hc8
  have HLG := Lib.hid hlog
  clear hc8 hkS hB8 hlog x0 x1 x2 x3 x4 x5 z3 z4 z5 z6 z7 z8 f3 f4 f5 f6 f7 f8
  go_wp2_with fail
  go_ret2
  have hlt := HBZ.out.size
  refine ⟨B, rfl, ⟨X, fun k => w3.heap.size ≤ k ∧ k < w4.heap.size, .slice ol ps.length cl, ⟨HH.out.low HBZ.out, HC8.out, HLG.out, fun k hk => .inl hk, fun k hk => ⟨.inr (by omega), fun hx => by have := HX.out k hx; omega, by omega⟩, .inr ⟨hge, by have := lt_of_block HC8.out; omega⟩, fun hk => by have := HX.out _ hk; omega, fun k hk => ?_, HOK.out, ⟨by show 2 ≤ 1000; omega, by show 1 ≤ 1000; omega, ht2⟩⟩⟩, HBZ.out⟩
  rcases hk with hk | hk
  · have := HX.out k hk; omega
  · exact hk.2
end Go.Proofs.Ytdckcjcddibglaa

namespace Go.Proofs.Ytdckcjcddibglaa
open Go.RowKit OctM

/-- A drum whose second track is untouched, and whose third one has a whole state. -/
structure Tw (S : Wst) (m : Nat) (d : Dr) : Prop where
  n : d.n = 3
  off : d.off = false
  fuse : d.fuse = 0
  t1 : (d.tr 1).now = []
  t2 : (d.tr 2).now = wholeB 1 S
  ops : d.ops ≤ m
theorem Tw.calm {S : Wst} {m : Nat} {d : Dr} (h : Tw S m d) : Calm d := ⟨h.n, h.off, h.fuse⟩
theorem tw_app {S : Wst} {m : Nat} {d : Dr} (h : Tw S m d) (p : List UInt8) : Tw S (m + 1) (appS d 0 p).2 := by
  unfold appS
  rw [show chk d 0 = 0 from h.calm.chk 0 (by omega), if_neg (by simp)]
  split
  · exact ⟨h.n, h.off, h.fuse, h.t1, h.t2, Nat.le_succ_of_le h.ops⟩
  · unfold cnt
    rw [if_pos (show (d.set _ _).fuse = 0 from h.fuse)]
    exact ⟨h.n, h.off, h.fuse, (congrArg Tk.now (upd_other d.tr _ (by decide))).trans h.t1, (congrArg Tk.now (upd_other d.tr _ (by decide))).trans h.t2, Nat.succ_le_succ h.ops⟩
theorem tw_write {S : Wst} {m : Nat} {d : Dr} (h : Tw S m d) (p : List UInt8) : Tw S (m + 1) (writeS d 0 p).2 := by
  unfold writeS
  rw [show chk d 0 = 0 from h.calm.chk 0 (by omega), if_neg (by simp)]
  split
  · exact ⟨h.n, h.off, h.fuse, h.t1, h.t2, Nat.le_succ_of_le h.ops⟩
  · unfold cnt
    rw [if_pos (show (d.set _ _).fuse = 0 from h.fuse)]
    exact ⟨h.n, h.off, h.fuse, (congrArg Tk.now (upd_other d.tr _ (by decide))).trans h.t1, (congrArg Tk.now (upd_other d.tr _ (by decide))).trans h.t2, Nat.succ_le_succ h.ops⟩
theorem tw_sync {S : Wst} {m : Nat} {d : Dr} (h : Tw S m d) : Tw S (m + 1) (syncS d 0).2 := by
  have hc := calm_sync h.calm 0 (by omega)
  rw [show syncS d 0 = (0, syT d 0) from hc]
  exact ⟨h.n, h.off, h.fuse, (congrArg Tk.now (upd_other d.tr _ (by decide))).trans h.t1, (congrArg Tk.now (upd_other d.tr _ (by decide))).trans h.t2, Nat.succ_le_succ h.ops⟩

/-- The law's entry, its state, its drum behind Save. -/
def tE : En := ⟨5, 0, 0, [120]⟩
theorem tOk : tE.Ok := ⟨by decide, by decide, by decide, by decide⟩
def tS : Wst := ⟨5, 1, 0, [tE]⟩
theorem tsOk : tS.Ok := ⟨by decide, by decide, by decide, by decide, fun x hx => by rw [List.mem_singleton.1 hx]; exact tOk, by decide⟩
def td1 : Dr := wrT (new 3 50000) 2 (wholeB 1 tS)
def td2 : Dr := syT td1 2
theorem td_len : (wholeB 1 tS).length ≤ 200 := by
  have := wholeB_len 1 1 tS (fun x hx => by rw [List.mem_singleton.1 hx]; decide)
  simp only [tS, List.length_cons, List.length_nil] at this ⊢
  omega
theorem td_I : (headB 1 tS ++ bodyE tS.lg).length ≤ 1000000 := by
  have h1 := td_len
  have h2 : (wholeB 1 tS).length = (encB (sealed (headB 1 tS ++ bodyE tS.lg))).length := rfl
  have h3 : (sealed (headB 1 tS ++ bodyE tS.lg)).length = (headB 1 tS ++ bodyE tS.lg).length + 4 := sealed_length _
  have h4 : (encB (sealed (headB 1 tS ++ bodyE tS.lg))).length = (enc (sealed (headB 1 tS ++ bodyE tS.lg)).length).length + (sealed (headB 1 tS ++ bodyE tS.lg)).length := by unfold encB; rw [List.length_append]
  omega
theorem td_1 : writeS (new 3 50000) ((2 : Nat) : Int) (wholeB 1 tS) = (0, td1) := calm_write (calm_new 50000) 2 (by omega) _ (by
  have := td_len
  show _ ≤ 50000
  omega)
theorem td_2 : syncS td1 ((2 : Nat) : Int) = (0, td2) := calm_sync ((calm_new 50000).wr 2 _) 2 (by omega)
theorem td_tw : Tw tS 2 td2 := ⟨rfl, rfl, rfl, rfl, rfl, by show 2 ≤ 2; omega⟩

/-- An argument of which the fourth cell of each eight is a byte. -/
def RdN (w : World) (v : Value) (n : Nat) : Prop := (∃ o c, v = .slice o 0 c ∧ n = 0) ∨ ∃ b off c, v = .slice (some ⟨b, off, none⟩) n c ∧ ∀ i, i < n → ∃ z : Int, w.cell? ⟨b, off + i * 8 + 3, none⟩ = some (.int .u8 z) ∧ 0 ≤ z ∧ z ≤ 255
theorem RdN.form {w : World} {v : Value} {n : Nat} (h : RdN w v n) : ∃ o c, v = .slice o n c := by
  rcases h with ⟨o, c, rfl, rfl⟩ | ⟨b, off, c, rfl, _⟩ <;> exact ⟨_, _, rfl⟩
theorem byteB (z : Int) (h0 : 0 ≤ z) (h1 : z ≤ 255) : .int .u8 z = B (UInt8.ofNat z.toNat) := by
  have := B_ofNat z.toNat (by omega)
  rw [← this, Int.toNat_of_nonneg h0]

/-- What stands at a round's head: the drum, and what was read of the log. -/
structure TI (w w6 w8 wr : World) (sb D T m : Nat) : Prop where
  dt : ∃ X d, Dt wr X D T d ∧ Tw tS m d ∧ (∀ k, X k → ((w.heap.size ≤ k ∧ k < w6.heap.size) ∨ sb + 1 ≤ k) ∧ k < wr.heap.size)
  kept : Kept (fun k => w.heap.size ≤ k ∧ k < w6.heap.size) w8 wr
theorem rd_row {W : World} {g : Nat} {t : TypeId} {fr : Nat × Nat} (l : List UInt8) (hl : l.length ≤ 1000) (h : W.heap[g]? = some (.cells (Bs l).toArray t fr)) : Rd W (.slice (some ⟨g, 0, none⟩) l.length l.length) l := by
  refine .inr ⟨⟨g, 0, none⟩, l.length, rfl, Nat.le_refl _, by unfold maxLen; omega, fun j u hu => ?_⟩
  rw [add_none, Nat.zero_add]
  exact cellk h (by simp [Bs, hu])
theorem ti_step {w w6 w8 wr W wz : World} {sb D T m : Nat} {X : Nat → Prop} {r : Int × Dr} {e : Ending} (hz : w8.heap.size = sb + 1) (hk0 : Kept (fun k => w.heap.size ≤ k ∧ k < w6.heap.size) w8 wr)
    (hX : ∀ k, X k → ((w.heap.size ≤ k ∧ k < w6.heap.size) ∨ sb + 1 ≤ k) ∧ k < wr.heap.size) (hb : Below wr.heap.size wr W) (hp : DtP W X D T r e wz) (ht : Tw tS m r.2) : TI w w6 w8 wz sb D T m := by
  obtain ⟨_, hd, hk, _⟩ := hp
  have h1 := hb.size
  have h2 := hk.size
  have h0 := hk0.size
  refine ⟨⟨Fr X W wz, r.2, hd, ht, fun k hk => ?_⟩, (hk0.trans (kept_of_below hb)).step hk (fun k hk => ?_)⟩
  · rcases hk with hk | hk
    · have := hX k hk
      exact ⟨this.1, by omega⟩
    · exact ⟨.inr (by omega), hk.2⟩
  · rcases (hX k hk).1 with h | h
    · exact .inl h
    · exact .inr (by omega)

set_option maxHeartbeats 8000000 in
set_option maxRecDepth 100000 in
theorem wtwice_walk (v : Value) (n : Nat) (w : World) (h : RdN w v n) :
    Calls Try.prog 4 #[v] w fun e w' => e = .returned (.bool true) ∧ Below w.heap.size w w' := by
  obtain ⟨oa, ca, hv⟩ := h.form
  subst hv
  have HR := Lib.hid h
  have kc := fun (w : World) (C : Array Value) (n c : Nat) => Lib.run_convert_bytes_const (P := Try.prog) w 22 5 C n c Try.underlying22 Try.underlying5
  clear h
  go_enter Try.func4, Try.ntmps4
  go_wp2_with fail
  refine (wawake _).mono ?_
  rintro e w1 ⟨rfl, hb1⟩
  have HB1 := Lib.hid hb1
  have hs1 := hb1.size
  have H2 := Lib.hid (lopen_any 50000 w1 (by omega) (by omega))
  rw [show ((50000 : Nat) : Int) = 50000 from rfl] at H2
  clear hb1
  go_wp2_with fail
  refine H2.out.mono ?_
  rintro e w2 ⟨D, T, X0, rfl, hat, hb2, hT⟩
  have hs2 := hb2.size
  have HB2 := Lib.hid (HB1.out.trans (hb2.mono hs1))
  obtain ⟨W4, hW4⟩ : ∃ W4, (w2.alloc (.cells #[.int .u8 120] 5 (1, 2))).alloc (.cells #[.int .u64 5, .int .u64 0, .int .u64 0, .slice (some ⟨w2.heap.size, 0, none⟩) 1 1] 33) = W4 := ⟨_, rfl⟩
  have f0 := (Below.heap_alloc (w2.alloc (.cells #[.int .u8 120] 5 (1, 2))) (.cells #[.int .u64 5, .int .u64 0, .int .u64 0, .slice (some ⟨w2.heap.size, 0, none⟩) 1 1] 33) w2.heap.size (by simp)).trans (heap_alloc_new w2 (.cells #[.int .u8 120] 5 (1, 2)))
  have f1 := heap_alloc_new (w2.alloc (.cells #[.int .u8 120] 5 (1, 2))) (.cells #[.int .u64 5, .int .u64 0, .int .u64 0, .slice (some ⟨w2.heap.size, 0, none⟩) 1 1] 33)
  rw [show (w2.alloc (.cells #[.int .u8 120] 5 (1, 2))).heap.size = w2.heap.size + 1 by simp] at f1
  have f4 : ((w2.alloc (.cells #[.int .u8 120] 5 (1, 2))).alloc (.cells #[.int .u64 5, .int .u64 0, .int .u64 0, .slice (some ⟨w2.heap.size, 0, none⟩) 1 1] 33)).heap.size = w2.heap.size + 2 := by simp
  have f5 : Below w2.heap.size w2 ((w2.alloc (.cells #[.int .u8 120] 5 (1, 2))).alloc (.cells #[.int .u64 5, .int .u64 0, .int .u64 0, .slice (some ⟨w2.heap.size, 0, none⟩) 1 1] 33)) := ((Below.refl _ _).alloc (Nat.le_refl _) _).alloc (by simp) _
  rw [hW4] at f0 f1 f4 f5
  have HAT := Lib.hid (hat.below f5)
  have HB4 := Lib.hid (HB2.out.trans (f5.mono (by omega)))
  have HRX := Lib.hid (rd_byte 120 f0)
  have HX4 := Lib.hid f1
  have HW4 := Lib.hid hW4
  clear hat hb2 H2 HB1 f0 f1 f5 hW4 HB2
  go_upto_region 7 with fail
  rw [HW4.out]
  clear HW4
  obtain ⟨n2, hn2⟩ : ∃ n2, w2.heap.size = n2 := ⟨_, rfl⟩
  rw [hn2] at HAT HRX HX4 f4 hs2
  have F4 := Lib.hid f4
  clear f4
  rw [hn2]
  have x0 : W4.cell? ⟨n2 + 1, 0, none⟩ = some (.int .u64 5) := cellk HX4.out rfl
  have x1 : W4.cell? ⟨n2 + 1, 1, none⟩ = some (.int .u64 0) := cellk HX4.out rfl
  have x2 : W4.cell? ⟨n2 + 1, 2, none⟩ = some (.int .u64 0) := cellk HX4.out rfl
  have x3 : W4.cell? ⟨n2 + 1, 3, none⟩ = some (.slice (some ⟨n2, 0, none⟩) 1 1) := cellk HX4.out rfl
  go_wp2_with fail
  have hal : Below W4.heap.size W4 (W4.alloc (.cells #[.int .u64 5, .int .u64 0, .int .u64 0, .slice (some ⟨n2, 0, none⟩) 1 1] 33)) := (Below.refl _ _).alloc (Nat.le_refl _) _
  have hrow := rdl_row (W := W4.alloc (.cells #[.int .u64 5, .int .u64 0, .int .u64 0, .slice (some ⟨n2, 0, none⟩) 1 1] 33)) [(tE, .slice (some ⟨n2, 0, none⟩) 1 1)] (heap_alloc_new W4 _) (fun q hq => by
    simp only [List.mem_cons, List.not_mem_nil, or_false] at hq
    rw [hq]
    exact HRX.out.below hal) (by simp)
  refine (save_any 5 1 1 [tE] _ _ (d1 := td1) (d2 := td2) (HAT.out.below hal) hrow (fun x hx => by simp at hx; rw [hx]; exact tOk) (by decide) (by decide) (by omega) ⟨by omega, by omega⟩ 0 rfl (.inr ⟨rfl, rfl⟩) (by omega) (by decide) (by show 0 < 1000000; omega) (by show 0 ≤ 900000; omega) (by show 1 ≤ 900000; omega) (.inl ⟨rfl, td_1, td_2, rfl⟩)).mono ?_
  rintro e w6 ⟨rfl, hat6, hk6⟩
  have f4 := F4.out
  have hz6 := hk6.size
  have hal2 := hal.size
  have HB6 : Hid (Below w.heap.size w w6) := Lib.hid ((HB4.out.trans (hal.mono (by omega))).trans (hk6.below (by omega) (fun k hk => by have := hk.1; omega)))
  have hlo : Hid (∀ k, Fr (fun k => w1.heap.size ≤ k ∧ k < n2) (W4.alloc (.cells #[.int .u64 5, .int .u64 0, .int .u64 0, .slice (some ⟨n2, 0, none⟩) 1 1] 33)) w6 k → w.heap.size ≤ k ∧ k < w6.heap.size) := Lib.hid (fun k hk => ⟨by rcases hk with hk | hk <;> omega, hat6.lt k hk⟩)
  generalize Fr (fun k => w1.heap.size ≤ k ∧ k < n2) (W4.alloc (.cells #[.int .u64 5, .int .u64 0, .int .u64 0, .slice (some ⟨n2, 0, none⟩) 1 1] 33)) w6 = RR at *
  have H7 := Lib.hid (lstate_any w6 hat6)
  have HAT6 := Lib.hid hat6
  have hsw6 := HB6.out.size
  clear hal hrow hat6 hk6 x0 x1 x2 x3 HX4 HRX HAT HB4 hz6 hal2 hn2
  go_wp2_with fail
  refine H7.out.mono ?_
  rintro e w7 ⟨v7, ps7, rfl, hps7, hol7, hb7⟩
  obtain ⟨o7, c7, rfl⟩ := hol7.form
  have hrd7 := hol7.rd
  rw [hps7] at hrd7
  unfold wstV
  dsimp only
  have hs7 := hb7.size
  obtain ⟨w8, hw8⟩ : ∃ w8, w7.alloc (.cells #[.int .u64 5, .int .i64 1, .int .u64 0, .slice o7 ps7.length c7] 31) = w8 := ⟨_, rfl⟩
  have hsb := heap_alloc_new w7 (.cells #[.int .u64 5, .int .i64 1, .int .u64 0, .slice o7 ps7.length c7] 31)
  have hb8 : Below w7.heap.size w7 (w7.alloc (.cells #[.int .u64 5, .int .i64 1, .int .u64 0, .slice o7 ps7.length c7] 31)) := (Below.refl _ _).alloc (Nat.le_refl _) _
  have HZ8 : Hid (w8.heap.size = w7.heap.size + 1) := by rw [← hw8]; show _ = _; simp
  rw [hw8] at hsb hb8
  have HW8 := Lib.hid hw8
  have HSB := Lib.hid hsb
  have HB8 := Lib.hid (hb7.trans (hb8.mono hs7))
  have HOL := Lib.hid (hol7.below hb8 (Nat.le_refl _))
  have HPS := Lib.hid hps7
  have hs8 := hb8.size
  have hsbl := lt_of_block hsb
  clear hps7 hol7 hrd7 hb7 hw8 hsb hb8 H7
  go_upto_region 10 with fail
  rw [HW8.out]
  obtain ⟨sb, hsbe⟩ : ∃ sb, w7.heap.size = sb := ⟨_, rfl⟩
  rw [hsbe] at HSB hsbl hs7 hs8 HZ8
  rw [hsbe]
  clear hsbe HW8
  obtain ⟨X, L, vv, hx⟩ := HAT6.out
  have hz8 : w8.heap.size = sb + 1 := by
    have h1 := HZ8.out
    omega
  have hdt8 := hx.dt.block (w' := w8) (fun g hg hl => HB8.out.block g hl) (fun _ h => h)
  have hX8 : ∀ k, X k → ((w.heap.size ≤ k ∧ k < w6.heap.size) ∨ sb + 1 ≤ k) ∧ k < w8.heap.size := fun k hk => by
    have h1 := hlo.out k (hx.sX k hk)
    exact ⟨.inl h1, by omega⟩
  obtain ⟨W9, hW9⟩ : ∃ W9, w8.alloc (.cells #[.int .u8 111, .int .u8 116, .int .u8 104, .int .u8 101, .int .u8 114] 5 (5, 6)) = W9 := ⟨_, rfl⟩
  have hr9 := rd_row (W := w8.alloc (.cells #[.int .u8 111, .int .u8 116, .int .u8 104, .int .u8 101, .int .u8 114] 5 (5, 6))) [111, 116, 104, 101, 114] (by decide) (heap_alloc_new w8 _)
  have hb9 : Below w8.heap.size w8 (w8.alloc (.cells #[.int .u8 111, .int .u8 116, .int .u8 104, .int .u8 101, .int .u8 114] 5 (5, 6))) := (Below.refl _ _).alloc (Nat.le_refl _) _
  rw [hW9] at hr9 hb9
  have hdt9 := hdt8.block (w' := W9) (fun g hg hl => hb9.block g hl) (fun _ h => h)
  have HWR := Lib.hid (dt_write 0 _ [111, 116, 104, 101, 114] W9 hdt9 hr9 (by decide) (by show 2 ≤ 1000000; omega))
  have HW9 := Lib.hid hW9
  have HX8 := Lib.hid hX8
  have HB9 := Lib.hid hb9
  have HTW := Lib.hid (tw_write td_tw [111, 116, 104, 101, 114])
  have HZ8e := Lib.hid hz8
  have hrdl : RdL w8 (.slice o7 ps7.length c7) [tE] := by
    have h1 := HOL.out.rd
    rw [HPS.out] at h1
    exact h1
  have HRL := Lib.hid hrdl
  have HRW : Hid (∀ wx, Kept (fun k => w.heap.size ≤ k ∧ k < w6.heap.size) w8 wx → RdL wx (.slice o7 ps7.length c7) [tE]) := Lib.hid (fun wx hk => by
    have h1 := (HOL.out.kept hk (fun g hg h => by have := (HOL.out.row.lt g hg).1; omega) (fun p hp g hg h => by have := ((HOL.out.cells p hp).lt g hg).1; omega)).rd
    rw [HPS.out] at h1
    exact h1)
  have hwall : Below w.heap.size w w8 := HB6.out.trans (HB8.out.mono HB6.out.size)
  have HWL := Lib.hid hwall
  clear hx hdt8 hX8 hr9 hb9 hW9 hdt9 hz8 hrdl hwall HAT6 hlo
  generalize writeS td2 0 [111, 116, 104, 101, 114] = rw at *
  go_wp2_with (rw [HW9.out])
  refine HWR.out.mono ?_
  intro e w10 hp10
  have hti := ti_step HZ8e.out (Kept.refl _ w8) HX8.out HB9.out hp10 HTW.out
  obtain ⟨he10, -, -, -⟩ := hp10
  subst he10
  obtain ⟨⟨X10, d10, hd10, ht10, hX10⟩, hk10⟩ := hti
  have HSY := Lib.hid (dt_sync 0 w10 hd10 (by have := ht10.ops; omega))
  have HTW2 := Lib.hid (tw_sync ht10)
  have HX10 := Lib.hid hX10
  have HK10 := Lib.hid hk10
  clear hd10 ht10 hX10 hk10 HWR HTW HX8 HB9 HW9
  generalize syncS d10 0 = rs at *
  go_wp2_with fail
  refine HSY.out.mono ?_
  intro e w11 hp11
  have hti := ti_step HZ8e.out HK10.out HX10.out (Below.refl _ w10) hp11 HTW2.out
  obtain ⟨he11, -, -, -⟩ := hp11
  subst he11
  have HTI : Hid (TI w w6 w8 w11 sb D T 4) := Lib.hid hti
  clear hti HSY HTW2 HX10 HK10
  go_wp2_with fail
  go_loopw [7] (fun t wr => ∃ (i m : Nat), i ≤ n ∧ i ≤ 10 ∧ m = 4 + i ∧ t = .int .i64 (i : Int) ∧ Hid (TI w w6 w8 wr sb D T m)) (fun t _ => n + 1 - (intOf t).toNat)
  case atStart => exact ⟨0, 4, by omega, by omega, rfl, rfl, HTI⟩
  case round =>
    obtain ⟨i, m, hi, hi10, hm, rfl, HI⟩ := hrel
    have hkr := HI.out.kept
    have hwr : Below w.heap.size w wr := HWL.out.trans (hkr.below HWL.out.size (fun k hk => hk.1))
    have HBW := Lib.hid hwr
    by_cases hin : i < n
    · by_cases hit : i < 10
      · as_aux_lemma =>
        have d1 : decide ((i : Int) < (n : Int)) = true := by rw [decide_eq_true_eq]; omega
        have d2 : decide ((i : Int) < 10) = true := by rw [decide_eq_true_eq]; omega
        have i1 : (i : Int) < (n : Int) := by omega
        have i2 : (i : Int) ≤ 9 := by omega
        have wi : IntKind.i64.wrap ((i : Int) + 1) = (i : Int) + 1 := IntWalk.i64_in _ (by omega)
        obtain ⟨b, off, c, hva, hcs⟩ : ∃ b off c, Value.slice oa n ca = .slice (some ⟨b, off, none⟩) n c ∧ ∀ i, i < n → ∃ z : Int, w.cell? ⟨b, off + i * 8 + 3, none⟩ = some (.int .u8 z) ∧ 0 ≤ z ∧ z ≤ 255 := by
          rcases HR.out with ⟨o, c, _, h0⟩ | h1
          · omega
          · exact h1
        injection hva with hoa hnn hca
        subst hoa
        obtain ⟨z, hz, hz0, hz1⟩ := hcs i hin
        have yz : wr.cell? ⟨b, off + i * 8 + 3, none⟩ = some (.int .u8 z) := (hwr.cell (World.block_lt_of_cell? w _ hz)).trans hz
        have ybl := World.block_lt_of_cell? wr _ yz
        simp only at ybl
        obtain ⟨Xr, dr, hdr, htr, hXr⟩ := HI.out.dt
        obtain ⟨W9, hW9⟩ : ∃ W9, wr.alloc (.cells #[.int .u8 z] 5) = W9 := ⟨_, rfl⟩
        have hb9 : Below wr.heap.size wr (wr.alloc (.cells #[.int .u8 z] 5)) := (Below.refl _ _).alloc (Nat.le_refl _) _
        have hn9 := heap_alloc_new wr (.cells #[.int .u8 z] 5)
        rw [byteB z hz0 hz1] at hn9
        rw [hW9] at hb9
        have hr9 : Rd W9 (.slice (some ⟨wr.heap.size, 0, none⟩) 1 1) [UInt8.ofNat z.toNat] := by
          rw [← hW9, byteB z hz0 hz1]
          exact rd_byte _ hn9
        have hdt9 := hdr.block (w' := W9) (fun g hg hl => hb9.block g hl) (fun _ h => h)
        have HAP := Lib.hid (dt_append 0 _ [UInt8.ofNat z.toNat] W9 hdt9 hr9 (by simp) (by have := htr.ops; omega))
        have HTA := Lib.hid (tw_app htr [UInt8.ofNat z.toNat])
        have HXR := Lib.hid hXr
        have HKR := Lib.hid hkr
        have HB9 := Lib.hid hb9
        have HW9 := Lib.hid hW9
        clear hdr htr hXr hkr hb9 hn9 hW9 hr9 hdt9 hcs hz hin hit hca hwr
        generalize appS dr 0 [UInt8.ofNat z.toNat] = ra at *
        go_wp2_with (rw [HW9.out])
        refine HAP.out.mono ?_
        intro e w12 hp12
        have hti := ti_step HZ8e.out HKR.out HXR.out HB9.out hp12 HTA.out
        obtain ⟨he12, -, -, -⟩ := hp12
        subst he12
        have HTI2 := Lib.hid hti
        obtain ⟨X12, d12, hd12, ht12, hX12⟩ := hti.dt
        have HOP := Lib.hid (wopen_two 1 tS w12 hd12 (fun k hk => (hX12 k hk).2) ht12.n ht12.off ht12.t1 ht12.t2 tsOk (by decide) (by omega) (by omega) td_I)
        have HD12 := Lib.hid hd12
        have HT12 := Lib.hid ht12
        have HX12 := Lib.hid hX12
        clear hti hd12 ht12 hX12 HAP HTA HXR HKR HB9 HW9
        go_wp2_with fail
        refine HOP.out.mono ?_
        rintro e w13 ⟨B', rfl, hat13, hb13⟩
        have hk13 := HTI2.out.kept.trans (kept_of_below (S := fun k => w.heap.size ≤ k ∧ k < w6.heap.size) hb13)
        have hsb13 := (hk13.block sb (by omega) (by omega)).trans HSB.out
        have HST := Lib.hid (lstate_any w13.drew (hat13.below ((Below.refl _ _).drew)))
        have hn13 : Hid (TI w w6 w8 w13 sb D T (m + 1)) := Lib.hid ⟨⟨X12, d12, HD12.out.block (fun g hg hl => hb13.block g hl) (fun _ h => h), HT12.out, fun k hk => ⟨(HX12.out k hk).1, Nat.lt_of_lt_of_le (HX12.out k hk).2 hb13.size⟩⟩, hk13⟩
        have x0 : w13.cell? ⟨sb, 0, none⟩ = some (.int .u64 5) := cellk hsb13 rfl
        have x1 : w13.cell? ⟨sb, 1, none⟩ = some (.int .i64 1) := cellk hsb13 rfl
        have x2 : w13.cell? ⟨sb, 2, none⟩ = some (.int .u64 0) := cellk hsb13 rfl
        have x3 : w13.cell? ⟨sb, 3, none⟩ = some (.slice o7 ps7.length c7) := cellk hsb13 rfl
        have HSB13 := Lib.hid hsb13
        clear hat13 hb13 hk13 HOP HD12 HT12 HX12 HTI2 hsb13
        go_upto_region 17 with fail
        refine wp_region_held_drew (S := fun w' => w'.cell? ⟨sb, 0, none⟩ = some (.int .u64 5) ∧ w'.cell? ⟨sb, 1, none⟩ = some (.int .i64 1) ∧ w'.cell? ⟨sb, 2, none⟩ = some (.int .u64 0) ∧ w'.cell? ⟨sb, 3, none⟩ = some (.slice o7 ps7.length c7)) (by kernel_rfl) ⟨x0, x1, x2, x3⟩ ?_
        intro hHeld
        refine wpAnyH_take (i := 0) (v := ?_) (by simp only [List.getElem?_toArray, List.getElem?_cons_zero]; rfl) (by kernel_rfl) (by kernel_rfl) (by kernel_rfl) (by intro _ _ _ h; exact h) (Or.inl ⟨by rfl, ?_⟩) (by assumption) ?_
        rotate_left
        · (intro w hSw; (try dsimp only at hSw); go_simp; try with_reducible rfl)
        try simp only [Act.put, List.setIfInBounds_toArray, List.set_cons_zero, List.set_cons_succ]
        refine wpAnyH_take (i := 1) (v := ?_) (by simp only [List.getElem?_toArray, List.getElem?_cons_succ, List.getElem?_cons_zero]; rfl) (by kernel_rfl) (by kernel_rfl) (by kernel_rfl) (by intro _ _ _ h; exact h) (Or.inl ⟨by rfl, ?_⟩) (by assumption) ?_
        rotate_left
        · (intro w hSw; (try dsimp only at hSw); go_simp; try with_reducible rfl)
        try simp only [Act.put, List.setIfInBounds_toArray, List.set_cons_zero, List.set_cons_succ]
        refine wpAnyH_take (i := 2) (v := ?_) (by simp only [List.getElem?_toArray, List.getElem?_cons_succ, List.getElem?_cons_zero]; rfl) (by kernel_rfl) (by kernel_rfl) (by kernel_rfl) (by intro _ _ _ h; exact h) (Or.inl ⟨by rfl, ?_⟩) (by assumption) ?_
        rotate_left
        · (intro w hSw; (try dsimp only at hSw); go_simp; try with_reducible rfl)
        try simp only [Act.put, List.setIfInBounds_toArray, List.set_cons_zero, List.set_cons_succ]
        refine wpAnyH_take (i := 3) (v := ?_) (by simp only [List.getElem?_toArray, List.getElem?_cons_succ, List.getElem?_cons_zero]; rfl) (by kernel_rfl) (by kernel_rfl) (by kernel_rfl) (by intro _ _ _ h; exact h) (Or.inl ⟨by rfl, ?_⟩) (by assumption) ?_
        rotate_left
        · (intro w hSw; (try dsimp only at hSw); go_simp; try with_reducible rfl)
        try simp only [Act.put, List.setIfInBounds_toArray, List.set_cons_zero, List.set_cons_succ]
        refine wpAnyH_take (i := 5) (v := ?_) (by simp only [List.getElem?_toArray, List.getElem?_cons_succ, List.getElem?_cons_zero]; rfl) (by kernel_rfl) (by kernel_rfl) (by kernel_rfl) (by intro _ _ _ h; exact h) (Or.inl ⟨by rfl, ?_⟩) (by assumption) ?_
        rotate_left
        · (intro w hSw; (try dsimp only at hSw); go_simp; try with_reducible rfl)
        try simp only [Act.put, List.setIfInBounds_toArray, List.set_cons_zero, List.set_cons_succ]
        refine wpAnyH_ready (rs := [4]) (by kernel_rfl) (by simp) ?_
        refine AllReadyH.cons (by simp only [List.getElem?_toArray, List.getElem?_cons_succ, List.getElem?_cons_zero]; rfl) (fun K hK => ?_) AllReadyH.nil
        go_simp
        refine HST.out.mono ?_
        rintro e wa ⟨va, psa, rfl, hpsa, hola, hba⟩
        obtain ⟨oq, cq, rfl⟩ := hola.form
        have hva := hola.rd
        rw [hpsa] at hva
        unfold wstV tS
        try dsimp only
        have hsba := (hba.block sb (lt_of_block HSB13.out)).trans (show w13.drew.heap[sb]? = _ from HSB13.out)
        have y0 : wa.cell? ⟨sb, 0, none⟩ = some (.int .u64 5) := cellk hsba rfl
        have y1 : wa.cell? ⟨sb, 1, none⟩ = some (.int .i64 1) := cellk hsba rfl
        have y2 : wa.cell? ⟨sb, 2, none⟩ = some (.int .u64 0) := cellk hsba rfl
        have y3 : wa.cell? ⟨sb, 3, none⟩ = some (.slice o7 ps7.length c7) := cellk hsba rfl
        have HSBA := Lib.hid hsba
        have HVA : Hid (RdL wa (.slice oq psa.length cq) [tE]) := Lib.hid hva
        have HBA := Lib.hid ((Below.refl _ _).drew.trans hba)
        clear hpsa hola hba hva hsba
        try dsimp only
        refine hK.out _ _ ⟨y0, y1, y2, y3⟩ (fun hHeld => ?_)
        clear hK K
        try simp only [Act.put, List.setIfInBounds_toArray, List.set_cons_zero, List.set_cons_succ]
        refine wpAnyH_ready (rs := [6]) (by kernel_rfl) (by simp) ?_
        refine AllReadyH.cons (by simp only [List.getElem?_toArray, List.getElem?_cons_succ, List.getElem?_cons_zero]; rfl) (fun K hK => ?_) AllReadyH.nil
        go_simp
        have hvb : RdL wa (.slice o7 ps7.length c7) [tE] := HRW.out wa (hn13.out.kept.trans (kept_of_below (S := fun k => w.heap.size ≤ k ∧ k < w6.heap.size) HBA.out))
        have hsm := wsame_eq tS (.slice oq psa.length cq) (.slice o7 ps7.length c7) _ HVA.out hvb (by decide)
        unfold wstV tS at hsm
        dsimp only at hsm
        simp only [show ((5 : Nat) : Int) = 5 from rfl, show ((0 : Nat) : Int) = 0 from rfl] at hsm
        with_reducible refine hsm.mono ?_
        rintro e wb ⟨rfl, hbb⟩
        have hsbb := (hbb.block sb (lt_of_block HSBA.out)).trans HSBA.out
        have z0 : wb.cell? ⟨sb, 0, none⟩ = some (.int .u64 5) := cellk hsbb rfl
        have z1 : wb.cell? ⟨sb, 1, none⟩ = some (.int .i64 1) := cellk hsbb rfl
        have z2 : wb.cell? ⟨sb, 2, none⟩ = some (.int .u64 0) := cellk hsbb rfl
        have z3 : wb.cell? ⟨sb, 3, none⟩ = some (.slice o7 ps7.length c7) := cellk hsbb rfl
        have HBB := Lib.hid (HBA.out.trans (hbb.mono HBA.out.size))
        clear hsm hbb hsbb hvb
        try dsimp only
        refine hK.out _ _ ⟨z0, z1, z2, z3⟩ (fun hHeld => ?_)
        clear hK K
        try simp only [Act.put, List.setIfInBounds_toArray, List.set_cons_zero, List.set_cons_succ]
        refine wpAnyH_take (i := 7) (v := ?_) (by simp only [List.getElem?_toArray, List.getElem?_cons_succ, List.getElem?_cons_zero]; rfl) (by kernel_rfl) (by kernel_rfl) (by kernel_rfl) (by intro _ _ _ h; exact h) (Or.inl ⟨by rfl, ?_⟩) (by assumption) ?_
        rotate_left
        · (intro w hSw; (try dsimp only at hSw); go_simp; try with_reducible rfl)
        try simp only [Act.put, List.setIfInBounds_toArray, List.set_cons_zero, List.set_cons_succ]
        refine wpAnyH_take (i := 8) (v := ?_) (by simp only [List.getElem?_toArray, List.getElem?_cons_succ, List.getElem?_cons_zero]; rfl) (by kernel_rfl) (by kernel_rfl) (by kernel_rfl) (by intro _ _ _ h; exact h) (Or.inl ⟨by rfl, ?_⟩) (by assumption) ?_
        rotate_left
        · (intro w hSw; (try dsimp only at hSw); go_simp; try with_reducible rfl)
        try simp only [Act.put, List.setIfInBounds_toArray, List.set_cons_zero, List.set_cons_succ]
        refine wpAnyH_done (by kernel_rfl) ?_ _
        have hnx : TI w w6 w8 wb sb D T (m + 1) := by
          obtain ⟨⟨X1, d1', h1, h2, h3⟩, h4⟩ := hn13.out
          exact ⟨⟨X1, d1', h1.block (fun g hg hl => HBB.out.block g hl) (fun _ h => h), h2, fun k hk => ⟨(h3 k hk).1, Nat.lt_of_lt_of_le (h3 k hk).2 HBB.out.size⟩⟩, h4.trans (kept_of_below HBB.out)⟩
        have HNX := Lib.hid hnx
        clear hnx hHeld x0 x1 x2 x3 y0 y1 y2 y3 z0 z1 z2 z3
        go_wp2_with fail
        go_roundw
        case rel => exact ⟨i + 1, m + 1, by omega, by omega, by omega, by go_num, HNX⟩
        case measure => simp [intOf]; omega
      · as_aux_lemma =>
        have d1 : decide ((i : Int) < (n : Int)) = true := by rw [decide_eq_true_eq]; omega
        have d2 : decide ((i : Int) < 10) = false := by rw [decide_eq_false_iff_not]; omega
        have i1 : (i : Int) < (n : Int) := by omega
        have i2 : ¬ (i : Int) < 10 := by omega
        clear hin hit hkr hwr
        go_wp2_with fail
        go_ret
        exact ⟨rfl, HBW.out⟩
    · as_aux_lemma =>
      have d1 : decide ((i : Int) < (n : Int)) = false := by rw [decide_eq_false_iff_not]; omega
      have i1 : ¬ (i : Int) < (n : Int) := by omega
      clear hin hkr hwr
      go_wp2_with fail
      go_ret
      exact ⟨rfl, HBW.out⟩
end Go.Proofs.Ytdckcjcddibglaa

namespace Go.Proofs.Ytdckcjcddibglaa
open Go.ChangeShapes Go.WideShapes Go.ChangeAt Go.RowKit Go.Deep OctM

section
variable {H : Type} {enc : TypeId × Value → H} {P : Program} {w : World} {base : Nat} {spare : Nat → Bool} {held : Bool}
theorem open_slice_fields2 {t e : TypeId} {fs : Array Field} {fuel : Nat} {cs : List Value} {x : DataW H × List MemPlace} (ht : P.underlying t = some (.slice e)) (he : P.underlying e = some (.struct fs))
    (hone : oneCellFields P fs = true) (hC : P.cellsOf e = fs.size) (h : DataW.trod enc P w base spare held fuel t cs = some x) :
    (cs = [.slice none 0 0] ∧ x = (.nil, [])) ∨
    ∃ (a : Addr) (len cap m : Nat) (D : Nat → DataW H) (Pl : Nat → List MemPlace), cs = [.slice (some a) len cap] ∧ base ≤ a.block ∧ len ≤ cap ∧ cap ≤ maxLen ∧ m = (if spare a.block then cap else len) ∧
      x = (.slice ((List.range len).map D) ((List.range (m - len)).map fun j => D (len + j)), MemPlace.row a (m * fs.size) ++ (List.range m).flatMap Pl) ∧
      ∀ i, i < m → ∃ (ys : List (DataW H × List MemPlace)) (n : Nat), D i = .agg (ys.map (·.1)) ∧ Pl i = ys.flatMap (·.2) ∧ ys.length = fs.size ∧
        ∀ (j : Nat) (f : Field), fs[j]? = some f → ∃ (v : Value) (y : DataW H × List MemPlace), w.cell? (a.add (i * fs.size + j)) = some v ∧ ys[j]? = some y ∧ DataW.trod enc P w base spare held n f.type [v] = some y := by
  rcases open_slice ht h with h0 | ⟨a, len, cap, m, n, D, Pl, hcs, hb, hl, hm, hmm, hx, hi⟩
  · exact .inl h0
  · refine .inr ⟨a, len, cap, m, D, Pl, hcs, hb, hl, hm, hmm, by rw [hC] at hx; exact hx, fun i him => ?_⟩
    obtain ⟨cs', hc, ht'⟩ := hi i him
    rw [hC] at hc
    obtain ⟨ys, n', hn', hy, hlen, hyl, hf⟩ := DataW.trod_struct he ht'
    obtain ⟨_, hcl, hat⟩ := World.cells?_some hc
    simp only [Prod.mk.injEq] at hy
    refine ⟨ys, n', hy.1, hy.2, hyl, fun j f hj => ?_⟩
    obtain ⟨ho, hk⟩ := hone_of hone j f hj
    have hjl : j < fs.size := (Array.getElem?_eq_some_iff.1 hj).1
    have hcell := hat j hjl
    have hv : cs'[j]? = some (cs'[j]'(by omega)) := List.getElem?_eq_getElem (by omega)
    have h1 := hf j f hj
    rw [ho, hk] at h1
    have hone' : (cs'.drop j).take 1 = [cs'[j]'(by omega)] := by
      rw [List.drop_eq_getElem_cons (by omega)]
      rfl
    rw [hone'] at h1
    have hys : ys[j]? = some (ys[j]'(by omega)) := List.getElem?_eq_getElem (by omega)
    refine ⟨_, _, ?_, hys, h1.trans hys⟩
    rw [← Go.Deep.add_add, hcell, hv]
end
theorem trod_u8' {H : Type} {enc : TypeId × Value → H} {W : World} {spare : Nat → Bool} {n : Nat} {v : Value} {y : DataW H × List MemPlace} (h : DataW.trod enc Try.prog W 0 spare true n 5 [v] = some y) : ∃ x : Nat, v = .int .u8 (x : Int) ∧ x ≤ 255 := by
  cases n with
  | zero => simp [DataW.trod] at h
  | succ n =>
    simp only [DataW.trod, Try.underlying5] at h
    cases v <;> simp at h
    rename_i k x
    obtain ⟨⟨rfl, h1⟩, _⟩ := h
    have := bounds_u8 h1
    exact ⟨x.toNat, by rw [Int.toNat_of_nonneg this.1], by omega⟩
set_option maxRecDepth 100000 in
theorem open_script {H : Type} {enc : TypeId × Value → H} {W : World} {base : Nat} {v : Value} {d : DataW H} {p : List MemPlace} {ts : List TypeId} {ds : List (DataW H)} {j : Nat}
    (hv : Value.okWide Try.prog W .any base 41 v) (h : DataW.Trod enc Try.prog W 0 (fun _ => true) true 41 v d p)
    (_hsz : (DataW.weightsEach Try.prog ts ds).all (· ≤ reachBytes) = true) (_ht : ts[j]? = some 41) (_hd : ds[j]? = some d) : ∃ n, RdN W v n := by
  obtain ⟨a, len, cap, rfl⟩ := okWide_slice Try.underlying41 hv
  obtain ⟨fuel, hf⟩ := h
  rcases open_slice_fields2 Try.underlying41 Try.underlying46 (by kernel_rfl) (by kernel_rfl) hf with ⟨hcs, _⟩ | ⟨x, len', cap', m, D, Pl, hcs, _, hl, hm, hmm, _, hi⟩
  · simp only [Value.cells] at hcs
    simp at hcs
    obtain ⟨rfl, rfl, rfl⟩ := hcs
    exact ⟨0, .inl ⟨_, _, rfl, rfl⟩⟩
  · simp only [Value.cells] at hcs
    simp at hcs
    obtain ⟨rfl, rfl, rfl⟩ := hcs
    simp only [if_true] at hmm
    rcases Nat.eq_zero_or_pos len with rfl | h0
    · exact ⟨0, .inl ⟨_, _, rfl, rfl⟩⟩
    · have hx : x.spot = none := by
        obtain ⟨ys, n, _, _, _, hfi⟩ := hi 0 (by omega)
        obtain ⟨v0, y0, c0, _, t0⟩ := hfi 0 _ rfl
        obtain ⟨b, off, spot⟩ := x
        simpa [Addr.add] using World.cell?_spot c0
      obtain ⟨b, off, spot⟩ := x
      obtain rfl : spot = none := hx
      refine ⟨len, .inr ⟨b, off, cap, rfl, fun i hlt => ?_⟩⟩
      obtain ⟨ys, n, _, _, _, hfi⟩ := hi i (by omega)
      obtain ⟨v3, y3, c3, _, t3⟩ := hfi 3 _ rfl
      obtain ⟨z, rfl, hz⟩ := trod_u8' t3
      rw [add_none] at c3
      exact ⟨z, c3, by omega, by omega⟩
end Go.Proofs.Ytdckcjcddibglaa
