/- Write, Sync. -/
import Derived.Test.YtdckcjcddibglaaDruF
namespace Go.Proofs.Ytdckcjcddibglaa
open Go.RowKit

def writeS (d : Dr) (i : Int) (p : List UInt8) : Int × Dr :=
  if chk d i ≠ 0 then (chk d i, d) else if d.most < p.length then (13, d) else cnt (d.set i.toNat ⟨p, (d.tr i.toNat).dur, true⟩)

def syncS (d : Dr) (i : Int) : Int × Dr :=
  if chk d i ≠ 0 then (chk d i, d) else if (cnt d).1 = 0 then (0, (cnt d).2.set i.toNat ⟨(d.tr i.toNat).now, (d.tr i.toNat).now, false⟩) else cnt d

/-- A new row is stored, and the track is written. -/
theorem DAt.wrote {w w1 : World} {S : Nat → Prop} {D T : Nat} {vn vd : Nat → Value} {d : Dr} {j : Nat} {v : Value} {p : List UInt8} (h : DAt w S D T vn vd d) (hj : j < d.n) (hfit : p.length ≤ d.most)
    (ho : Own w1 w.heap.size v p) (hb : Below w.heap.size w w1) :
    DAt ((w1.setCell ⟨T, j * 3, none⟩ v).setCell ⟨T, j * 3 + 2, none⟩ (.bool true)) (Fr S w ((w1.setCell ⟨T, j * 3, none⟩ v).setCell ⟨T, j * 3 + 2, none⟩ (.bool true))) D T (upd vn j v) (upd vd j (vd j)) (d.set j ⟨p, (d.tr j).dur, true⟩) ∧ Kept S w ((w1.setCell ⟨T, j * 3, none⟩ v).setCell ⟨T, j * 3 + 2, none⟩ (.bool true)) := by
  have hlt := h.lt
  have hm := h.mine j hj
  have ht := h.tk j hj
  have hvT : v.ownBlock ≠ some T := fun e => by have := (ho.lt T e).1; omega
  have hb2 : ∀ g, g < w.heap.size → g ≠ T → ((w1.setCell ⟨T, j * 3, none⟩ v).setCell ⟨T, j * 3 + 2, none⟩ (.bool true)).heap[g]? = w.heap[g]? := fun g h1 h3 => (heap_setCell_other _ _ _ _ h3).trans ((heap_setCell_other _ _ _ _ h3).trans (hb.block g h1))
  have hrow : w1.rowIs T 67 (d.n * 3) (tc vn vd d.tr) := h.row.of_block (hb.block T hlt.2)
  have hk1 : Kept S w w1 := ⟨hb.os, hb.tape, hb.output, hb.size, fun g hg _ => hb.block g hg⟩
  have hk : Kept S w ((w1.setCell ⟨T, j * 3, none⟩ v).setCell ⟨T, j * 3 + 2, none⟩ (.bool true)) := (hk1.setCell (p := ⟨T, j * 3, none⟩) (.inl h.sT) v).setCell (p := ⟨T, j * 3 + 2, none⟩) (.inl h.sT) _
  refine ⟨h.put hj (hb2 D hlt.1 h.ne) (((hrow.set (j * 3) v).set (j * 3 + 2) (.bool true)).congr fun k _ => ?_) ⟨?_, ?_, (fun hw => by cases hw), fun _ g h1 h2 => ?_⟩ ⟨hfit, (h.fit j hj).2⟩ (fun k hk hne g hg => ?_) (fun g hg => ?_) (fun _ h => .inl h), hk⟩
  · rw [tc_set]
    have e1 := tc_dur vn vd d.tr j
    repeat' split
    all_goals first
      | rfl
      | (subst_vars; first | exact e1 | (exfalso; omega))
      | (exfalso; omega)
  · exact ownsRow_setCell_other (ownsRow_setCell_other (own_base ho (Nat.zero_le _)) hvT _) hvT _
  · have hdT : (vd j).ownBlock ≠ some T := fun e => (hm T (.inr e)).2.2 rfl
    exact ownsRow_setCell_other (ownsRow_setCell_other (own_block ht.dur fun g hg => hb.block g (ht.dur.lt g hg).2) hdT _) hdT _
  · have := (ht.dur.lt g h1).2
    have := (ho.lt g h2).1
    omega
  · exact hb2 g ((h.tk k hk).lt g hg) (h.mine k hk g hg).2.2
  · rcases hg with hg | hg
    · have := ho.lt g hg
      exact .inr ⟨.inr ⟨by omega, by simpa using this.2⟩, by omega⟩
    · exact .inl (.inr hg)

/-- What is there is durable. -/
theorem DAt.settled {w : World} {S : Nat → Prop} {D T : Nat} {vn vd : Nat → Value} {d : Dr} {j : Nat} (h : DAt w S D T vn vd d) (hj : j < d.n) :
    DAt ((w.setCell ⟨T, j * 3 + 1, none⟩ (vn j)).setCell ⟨T, j * 3 + 2, none⟩ (.bool false)) S D T (upd vn j (vn j)) (upd vd j (vn j)) (d.set j ⟨(d.tr j).now, (d.tr j).now, false⟩) ∧ Kept (fun k => k = T) w ((w.setCell ⟨T, j * 3 + 1, none⟩ (vn j)).setCell ⟨T, j * 3 + 2, none⟩ (.bool false)) := by
  have hm := h.mine j hj
  have ht := h.tk j hj
  have hvT : (vn j).ownBlock ≠ some T := fun e => (hm T (.inl e)).2.2 rfl
  have hb2 : ∀ g, g ≠ T → ((w.setCell ⟨T, j * 3 + 1, none⟩ (vn j)).setCell ⟨T, j * 3 + 2, none⟩ (.bool false)).heap[g]? = w.heap[g]? := fun g h3 => (heap_setCell_other _ _ _ _ h3).trans (heap_setCell_other _ _ _ _ h3)
  refine ⟨h.put hj (hb2 D h.ne) (((h.row.set (j * 3 + 1) (vn j)).set (j * 3 + 2) (.bool false)).congr fun k _ => ?_) ⟨?_, ?_, fun _ => List.prefix_refl _, (fun hw => by cases hw)⟩ ⟨(h.fit j hj).1, (h.fit j hj).1⟩ (fun k hk _ g hg => hb2 g (h.mine k hk g hg).2.2) (fun g hg => .inl (.inl ?_)) (fun _ h => h),
    ((Kept.refl (fun k => k = T) w).setCell (p := ⟨T, j * 3 + 1, none⟩) (.inl rfl) _).setCell (p := ⟨T, j * 3 + 2, none⟩) (.inl rfl) _⟩
  · rw [tc_set]
    have e1 := tc_now vn vd d.tr j
    repeat' split
    all_goals first
      | rfl
      | (subst_vars; first | exact e1 | (exfalso; omega))
      | (exfalso; omega)
  · exact ownsRow_setCell_other (ownsRow_setCell_other ht.now hvT _) hvT _
  · exact ownsRow_setCell_other (ownsRow_setCell_other ht.now hvT _) hvT _
  · rcases hg with hg | hg <;> exact hg

set_option maxHeartbeats 4000000 in
set_option maxRecDepth 100000 in
theorem write_any (i : Int) (x : Value) (p : List UInt8) (w : World) {S : Nat → Prop} {D T : Nat} {vn vd : Nat → Value} {d : Dr} (h : DAt w S D T vn vd d) (hx : Rd w x p) (hp : p.length ≤ 140737487306752) (hops : d.ops ≤ 1000000) :
    Calls Try.prog 11 #[.pointer (some ⟨D, 0, none⟩), .int .i64 i, x] w (APost w S D T (writeS d i p)) := by
  have C := Lib.hid (check_any i w h)
  by_cases hz : chk d i = 0
  · obtain ⟨k0, k1, k2⟩ := chk_zero hz
    obtain ⟨j, rfl⟩ : ∃ j : Nat, i = (j : Int) := ⟨i.toNat, by omega⟩
    rw [Int.toNat_natCast] at k1
    obtain ⟨c0, c1, -⟩ := h.cells
    obtain ⟨t0, t1, t2⟩ := h.tcells k1
    have hlim := h.lim
    obtain ⟨ox, cx, rfl⟩ : ∃ o c, x = .slice o p.length c := by
      rcases hx with ⟨rfl, rfl⟩ | ⟨_, c, rfl, _⟩ <;> exact ⟨_, _, rfl⟩
    have hj : (j : Int) < (d.n : Int) := by omega
    have hm1 : (d.most : Int) ≤ 1048576 := by omega
    have hf0 := h.row.frozen (j * 3)
    have hf2 := h.row.frozen (j * 3 + 2)
    rw [hz] at C
    by_cases hfull : d.most < p.length
    · have hS : writeS d (j : Int) p = (13, d) := by unfold writeS; rw [if_neg (by simp [hz]), if_pos hfull]
      rw [hS]
      have FIN := Lib.hid (APost.same h 13)
      have hgt : (d.most : Int) < (p.length : Int) := by omega
      have hgt2 : decide (d.most < p.length) = true := by simpa using hfull
      clear h hx hS hz k0 hfull hlim
      go_enter Try.func11, Try.ntmps11
      go_wp2_with fail
      refine C.out.mono ?_
      rintro e w' ⟨rfl, rfl⟩
      go_wp2_with fail
      go_ret
      exact FIN.out
    · have hS : writeS d (j : Int) p = cnt (d.set j ⟨p, (d.tr j).dur, true⟩) := by unfold writeS; rw [if_neg (by simp [hz]), if_neg hfull, Int.toNat_natCast]
      rw [hS]
      have hgt : ¬ (d.most : Int) < (p.length : Int) := by omega
      have hgt2 : decide (d.most < p.length) = false := by simpa using hfull
      have F := Lib.hid (fresh_any _ p w hx (by omega))
      have hW := Lib.hid fun (v : Value) (w1 : World) => h.wrote (w1 := w1) (v := v) (p := p) k1 (by omega)
      have hCN := Lib.hid fun (w2 : World) (vn' vd' : Nat → Value) (S' : Nat → Prop) (hd : DAt w2 S' D T vn' vd' (d.set j ⟨p, (d.tr j).dur, true⟩)) => count_any w2 hd (by exact hops)
      have hT : T < w.heap.size := h.lt.2
      have sD := Lib.hid h.sD
      clear h hx hS hz k0 hfull hlim
      go_enter Try.func11, Try.ntmps11
      go_wp2_with fail
      refine C.out.mono ?_
      rintro e w' ⟨rfl, rfl⟩
      go_wp2_with fail
      refine F.out.mono ?_
      rintro e w1 ⟨v, rfl, h1, h2⟩
      obtain ⟨ov, cv, rfl, -, -⟩ := own_slice h1
      obtain ⟨hd, hk⟩ := hW.out _ w1 h1 h2
      have CN := Lib.hid ((hCN.out _ _ _ _ hd).mono fun e w' => APost.count hk sD.out e w')
      have t0' : w1.cell? ⟨T, j * 3, none⟩ = some (vn j) := (h2.cell (p := ⟨T, j * 3, none⟩) hT).trans t0
      have t2' : w1.cell? ⟨T, j * 3 + 2, none⟩ = some (.bool (d.tr j).wr) := (h2.cell (p := ⟨T, j * 3 + 2, none⟩) hT).trans t2
      have f0' : w1.frozen? ⟨T, j * 3, none⟩ = false := (h2.frozen (p := ⟨T, j * 3, none⟩) hT).trans hf0
      have f2' : w1.frozen? ⟨T, j * 3 + 2, none⟩ = false := (h2.frozen (p := ⟨T, j * 3 + 2, none⟩) hT).trans hf2
      clear h1 h2 hd hk hW hCN
      go_wp2_with fail
      refine CN.out.mono ?_
      intro e w' he
      obtain rfl := he.1
      have HE := Lib.hid he
      clear he
      go_wp2_with fail
      go_ret
      exact HE.out
  · have hne : (chk d i == 0) = false := by simpa using hz
    have hne2 : (chk d i != 0) = true := by simp [hz]
    have hS : writeS d i p = (chk d i, d) := by unfold writeS; rw [if_pos hz]
    rw [hS]
    have FIN := Lib.hid (APost.same h (chk d i))
    generalize chk d i = y at C hne hne2 FIN
    clear hz h hS
    go_enter Try.func11, Try.ntmps11
    go_wp2_with fail
    refine C.out.mono ?_
    rintro e w' ⟨rfl, rfl⟩
    go_wp2_with fail
    go_ret
    exact FIN.out

theorem cnt_keeps (d : Dr) : (cnt d).2.n = d.n ∧ (cnt d).2.tr = d.tr ∧ (cnt d).2.most = d.most := by
  unfold cnt
  split
  · exact ⟨rfl, rfl, rfl⟩
  · split <;> exact ⟨rfl, rfl, rfl⟩
theorem cnt_two (d : Dr) : (cnt d).1 = 0 ∨ (cnt d).1 = 12 := by
  unfold cnt
  split
  · exact .inl rfl
  · split
    · exact .inl rfl
    · exact .inr rfl

set_option maxHeartbeats 4000000 in
set_option maxRecDepth 100000 in
theorem sync_any (i : Int) (w : World) {S : Nat → Prop} {D T : Nat} {vn vd : Nat → Value} {d : Dr} (h : DAt w S D T vn vd d) (hops : d.ops ≤ 1000000) :
    Calls Try.prog 12 #[.pointer (some ⟨D, 0, none⟩), .int .i64 i] w (APost w S D T (syncS d i)) := by
  have C := Lib.hid (check_any i w h)
  by_cases hz : chk d i = 0
  · obtain ⟨k0, k1, k2⟩ := chk_zero hz
    obtain ⟨j, rfl⟩ : ∃ j : Nat, i = (j : Int) := ⟨i.toNat, by omega⟩
    rw [Int.toNat_natCast] at k1
    have CN := Lib.hid (count_any w h hops)
    obtain ⟨e1, e2, e3⟩ := cnt_keeps d
    have hj : (j : Int) < (d.n : Int) := by omega
    rw [hz] at C
    have hlim := h.lim
    by_cases hc : (cnt d).1 = 0
    · have hS : syncS d (j : Int) = (0, (cnt d).2.set j ⟨((cnt d).2.tr j).now, ((cnt d).2.tr j).now, false⟩) := by unfold syncS; rw [if_neg (by simp [hz]), if_pos hc, Int.toNat_natCast, e2]
      rw [hS]
      have E1 := Lib.hid e1
      have HC := Lib.hid hc
      have sT := Lib.hid h.sT
      have sD := Lib.hid h.sD
      clear h hS hz k0 e2 e3 hc hlim e1
      generalize cnt d = r at CN E1 HC
      go_enter Try.func12, Try.ntmps12
      go_wp2_with fail
      refine C.out.mono ?_
      rintro e w' ⟨rfl, rfl⟩
      go_wp2_with fail
      refine CN.out.mono ?_
      rintro e w1 ⟨rfl, hd, hk⟩
      have c1 := hd.cells.2.1
      rw [E1.out] at c1
      have k1' : j < r.2.n := by rw [E1.out]; exact k1
      obtain ⟨t0, t1, t2⟩ := hd.tcells k1'
      obtain ⟨on, cn, hvn, -, -⟩ := own_slice (hd.tk j k1').now
      obtain ⟨hs1, hs2⟩ := hd.settled k1'
      have SET := Lib.hid (settle_at T (j * 3) _ _ _ w1 t0 t1 t2 (fun q => hd.row.frozen q) ⟨_, _, _, hvn⟩)
      have FIN : Hid (APost w S D T (0, r.2.set j ⟨(r.2.tr j).now, (r.2.tr j).now, false⟩) (.returned (.int .i64 0)) ((w1.setCell ⟨T, j * 3 + 1, none⟩ (vn j)).setCell ⟨T, j * 3 + 2, none⟩ (.bool false))) :=
        Lib.hid ⟨rfl, ⟨_, _, hs1.block (fun _ _ _ => rfl) (Fr.self _ _)⟩, (hk.weak fun k _ hk => by rw [hk]; exact sD.out).trans (hs2.weak fun k _ hk => by rw [hk]; exact sT.out)⟩
      rw [HC.out]
      clear hd hk t0 t1 t2 hvn hs1 hs2 k1'
      go_wp2_with fail
      refine SET.out.mono ?_
      rintro e w2 ⟨rfl, rfl⟩
      go_wp2_with fail
      go_ret
      exact FIN.out
    · have h12 : (cnt d).1 = 12 := by rcases cnt_two d with h | h; exact absurd h hc; exact h
      have hS : syncS d (j : Int) = cnt d := by unfold syncS; rw [if_neg (by simp [hz]), if_neg hc]
      rw [hS]
      have HC := Lib.hid h12
      have sD := Lib.hid h.sD
      clear h hS hz k0 e2 e3 hc hlim e1 h12
      generalize cnt d = r at CN HC
      go_enter Try.func12, Try.ntmps12
      go_wp2_with fail
      refine C.out.mono ?_
      rintro e w' ⟨rfl, rfl⟩
      go_wp2_with fail
      refine CN.out.mono ?_
      rintro e w1 ⟨rfl, hd, hk⟩
      have FIN : Hid (APost w S D T r (.returned (.int .i64 12)) w1) :=
        Lib.hid ⟨by rw [HC.out], ⟨_, _, hd.block (fun _ _ _ => rfl) (Fr.self _ _)⟩, hk.weak fun k _ hk => by rw [hk]; exact sD.out⟩
      rw [HC.out]
      clear hd hk
      go_wp2_with fail
      go_ret
      exact FIN.out
  · have hne : (chk d i == 0) = false := by simpa using hz
    have hne2 : (chk d i != 0) = true := by simp [hz]
    have hS : syncS d i = (chk d i, d) := by unfold syncS; rw [if_pos hz]
    rw [hS]
    have FIN := Lib.hid (APost.same h (chk d i))
    generalize chk d i = y at C hne hne2 FIN
    clear hz h hS
    go_enter Try.func12, Try.ntmps12
    go_wp2_with fail
    refine C.out.mono ?_
    rintro e w' ⟨rfl, rfl⟩
    go_wp2_with fail
    go_ret
    exact FIN.out
end Go.Proofs.Ytdckcjcddibglaa
