/- Append, Write, Sync. -/
import Derived.Test.YtdckcjcddibglaaDruE
namespace Go.Proofs.Ytdckcjcddibglaa
open Go.RowKit

theorem Fr.self {S : Nat → Prop} (w w' : World) : ∀ k, S k → Fr S w w' k := fun _ h => .inl h

/-- A refused call. -/
theorem APost.same {w : World} {S : Nat → Prop} {D T : Nat} {vn vd : Nat → Value} {d : Dr} (h : DAt w S D T vn vd d) (x : Int) : APost w S D T (x, d) (.returned (.int .i64 x)) w :=
  ⟨rfl, ⟨vn, vd, h.block (fun _ _ _ => rfl) (Fr.self w w)⟩, Kept.refl S w⟩
theorem APost.drew {w : World} {S : Nat → Prop} {D T : Nat} {vn vd : Nat → Value} {d : Dr} (h : DAt w S D T vn vd d) (x : Int) : APost w S D T (x, d) (.returned (.int .i64 x)) w.drew :=
  ⟨rfl, ⟨vn, vd, h.block (fun _ _ _ => rfl) (Fr.self w _)⟩, (Kept.refl S w).drew⟩

set_option maxHeartbeats 4000000 in
set_option maxRecDepth 100000 in
theorem append_any (i : Int) (x : Value) (p : List UInt8) (w : World) {S : Nat → Prop} {D T : Nat} {vn vd : Nat → Value} {d : Dr} (h : DAt w S D T vn vd d) (hx : Rd w x p) (hp : p.length ≤ 140737487306752) (hops : d.ops ≤ 1000000) :
    Calls Try.prog 13 #[.pointer (some ⟨D, 0, none⟩), .int .i64 i, x] w (APost w S D T (appS d i p)) := by
  have C := Lib.hid (check_any i w h)
  by_cases hz : chk d i = 0
  · obtain ⟨k0, k1, k2⟩ := chk_zero hz
    obtain ⟨j, rfl⟩ : ∃ j : Nat, i = (j : Int) := ⟨i.toNat, by omega⟩
    rw [Int.toNat_natCast] at k1
    obtain ⟨c0, c1, -⟩ := h.cells
    obtain ⟨t0, -, -⟩ := h.tcells k1
    have hfit := (h.fit j k1).1
    have hlim := h.lim
    obtain ⟨on, cn, hvn, hcn, hcm⟩ := own_slice (h.tk j k1).now
    obtain ⟨ox, cx, rfl⟩ : ∃ o c, x = .slice o p.length c := by
      rcases hx with ⟨rfl, rfl⟩ | ⟨_, c, rfl, _⟩ <;> exact ⟨_, _, rfl⟩
    have hj : (j : Int) < (d.n : Int) := by omega
    have hl0 : (0 : Int) ≤ ((d.tr j).now.length : Int) := by omega
    have hl1 : ((d.tr j).now.length : Int) ≤ 1048576 := by omega
    have hm1 : (d.most : Int) ≤ 1048576 := by omega
    have hm0 : (0 : Int) ≤ (d.most : Int) := by omega
    have hf0 := h.row.frozen (j * 3)
    rw [hvn] at t0
    rw [hz] at C
    by_cases hfull : d.most < (d.tr j).now.length + p.length
    · have hS : appS d (j : Int) p = (13, d) := by unfold appS; rw [if_neg (by simp [hz]), Int.toNat_natCast, if_pos hfull]
      rw [hS]
      have FIN := Lib.hid (APost.drew h 13)
      have hgt : (d.most : Int) - ((d.tr j).now.length : Int) < (p.length : Int) := by omega
      clear h hx hS hz k0 hfull hvn hfit hlim
      go_enter Try.func13, Try.ntmps13
      go_wp2_with fail
      refine C.out.mono ?_
      rintro e w' ⟨rfl, rfl⟩
      go_wp2_with fail
      go_region
      go_wp2
      go_ret
      exact FIN.out
    · have hS : appS d (j : Int) p = cnt (d.set j ⟨(d.tr j).now ++ p, (d.tr j).dur, (d.tr j).wr⟩) := by unfold appS; rw [if_neg (by simp [hz]), Int.toNat_natCast, if_neg hfull]
      rw [hS]
      have hgt : ¬ (d.most : Int) - ((d.tr j).now.length : Int) < (p.length : Int) := by omega
      obtain ⟨o, cap, w1, hr, h1, h2, h3, h4⟩ := append_two (w := w.drew) (h.tk j k1).now hx (by omega) (Nat.zero_le _) 22
      replace h2 : w.grownBy w1 (vn j).ownBlock := ⟨h2.os, h2.tape, h2.output, h2.size, h2.block⟩
      obtain ⟨hd, hk⟩ := h.grew (w1 := w1) k1 (by omega) h1 h2 h3 h4
      have hcT : ∃ u, w1.cell? ⟨T, j * 3, none⟩ = some u := ⟨vn j, by
        have := h2.block T h.lt.2 (fun e => (h.mine j k1 T (.inl e.symm)).2.2 rfl)
        have h5 := (h.row.of_block (w' := w1) this).cell (i := j * 3) (by omega)
        rw [h5, tc_now]⟩
      obtain ⟨u, hcu⟩ := hcT
      have hfu : w1.frozen? ⟨T, j * 3, none⟩ = false := (World.frozen?_of_block (w := w) (h2.block T h.lt.2 (fun e => (h.mine j k1 T (.inl e.symm)).2.2 rfl))).trans hf0
      have CN := Lib.hid ((count_any _ hd (by exact hops)).mono fun e w' => APost.count hk h.sD e w')
      rw [hvn] at hr
      clear h hx hS hz k0 hfull hvn hfit hlim h1 h2 h3 h4 hd hk
      go_enter Try.func13, Try.ntmps13
      go_wp2_with fail
      refine C.out.mono ?_
      rintro e w' ⟨rfl, rfl⟩
      go_wp2_with fail
      go_region
      go_wp2_with (at_builtin; refine wpList_append_known rfl _ _ _ _ rfl _ _ _ rfl rfl hr ?_)
      refine CN.out.mono ?_
      intro e w' he
      obtain rfl := he.1
      have HE := Lib.hid he
      clear he
      go_wp2_with fail
      go_ret
      exact HE.out
  · have hne : (chk d i == 0) = false := by simpa using hz
    have hne2 : (chk d i != 0) = true := by simp [hz]
    have hS : appS d i p = (chk d i, d) := by unfold appS; rw [if_pos hz]
    rw [hS]
    have FIN := Lib.hid (APost.same h (chk d i))
    generalize chk d i = y at C hne hne2 FIN
    clear hz h hS
    go_enter Try.func13, Try.ntmps13
    go_wp2_with fail
    refine C.out.mono ?_
    rintro e w' ⟨rfl, rfl⟩
    go_wp2_with fail
    go_ret
    exact FIN.out
end Go.Proofs.Ytdckcjcddibglaa
