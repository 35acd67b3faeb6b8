/- DrumArms: the law's walk. -/
import Derived.Test.YtoekgglgcolliaaDruJ
namespace Go.Proofs.Ytoekgglgcolliaa
open Go.RowKit

/-- The drum behind m of the k operations. -/
structure ArmI (l k m : Nat) (d : Dr) : Prop where
  n : d.n = 2
  most : d.most = 10000
  len : (d.tr 0).now.length = m * l
  ops : d.ops = m
  fuse : d.fuse = k - m
  off : d.off = decide (m = k)

theorem arm_step {l k m : Nat} {d : Dr} (h : ArmI l k m d) (p : List UInt8) (hp : p.length = l) (hl : l ≤ 100) (hk : k ≤ 20) (hm : m < k) :
    (appS d 0 p).1 = (if m + 1 = k then 12 else 0) ∧ ArmI l k (m + 1) (appS d 0 p).2 := by
  obtain ⟨n, most, tr, off, ops, fuse⟩ := d
  obtain ⟨h1, h2, h3, h4, h5, h6⟩ := h
  simp only at h1 h2 h3 h4 h5 h6
  subst h1 h2 h4 h5 h6
  have hne : decide (ops = k) = false := by simp; omega
  have hz : chk (⟨2, 10000, tr, decide (ops = k), ops, k - ops⟩ : Dr) 0 = 0 := by simp [chk, hne]
  have hlen : ¬ 10000 < (tr (0 : Int).toNat).now.length + p.length := by
    rw [show (0 : Int).toNat = 0 from rfl, h3, hp]
    have : ops * l ≤ 20 * 100 := Nat.mul_le_mul (by omega) hl
    omega
  have ha : appS (⟨2, 10000, tr, decide (ops = k), ops, k - ops⟩ : Dr) 0 p = cnt ((⟨2, 10000, tr, decide (ops = k), ops, k - ops⟩ : Dr).set (0 : Int).toNat ⟨(tr (0 : Int).toNat).now ++ p, (tr (0 : Int).toNat).dur, (tr (0 : Int).toNat).wr⟩) := by
    unfold appS
    rw [if_neg (by rw [hz]; simp), if_neg hlen]
  rw [ha]
  have hlast : ((upd tr 0 ⟨(tr 0).now ++ p, (tr 0).dur, (tr 0).wr⟩) 0).now.length = (ops + 1) * l := by
    rw [upd_same, List.length_append, h3, hp, Nat.add_mul, Nat.one_mul]
  have h0 : ¬ k - ops = 0 := by omega
  have hs : (0 : Int).toNat = 0 := rfl
  rw [hs]
  by_cases h1 : ops + 1 = k
  · have h2 : ¬ 1 < k - ops := by omega
    rw [show cnt ((⟨2, 10000, tr, decide (ops = k), ops, k - ops⟩ : Dr).set 0 ⟨(tr 0).now ++ p, (tr 0).dur, (tr 0).wr⟩) = (12, ⟨2, 10000, upd tr 0 ⟨(tr 0).now ++ p, (tr 0).dur, (tr 0).wr⟩, true, ops + 1, 0⟩) from (if_neg h0).trans (if_neg h2), if_pos h1]
    exact ⟨rfl, rfl, rfl, hlast, rfl, by show 0 = k - (ops + 1); omega, by show true = decide (ops + 1 = k); simp [h1]⟩
  · have h2 : 1 < k - ops := by omega
    rw [show cnt ((⟨2, 10000, tr, decide (ops = k), ops, k - ops⟩ : Dr).set 0 ⟨(tr 0).now ++ p, (tr 0).dur, (tr 0).wr⟩) = (0, ⟨2, 10000, upd tr 0 ⟨(tr 0).now ++ p, (tr 0).dur, (tr 0).wr⟩, decide (ops = k), ops + 1, k - ops - 1⟩) from (if_neg h0).trans (if_pos h2), if_neg h1]
    exact ⟨rfl, rfl, rfl, hlast, rfl, by show k - ops - 1 = k - (ops + 1); omega, by show decide (ops = k) = decide (ops + 1 = k); rw [hne]; simp [h1]⟩

/-- At a round's head. -/
def ALoop (w : World) (D T l k m : Nat) (wr : World) : Prop := ∃ d, ArmI l k m d ∧ Dm wr w.heap.size D T d ∧ Below w.heap.size w wr

set_option maxHeartbeats 8000000 in
set_option maxRecDepth 100000 in
theorem arms_walk (n : Int) (v : Value) (p : List UInt8) (w : World) (h0 : 0 ≤ n) (h1 : n ≤ 255) (hr : Rd w v p) (hl : p.length ≤ 140737488351232) :
    Calls Try.prog 4 #[.int .u8 n, v] w fun e w' => e = .returned (.bool true) ∧ Below w.heap.size w w' := by
  obtain ⟨ox, cx, rfl⟩ : ∃ o c, v = .slice o p.length c := by
    rcases hr with ⟨rfl, rfl⟩ | ⟨_, c, rfl, _⟩ <;> exact ⟨_, _, rfl⟩
  have HR := Lib.hid hr
  clear hr
  by_cases hbig : 100 < p.length
  · have hb' : (100 : Int) < (p.length : Int) := by omega
    have hb2 : decide (100 < p.length) = true := by simpa using hbig
    clear hbig
    go_enter Try.func4, Try.ntmps4
    go_wp2_with fail
    refine (awake w).mono ?_
    rintro e w1 ⟨rfl, hb1⟩
    have HB1 := Lib.hid hb1
    clear hb1
    go_wp2_with fail
    refine (awake w1).mono ?_
    rintro e w2 ⟨rfl, hb1⟩
    have HB2 := Lib.hid (HB1.out.trans (hb1.mono HB1.out.size))
    clear hb1
    go_wp2_with fail
    go_ret
    exact ⟨rfl, HB2.out⟩
  · have hb' : ¬ (100 : Int) < (p.length : Int) := by omega
    have hb2 : decide ((100 : Int) < (p.length : Int)) = false := by simpa using hb'
    obtain ⟨k, hk, hk1, hk20⟩ : ∃ k : Nat, (1 : Int) + n.tmod 20 = (k : Int) ∧ 1 ≤ k ∧ k ≤ 20 := by
      have : n.tmod 20 = n % 20 := Int.tmod_eq_emod_of_nonneg h0
      exact ⟨(1 + n % 20).toNat, by omega, by omega, by omega⟩
    have hk' : (1 : Int) + n % 20 = (k : Int) := by rw [← Int.tmod_eq_emod_of_nonneg h0]; exact hk
    have hk1i : (1 : Int) ≤ (k : Int) := by omega
    have hk20i : (k : Int) ≤ 20 := by omega
    have HB100 := Lib.hid hbig
    clear hbig
    go_enter Try.func4, Try.ntmps4
    go_wp2_with fail
    refine (awake w).mono ?_
    rintro e w1 ⟨rfl, hb1⟩
    have HB1 := Lib.hid hb1
    clear hb1
    go_wp2_with fail
    refine (dm_new 2 10000 w1 (by decide) (by decide) (by decide) (by decide)).mono ?_
    rintro e w2 ⟨D, T, rfl, hd, hb, hT⟩
    have HB2 := Lib.hid hb
    have C := Lib.hid (dm_arm k w2 hd (by omega))
    clear hd hb
    go_wp2_with fail
    refine C.out.mono ?_
    rintro e w3 ⟨rfl, hd, hb⟩
    have ST : Hid (ALoop w1 D T p.length k 0 w3) := Lib.hid ⟨_, ⟨rfl, rfl, by simp [new], rfl, rfl, by simp [new]; omega⟩, hd, HB2.out.trans hb⟩
    clear hd hb C HB2
    go_wp2_with fail
    go_loopw [8] (fun i wr => ∃ m : Nat, m ≤ k ∧ i = .int .i64 ((m : Int) + 1) ∧ Hid (ALoop w1 D T p.length k m wr)) (fun i _ => k + 1 - (intOf i).toNat)
    case atStart => exact ⟨0, Nat.zero_le _, rfl, ST⟩
    case round =>
      obtain ⟨m, hm, rfl, hL⟩ := hrel
      clear ST
      obtain ⟨d, hA, hd, hb⟩ := hL.out
      have hrd := HR.out.below (HB1.out.trans (hb.mono HB1.out.size))
      by_cases hlt : m < k
      · have hle : (m : Int) + 1 ≤ (k : Int) := by omega
        obtain ⟨hs1, hs2⟩ := arm_step hA p rfl (by have := HB100.out; omega) hk20 hlt
        by_cases hlast : m + 1 = k
        · rw [if_pos hlast] at hs1
          have C := Lib.hid ((dm_append 0 _ p wr hd hrd (by have := HB100.out; omega) (by rw [hA.ops]; omega)).mono (DmP.at hs1 rfl))
          have t1 : decide ((m : Int) + 1 < (k : Int)) = false := by simp; omega
          have hoff : (appS d 0 p).2.off = true := by rw [hs2.off]; simpa using hlast
          have NX : ∀ w', Dm w' w1.heap.size D T (appS d 0 p).2 → Below w1.heap.size wr w' → Hid (ALoop w1 D T p.length k (m + 1) w') := fun w' h1 h2 => Lib.hid ⟨_, hs2, h1, hb.trans h2⟩
          have HLAST := Lib.hid hlast
          have HOFF := Lib.hid hoff
          generalize (appS d 0 p).2 = d' at *
          clear hL hA hd hb hrd hs1 hs2 hlast hoff hlt
          go_wp2_with fail
          refine C.out.mono ?_
          rintro e w4 ⟨rfl, hd, hb⟩
          have N := NX _ hd hb
          have CO := Lib.hid (dm_on w4 hd)
          rw [HOFF.out] at CO
          clear hd hb NX C
          go_wp2_with fail
          refine CO.out.mono ?_
          rintro e w' ⟨rfl, rfl⟩
          go_wp2_with fail
          go_roundw
          case rel => exact ⟨m + 1, by have := HLAST.out; omega, by go_num, N⟩
          case measure => have := HLAST.out; simp [intOf]; omega
        · rw [if_neg hlast] at hs1
          have C := Lib.hid ((dm_append 0 _ p wr hd hrd (by have := HB100.out; omega) (by rw [hA.ops]; omega)).mono (DmP.at hs1 rfl))
          have t1 : decide ((m : Int) + 1 < (k : Int)) = true := by simp; omega
          have t2 : (m : Int) + 1 < (k : Int) := by omega
          have hoff : (appS d 0 p).2.off = false := by rw [hs2.off]; simpa using hlast
          have NX : ∀ w', Dm w' w1.heap.size D T (appS d 0 p).2 → Below w1.heap.size wr w' → Hid (ALoop w1 D T p.length k (m + 1) w') := fun w' h1 h2 => Lib.hid ⟨_, hs2, h1, hb.trans h2⟩
          have HOFF := Lib.hid hoff
          generalize (appS d 0 p).2 = d' at *
          clear hL hA hd hb hrd hs1 hs2 hlast hoff hlt
          go_wp2_with fail
          refine C.out.mono ?_
          rintro e w4 ⟨rfl, hd, hb⟩
          have N := NX _ hd hb
          have CO := Lib.hid (dm_on w4 hd)
          rw [HOFF.out] at CO
          clear hd hb NX C
          go_wp2_with fail
          refine CO.out.mono ?_
          rintro e w' ⟨rfl, rfl⟩
          go_wp2_with fail
          go_roundw
          case rel => exact ⟨m + 1, by omega, by go_num, N⟩
          case measure => simp [intOf]; omega
      · obtain rfl : m = k := by omega
        have hne : chk d 0 = 12 := by simp [chk, hA.n, hA.off]
        have hne1 : chk d 1 = 12 := by simp [chk, hA.n, hA.off]
        have ha : appS d 0 p = (12, d) := by unfold appS; rw [if_pos (by rw [hne]; decide), hne]
        have hs : syncS d 0 = (12, d) := by unfold syncS; rw [if_pos (by rw [hne]; decide), hne]
        have hw : writeS d 1 [] = (12, d) := by unfold writeS; rw [if_pos (by rw [hne1]; decide), hne1]
        have ho : d.ops ≤ 1000000 := by rw [hA.ops]; omega
        have CR : Hid (Calls Try.prog 14 #[.pointer (some ⟨D, 0, none⟩), .int .i64 0] wr fun e w' => e = .returned (.tuple #[.slice none 0 0, .int .i64 12]) ∧ wr = w') :=
          Lib.hid ((dm_read 0 wr hd).mono fun e w' h => by
            rcases h with ⟨_, h1, h2⟩ | ⟨h1, _⟩
            · rw [hne] at h1; exact ⟨h1, h2⟩
            · rw [hne] at h1; cases h1)
        have CA := Lib.hid ((dm_append 0 _ p wr hd hrd (by have := HB100.out; omega) ho).mono (DmP.at (by rw [ha]) (by rw [ha])))
        have HS := Lib.hid hs
        have HW := Lib.hid hw
        have HO := Lib.hid ho
        have HOPS := Lib.hid hA.ops
        have nle : ¬ (m : Int) + 1 ≤ (m : Int) := by omega
        have HB := Lib.hid hb
        clear hL hA hd hb hrd hne hne1 ha hs hw ho hlt
        go_wp2_with fail
        refine CR.out.mono ?_
        rintro e w' ⟨rfl, rfl⟩
        go_wp2_with fail
        refine CA.out.mono ?_
        rintro e w4 ⟨rfl, hd, hb⟩
        have HB4 := Lib.hid (HB.out.trans hb)
        have CS := Lib.hid ((dm_sync 0 w4 hd HO.out).mono (DmP.at (by rw [HS.out]) (by rw [HS.out])))
        clear hd hb CA CR
        go_wp2_with fail
        refine CS.out.mono ?_
        rintro e w5 ⟨rfl, hd, hb⟩
        have HB5 := Lib.hid (HB4.out.trans hb)
        have CW := Lib.hid ((dm_write 1 (.slice none 0 0) [] w5 hd (.inl ⟨rfl, rfl⟩) (by simp) HO.out).mono (DmP.at (by rw [HW.out]) (by rw [HW.out])))
        clear hd hb CS
        go_wp2_with fail
        refine CW.out.mono ?_
        rintro e w6 ⟨rfl, hd, hb⟩
        have HB6 := Lib.hid (HB5.out.trans hb)
        have CO := Lib.hid (dm_ops w6 hd)
        rw [HOPS.out] at CO
        have CT := Lib.hid ((dm_restart (.slice none 0 0) [] w6 hd (RdI.nil _) (fun h => absurd rfl h)).mono (DmP.at (x := 0) rfl rfl))
        clear hd hb CW
        go_wp2_with fail
        refine CO.out.mono ?_
        rintro e w' ⟨rfl, rfl⟩
        go_wp2_with fail
        refine CT.out.mono ?_
        rintro e w7 ⟨rfl, hd, hb⟩
        have HB7 := Lib.hid (HB6.out.trans hb)
        have CN := Lib.hid (dm_on w7 hd)
        rw [show (restartS d []).off = false from rfl] at CN
        clear hd hb CT CO
        go_wp2_with fail
        refine CN.out.mono ?_
        rintro e w' ⟨rfl, rfl⟩
        go_wp2_with fail
        go_ret
        exact ⟨rfl, HB1.out.trans (HB7.out.mono HB1.out.size)⟩
end Go.Proofs.Ytoekgglgcolliaa
