/- DrumApart: the law's walk. -/
import Derived.Test.YtoekgglgcolliaaDruK
import Derived.Test.YtoekgglgcolliaaOpenP
namespace Go.Proofs.Ytoekgglgcolliaa
open Go.RowKit

theorem i64_and1 (n : Int) : bits .and .i64 n 1 = n % 2 := by
  have h1 : (BitVec.ofInt 64 1).toNat = 2 ^ 1 - 1 := by decide
  have key : (BitVec.ofInt 64 n &&& BitVec.ofInt 64 1).toNat = (n % ((2 ^ 64 : Nat) : Int)).toNat % 2 ^ 1 := by
    rw [BitVec.toNat_and, BitVec.toNat_ofInt, h1, Nat.and_two_pow_sub_one_eq_mod]
  show IntKind.i64.wrap ((BitVec.ofInt 64 n &&& BitVec.ofInt 64 1).toNat : Nat) = n % 2
  rw [key, IntKind.wrap_i64]
  omega

/-- The drum in the script's course. -/
structure ApI (p q : List UInt8) (m : Nat) (d : Dr) : Prop where
  n : d.n = 3
  most : d.most = 5000
  off : d.off = false
  fuse : d.fuse = 0
  ops : d.ops ≤ 3 + m
  tr : d.tr 2 = ⟨p ++ q, p, false⟩

theorem ApI.chk {p q : List UInt8} {m : Nat} {d : Dr} (h : ApI p q m d) (i : Int) (h0 : 0 ≤ i) (h1 : i < 3) : chk d i = 0 := by
  unfold Go.Proofs.Ytoekgglgcolliaa.chk
  rw [if_neg (by rw [h.n]; omega), if_neg (by rw [h.off]; decide)]

theorem ApI.cnt {p q : List UInt8} {m : Nat} {d : Dr} (h : ApI p q m d) : ApI p q (m + 1) (cnt d).2 := by
  have e : Go.Proofs.Ytoekgglgcolliaa.cnt d = (0, { d with ops := d.ops + 1 }) := by unfold Go.Proofs.Ytoekgglgcolliaa.cnt; rw [if_pos h.fuse]
  rw [e]
  exact ⟨h.n, h.most, h.off, h.fuse, by have := h.ops; show d.ops + 1 ≤ _; omega, h.tr⟩

theorem ApI.set {p q : List UInt8} {m : Nat} {d : Dr} (h : ApI p q m d) (i : Nat) (t : Tk) (hi : i ≠ 2) : ApI p q m (d.set i t) :=
  ⟨h.n, h.most, h.off, h.fuse, h.ops, by show upd d.tr i t 2 = _; rw [upd_other _ _ (Ne.symm hi)]; exact h.tr⟩

theorem ApI.more {p q : List UInt8} {m : Nat} {d : Dr} (h : ApI p q m d) : ApI p q (m + 1) d := ⟨h.n, h.most, h.off, h.fuse, by have := h.ops; omega, h.tr⟩

theorem ApI.app {p q : List UInt8} {m : Nat} {d : Dr} (h : ApI p q m d) (i : Int) (h0 : 0 ≤ i) (h1 : i < 2) (l : List UInt8) : ApI p q (m + 1) (appS d i l).2 := by
  unfold appS
  rw [if_neg (by rw [h.chk i h0 (by omega)]; decide)]
  split
  · exact h.more
  · exact (h.set _ _ (by omega)).cnt
theorem ApI.write {p q : List UInt8} {m : Nat} {d : Dr} (h : ApI p q m d) (i : Int) (h0 : 0 ≤ i) (h1 : i < 2) (l : List UInt8) : ApI p q (m + 1) (writeS d i l).2 := by
  unfold writeS
  rw [if_neg (by rw [h.chk i h0 (by omega)]; decide)]
  split
  · exact h.more
  · exact (h.set _ _ (by omega)).cnt
theorem ApI.sync {p q : List UInt8} {m : Nat} {d : Dr} (h : ApI p q m d) (i : Int) (h0 : 0 ≤ i) (h1 : i < 2) : ApI p q (m + 1) (syncS d i).2 := by
  unfold syncS
  rw [if_neg (by rw [h.chk i h0 (by omega)]; decide)]
  split
  · exact h.cnt.set _ _ (by omega)
  · exact h.cnt

/-- At a round's head. -/
def PLoop (w : World) (D T : Nat) (p q : List UInt8) (m : Nat) (wr : World) : Prop := ∃ d, ApI p q m d ∧ Dm wr w.heap.size D T d ∧ Below w.heap.size w wr

/-- The first three operations. -/
def ap3 (p q : List UInt8) : Dr := ⟨3, 5000, upd (upd (upd (fun _ => ⟨[], [], false⟩) 2 ⟨[] ++ p, [], false⟩) 2 ⟨[] ++ p, [] ++ p, false⟩) 2 ⟨([] ++ p) ++ q, [] ++ p, false⟩, false, 3, 0⟩
def ap2 (p : List UInt8) : Dr := ⟨3, 5000, upd (upd (fun _ => ⟨[], [], false⟩) 2 ⟨[] ++ p, [], false⟩) 2 ⟨[] ++ p, [] ++ p, false⟩, false, 2, 0⟩
def ap1 (p : List UInt8) : Dr := ⟨3, 5000, upd (fun _ => ⟨[], [], false⟩) 2 ⟨[] ++ p, [], false⟩, false, 1, 0⟩
theorem ap_1 (p : List UInt8) (h : p.length ≤ 1000) : appS (new 3 5000) 2 p = (0, ap1 p) :=
  (if_neg (show ¬ chk (new 3 5000) 2 ≠ 0 by decide)).trans (if_neg (show ¬ (new 3 5000).most < ((new 3 5000).tr (2 : Int).toNat).now.length + p.length by show ¬ 5000 < ([] : List UInt8).length + p.length; simp; omega))
theorem ap_2 (p : List UInt8) : syncS (ap1 p) 2 = (0, ap2 p) :=
  (if_neg (show ¬ chk (ap1 p) 2 ≠ 0 by simp [chk, ap1])).trans (if_pos (show (cnt (ap1 p)).1 = 0 from rfl))
theorem ap_3 (p q : List UInt8) (h : p.length + q.length ≤ 1000) : appS (ap2 p) 2 q = (0, ap3 p q) :=
  (if_neg (show ¬ chk (ap2 p) 2 ≠ 0 by simp [chk, ap2])).trans (if_neg (show ¬ (ap2 p).most < ((ap2 p).tr (2 : Int).toNat).now.length + q.length by show ¬ 5000 < ([] ++ p : List UInt8).length + q.length; simp; omega))
theorem ap3_i (p q : List UInt8) : ApI p q 0 (ap3 p q) := ⟨rfl, rfl, rfl, rfl, by show 3 ≤ 3; decide, rfl⟩

theorem catT (x y : List UInt8) : ((⟨x.toArray⟩ : ByteArray) ++ ⟨y.toArray⟩).toList = x ++ y := by
  have e : ((⟨x.toArray⟩ : ByteArray) ++ ⟨y.toArray⟩) = ⟨(x ++ y).toArray⟩ := by
    apply ByteArray.ext
    rw [ByteArray.data_append]
    simp
  rw [e]
  simp

theorem three_ints (w : World) (x y z : Int) : RdI (w.alloc (.cells #[.int .i64 x, .int .i64 y, .int .i64 z] 3)) (.slice (some ⟨w.heap.size, 0, none⟩) 3 3) [x, y, z] := by
  refine ⟨_, _, rfl, by simp, fun j u hu => ⟨_, _, rfl, ?_⟩⟩
  have h := cell_of_row _ w.heap.size (0 + j) _ _ (0, 0) (heap_alloc_new w (.cells #[.int .i64 x, .int .i64 y, .int .i64 z] 3))
  rw [h]
  rcases j with _ | _ | _ | j
  · simpa using hu
  · simpa using hu
  · simpa using hu
  · simp at hu

set_option maxHeartbeats 4000000 in
set_option maxRecDepth 100000 in
theorem apart_out (a b : Value) (p q : List UInt8) (x y : Value) (w : World) (ha : Rd w a p) (hb : Rd w b q) (hp : p.length ≤ 140737488351232) (hq : q.length ≤ 140737488351232) (h : 1000 < p.length + q.length) :
    Calls Try.prog 7 #[a, b, x, y] w fun e w' => e = .returned (.bool true) ∧ Below w.heap.size w w' := by
  obtain ⟨oa, ca, rfl⟩ : ∃ o c, a = .slice o p.length c := by
    rcases ha with ⟨rfl, rfl⟩ | ⟨_, c, rfl, _⟩ <;> exact ⟨_, _, rfl⟩
  obtain ⟨ob, cb, rfl⟩ : ∃ o c, b = .slice o q.length c := by
    rcases hb with ⟨rfl, rfl⟩ | ⟨_, c, rfl, _⟩ <;> exact ⟨_, _, rfl⟩
  have h0 : (0 : Int) ≤ (p.length : Int) := by omega
  have h1 : (p.length : Int) ≤ 140737488351232 := by omega
  have h2 : (0 : Int) ≤ (q.length : Int) := by omega
  have h3 : (q.length : Int) ≤ 140737488351232 := by omega
  have hd : (1000 : Int) < (p.length : Int) + (q.length : Int) := by omega
  clear ha hb h
  go_enter Try.func7, Try.ntmps7
  go_wp2_with fail
  refine (awake w).mono ?_
  rintro e w1 ⟨rfl, hb1⟩
  have HB1 := Lib.hid hb1
  clear hb1
  go_wp2_with fail
  refine (awake w1).mono ?_
  rintro e w2 ⟨rfl, hb2⟩
  have HB2 := Lib.hid (HB1.out.trans (hb2.mono HB1.out.size))
  clear hb2
  go_wp2_with fail
  go_ret
  exact ⟨rfl, HB2.out⟩

set_option maxHeartbeats 16000000 in
set_option maxRecDepth 100000 in
theorem apart_in (a b : Value) (p q : List UInt8) (x y : Value) (acts : List Act) (w : World) (ha : Rd w a p) (hb : Rd w b q) (hx : RdA w x acts) (h : p.length + q.length ≤ 1000) :
    Calls Try.prog 7 #[a, b, x, y] w fun e w' => e = .returned (.bool true) ∧ Below w.heap.size w w' := by
  obtain ⟨oa, ca, rfl⟩ : ∃ o c, a = .slice o p.length c := by
    rcases ha with ⟨rfl, rfl⟩ | ⟨_, c, rfl, _⟩ <;> exact ⟨_, _, rfl⟩
  obtain ⟨ob, cb, rfl⟩ : ∃ o c, b = .slice o q.length c := by
    rcases hb with ⟨rfl, rfl⟩ | ⟨_, c, rfl, _⟩ <;> exact ⟨_, _, rfl⟩
  obtain ⟨ox, cx, rfl, hal⟩ : ∃ o c, x = .slice o acts.length c ∧ acts.length ≤ 9223372036854775807 := by
    rcases hx with ⟨o, c, rfl, rfl⟩ | ⟨b, off, c, rfl, _, h1, h2, _⟩
    · exact ⟨_, _, rfl, by simp⟩
    · exact ⟨_, _, rfl, by unfold maxLen at h2; omega⟩
  have h0 : (0 : Int) ≤ (p.length : Int) := by omega
  have h2 : (0 : Int) ≤ (q.length : Int) := by omega
  have hd : ¬ (1000 : Int) < (p.length : Int) + (q.length : Int) := by omega
  have h5 : (p.length : Int) + (q.length : Int) ≤ 1000 := by omega
  have HA := Lib.hid ha
  have HB := Lib.hid hb
  have HX := Lib.hid hx
  have H5 := Lib.hid h
  clear ha hb hx h
  go_enter Try.func7, Try.ntmps7
  go_wp2_with fail
  refine (awake w).mono ?_
  rintro e w1 ⟨rfl, hb1⟩
  have HB1 := Lib.hid hb1
  clear hb1
  go_wp2_with fail
  refine (dm_new 3 5000 w1 (by decide) (by decide) (by decide) (by decide)).mono ?_
  rintro e w2 ⟨D, T, rfl, hd, hb, hT⟩
  have HB2 := Lib.hid hb
  have HS1 := Lib.hid HB1.out.size
  have C1 := Lib.hid ((dm_append 2 _ p w2 hd (HA.out.below (HB1.out.trans (hb.mono HS1.out))) (by have := H5.out; omega) (by decide)).mono (DmP.at (congrArg Prod.fst (ap_1 p (by have := H5.out; omega))) (congrArg Prod.snd (ap_1 p (by have := H5.out; omega)))))
  clear hd hb hT
  go_wp2_with fail
  refine C1.out.mono ?_
  rintro e w3 ⟨rfl, hd, hb⟩
  have HB3 := Lib.hid (HB2.out.trans hb)
  have C2 := Lib.hid ((dm_sync 2 w3 hd (by show 1 ≤ 1000000; decide)).mono (DmP.at (congrArg Prod.fst (ap_2 p)) (congrArg Prod.snd (ap_2 p))))
  clear hd hb C1
  go_wp2_with fail
  refine C2.out.mono ?_
  rintro e w4 ⟨rfl, hd, hb⟩
  have HB4 := Lib.hid (HB3.out.trans hb)
  have C3 := Lib.hid ((dm_append 2 _ q w4 hd (HB.out.below (HB1.out.trans (HB4.out.mono HS1.out))) (by have := H5.out; omega) (by show 2 ≤ 1000000; decide)).mono (DmP.at (congrArg Prod.fst (ap_3 p q (by have := H5.out; omega))) (congrArg Prod.snd (ap_3 p q (by have := H5.out; omega)))))
  clear hd hb C2
  go_wp2_with fail
  refine C3.out.mono ?_
  rintro e w5 ⟨rfl, hd, hb⟩
  have ST : Hid (PLoop w1 D T p q 0 w5) := Lib.hid ⟨_, ap3_i p q, hd, HB4.out.trans hb⟩
  clear hd hb C3
  go_wp2_with fail
  go_loopw [11] (fun i wr => ∃ m : Nat, m ≤ 40 ∧ m ≤ acts.length ∧ i = .int .i64 m ∧ Hid (PLoop w1 D T p q m wr)) (fun i _ => 41 - (intOf i).toNat)
  case atStart => exact ⟨0, by omega, by omega, rfl, ST⟩
  case round =>
    obtain ⟨m, hm, hml, rfl, hL⟩ := hrel
    clear ST
    obtain ⟨d, hI, hdm, hbl⟩ := hL.out
    have hbw := HB1.out.trans (hbl.mono HS1.out)
    by_cases hlt : m < acts.length ∧ m < 40
    · obtain ⟨hlt1, hlt2⟩ := hlt
      have i1 : (m : Int) < (acts.length : Int) := by omega
      have i2 : (m : Int) < 40 := by omega
      have hact : ∃ bb off, ox = some ⟨bb, off, none⟩ ∧ ActAt wr bb (off + m * 5) acts[m] := by
        rcases HX.out with ⟨o, c, hv, hl0⟩ | ⟨bb, off, c, hv, _, _, _, hat⟩
        · subst hl0; simp at hlt1
        · injection hv with hv _ _
          exact ⟨bb, off, hv, (hat m _ (List.getElem?_eq_getElem hlt1)).below hbw (Nat.le_refl _)⟩
      obtain ⟨bb, off, rfl, hat⟩ := hact
      generalize acts[m] = A at *
      obtain ⟨k, i, po, pc, l, n, co, cn, cc⟩ := A
      obtain ⟨a0, a1, a2, a3, a4, hrd, k0, k1, i0, i1'⟩ := hat
      simp only at a0 a1 a2 a3 a4 hrd k0 k1 i0 i1'
      obtain ⟨t, ht, t0, t1⟩ : ∃ t : Int, bits .and .i64 i 1 = t ∧ 0 ≤ t ∧ t < 2 := ⟨i % 2, i64_and1 i, by omega, by omega⟩
      by_cases hbig : 1000 < l.length
      · have hb' : (1000 : Int) < (l.length : Int) := by omega
        have hb2 : decide ((1000 : Int) < (l.length : Int)) = true := by simpa using hb'
        have HBW := Lib.hid (hbw.alloc hbw.size (.cells #[.int .u8 k, .int .i64 i, .slice po l.length pc, .int .i64 n, .slice co cn cc] 41))
        clear hL hI hdm hbl hbw
        go_wp2_with fail
        go_ret
        exact ⟨rfl, HBW.out⟩
      · have hb' : ¬ (1000 : Int) < (l.length : Int) := by omega
        have hb2 : decide ((1000 : Int) < (l.length : Int)) = false := by simpa using hb'
        have hdA := hdm.below ((Below.refl _ wr).alloc (Nat.le_refl _) (.cells #[.int .u8 k, .int .i64 i, .slice po l.length pc, .int .i64 n, .slice co cn cc] 41))
        obtain ⟨r, hr, hr0, hr1⟩ : ∃ r : Int, k % 4 = r ∧ 0 ≤ r ∧ r < 4 := ⟨k % 4, rfl, by omega, by omega⟩
        have hrt : k.tmod 4 = r := by rw [Int.tmod_eq_emod_of_nonneg k0]; exact hr
        by_cases r0 : r = 0
        · subst r0
          have hI' := hI.app t t0 t1 l
          have C := Lib.hid (dm_append t _ l _ hdA (hrd.below ((Below.refl _ wr).alloc (Nat.le_refl _) _)) (by omega) (by have := hI.ops; omega))
          have HBL := Lib.hid (hbl.alloc hbl.size (.cells #[.int .u8 k, .int .i64 i, .slice po l.length pc, .int .i64 n, .slice co cn cc] 41))
          have HI := Lib.hid hI'
          generalize appS d t l = R at C HI
          clear hL hI hdm hbl hbw hI' hdA hbig
          go_wp2_with fail
          refine C.out.mono ?_
          rintro e w6 ⟨rfl, hd6, hb6⟩
          have HB6 := Lib.hid (HBL.out.trans hb6)
          have HD6 := Lib.hid hd6
          have CR := Lib.hid (dm_read_ok 2 w6 hd6 (HI.out.chk 2 (by omega) (by omega)))
          clear hd6 hb6 C
          go_wp2_with fail
          refine CR.out.mono ?_
          rintro e w7 ⟨v, rfl, ho, hb⟩
          have HB7 := Lib.hid (HB6.out.trans (hb.mono HB6.out.size))
          have NX : Hid (PLoop w1 D T p q (m + 1) w7) := Lib.hid ⟨_, HI.out, HD6.out.below hb, HB7.out⟩
          have hw7 := HB1.out.trans (HB7.out.mono HS1.out)
          have e3 : (R.2.tr (2 : Int).toNat).now = p ++ q := by show (R.2.tr 2).now = _; rw [HI.out.tr]
          rw [e3] at ho
          have hts : (convert 22 9 v).run Try.prog w7 = .ok (.string ⟨(p ++ q).toArray⟩) w7 := toStr' ho
          have htp : (convert 22 9 (.slice oa p.length ca)).run Try.prog w7 = .ok (.string ⟨p.toArray⟩) w7 := toStr (HA.out.below hw7)
          have htq : (convert 22 9 (.slice ob q.length cb)).run Try.prog w7 = .ok (.string ⟨q.toArray⟩) w7 := toStr (HB.out.below hw7)
          have hcat := catT p q
          clear ho hb hw7 e3 CR
          generalize p ++ q = PQ at hts hcat
          have hpq : (PQ == PQ) = true := by simp
          go_wp2_with fail
          go_roundw
          case rel => exact ⟨m + 1, by omega, by omega, by go_num, NX⟩
          case measure => simp [intOf]; omega
        · by_cases r1 : r = 1
          · subst r1
            have hI' := hI.write t t0 t1 l
            have C := Lib.hid (dm_write t _ l _ hdA (hrd.below ((Below.refl _ wr).alloc (Nat.le_refl _) _)) (by omega) (by have := hI.ops; omega))
            have HBL := Lib.hid (hbl.alloc hbl.size (.cells #[.int .u8 k, .int .i64 i, .slice po l.length pc, .int .i64 n, .slice co cn cc] 41))
            have HI := Lib.hid hI'
            generalize writeS d t l = R at C HI
            clear hL hI hdm hbl hbw hI' hdA hbig
            go_wp2_with fail
            refine C.out.mono ?_
            rintro e w6 ⟨rfl, hd6, hb6⟩
            have HB6 := Lib.hid (HBL.out.trans hb6)
            have HD6 := Lib.hid hd6
            have CR := Lib.hid (dm_read_ok 2 w6 hd6 (HI.out.chk 2 (by omega) (by omega)))
            clear hd6 hb6 C
            go_wp2_with fail
            refine CR.out.mono ?_
            rintro e w7 ⟨v, rfl, ho, hb⟩
            have HB7 := Lib.hid (HB6.out.trans (hb.mono HB6.out.size))
            have NX : Hid (PLoop w1 D T p q (m + 1) w7) := Lib.hid ⟨_, HI.out, HD6.out.below hb, HB7.out⟩
            have hw7 := HB1.out.trans (HB7.out.mono HS1.out)
            have e3 : (R.2.tr (2 : Int).toNat).now = p ++ q := by show (R.2.tr 2).now = _; rw [HI.out.tr]
            rw [e3] at ho
            have hts : (convert 22 9 v).run Try.prog w7 = .ok (.string ⟨(p ++ q).toArray⟩) w7 := toStr' ho
            have htp : (convert 22 9 (.slice oa p.length ca)).run Try.prog w7 = .ok (.string ⟨p.toArray⟩) w7 := toStr (HA.out.below hw7)
            have htq : (convert 22 9 (.slice ob q.length cb)).run Try.prog w7 = .ok (.string ⟨q.toArray⟩) w7 := toStr (HB.out.below hw7)
            have hcat := catT p q
            clear ho hb hw7 e3 CR
            generalize p ++ q = PQ at hts hcat
            have hpq : (PQ == PQ) = true := by simp
            go_wp2_with fail
            go_roundw
            case rel => exact ⟨m + 1, by omega, by omega, by go_num, NX⟩
            case measure => simp [intOf]; omega
          · by_cases r2 : r = 2
            · subst r2
              have hI' := hI.sync t t0 t1
              have C := Lib.hid (dm_sync t _ hdA (by have := hI.ops; omega))
              have HBL := Lib.hid (hbl.alloc hbl.size (.cells #[.int .u8 k, .int .i64 i, .slice po l.length pc, .int .i64 n, .slice co cn cc] 41))
              have HI := Lib.hid hI'
              generalize syncS d t = R at C HI
              clear hL hI hdm hbl hbw hI' hdA hbig
              go_wp2_with fail
              refine C.out.mono ?_
              rintro e w6 ⟨rfl, hd6, hb6⟩
              have HB6 := Lib.hid (HBL.out.trans hb6)
              have HD6 := Lib.hid hd6
              have CR := Lib.hid (dm_read_ok 2 w6 hd6 (HI.out.chk 2 (by omega) (by omega)))
              clear hd6 hb6 C
              go_wp2_with fail
              refine CR.out.mono ?_
              rintro e w7 ⟨v, rfl, ho, hb⟩
              have HB7 := Lib.hid (HB6.out.trans (hb.mono HB6.out.size))
              have NX : Hid (PLoop w1 D T p q (m + 1) w7) := Lib.hid ⟨_, HI.out, HD6.out.below hb, HB7.out⟩
              have hw7 := HB1.out.trans (HB7.out.mono HS1.out)
              have e3 : (R.2.tr (2 : Int).toNat).now = p ++ q := by show (R.2.tr 2).now = _; rw [HI.out.tr]
              rw [e3] at ho
              have hts : (convert 22 9 v).run Try.prog w7 = .ok (.string ⟨(p ++ q).toArray⟩) w7 := toStr' ho
              have htp : (convert 22 9 (.slice oa p.length ca)).run Try.prog w7 = .ok (.string ⟨p.toArray⟩) w7 := toStr (HA.out.below hw7)
              have htq : (convert 22 9 (.slice ob q.length cb)).run Try.prog w7 = .ok (.string ⟨q.toArray⟩) w7 := toStr (HB.out.below hw7)
              have hcat := catT p q
              clear ho hb hw7 e3 CR
              generalize p ++ q = PQ at hts hcat
              have hpq : (PQ == PQ) = true := by simp
              go_wp2_with fail
              go_roundw
              case rel => exact ⟨m + 1, by omega, by omega, by go_num, NX⟩
              case measure => simp [intOf]; omega
            · obtain rfl : r = 3 := by omega
              have hI' := hI.sync t t0 t1
              have C := Lib.hid (dm_sync t _ hdA (by have := hI.ops; omega))
              have HBL := Lib.hid (hbl.alloc hbl.size (.cells #[.int .u8 k, .int .i64 i, .slice po l.length pc, .int .i64 n, .slice co cn cc] 41))
              have HI := Lib.hid hI'
              generalize syncS d t = R at C HI
              clear hL hI hdm hbl hbw hI' hdA hbig
              go_wp2_with fail
              refine C.out.mono ?_
              rintro e w6 ⟨rfl, hd6, hb6⟩
              have HB6 := Lib.hid (HBL.out.trans hb6)
              have HD6 := Lib.hid hd6
              have CR := Lib.hid (dm_read_ok 2 w6 hd6 (HI.out.chk 2 (by omega) (by omega)))
              clear hd6 hb6 C
              go_wp2_with fail
              refine CR.out.mono ?_
              rintro e w7 ⟨v, rfl, ho, hb⟩
              have HB7 := Lib.hid (HB6.out.trans (hb.mono HB6.out.size))
              have NX : Hid (PLoop w1 D T p q (m + 1) w7) := Lib.hid ⟨_, HI.out, HD6.out.below hb, HB7.out⟩
              have hw7 := HB1.out.trans (HB7.out.mono HS1.out)
              have e3 : (R.2.tr (2 : Int).toNat).now = p ++ q := by show (R.2.tr 2).now = _; rw [HI.out.tr]
              rw [e3] at ho
              have hts : (convert 22 9 v).run Try.prog w7 = .ok (.string ⟨(p ++ q).toArray⟩) w7 := toStr' ho
              have htp : (convert 22 9 (.slice oa p.length ca)).run Try.prog w7 = .ok (.string ⟨p.toArray⟩) w7 := toStr (HA.out.below hw7)
              have htq : (convert 22 9 (.slice ob q.length cb)).run Try.prog w7 = .ok (.string ⟨q.toArray⟩) w7 := toStr (HB.out.below hw7)
              have hcat := catT p q
              clear ho hb hw7 e3 CR
              generalize p ++ q = PQ at hts hcat
              have hpq : (PQ == PQ) = true := by simp
              go_wp2_with fail
              go_roundw
              case rel => exact ⟨m + 1, by omega, by omega, by go_num, NX⟩
              case measure => simp [intOf]; omega
    · have hw := HB1.out.trans (hbl.mono HS1.out)
      have hTw : T < wr.heap.size := by
        obtain ⟨_, _, _, _, _, h3⟩ := hdm
        exact h3.lt.2
      have hdA := hdm.below ((Below.refl _ wr).alloc (Nat.le_refl _) (.cells #[.int .i64 0, .int .i64 0, .int .i64 (-1)] 3))
      have hTn : (Value.slice (some ⟨wr.heap.size, 0, none⟩) 3 3).ownBlock ≠ some T := by
        simp only [Value.ownBlock, ne_eq, Option.some.injEq]
        omega
      have C := Lib.hid ((dm_restart _ [0, 0, -1] _ hdA (three_ints wr 0 0 (-1)) (fun _ => hTn)).mono (DmP.at (x := 0) rfl rfl))
      have HBL := Lib.hid (hbl.alloc hbl.size (.cells #[.int .i64 0, .int .i64 0, .int .i64 (-1)] 3))
      have hz : chk (restartS d [0, 0, -1]) 2 = 0 := by
        unfold chk
        rw [if_neg (by show ¬ ((2 : Int) < 0 ∨ (d.n : Int) ≤ 2); rw [hI.n]; omega), if_neg (by show ¬ false = true; decide)]
      have hnow : ((restartS d [0, 0, -1]).tr (2 : Int).toNat).now = p := by
        show (if 2 < d.n then loseT (d.tr 2) (-1) else d.tr 2).now = p
        rw [if_pos (by rw [hI.n]; decide), hI.tr]
        show (p ++ q).take (p.length + min 0 ((p ++ q).length - p.length)) = p
        simp
      have HZ := Lib.hid hz
      have HN := Lib.hid hnow
      have HIO := Lib.hid hI.ops
      generalize restartS d [0, 0, -1] = R at C HZ HN
      have hpp : (p == p) = true := by simp
      by_cases hge : m < acts.length
      · have i1 : (m : Int) < (acts.length : Int) := by omega
        have i2 : ¬ (m : Int) < 40 := by omega
        clear hL hI hdm hbl hbw hz hnow hdA hTw hTn hw hlt
        go_wp2_with fail
        refine C.out.mono ?_
        rintro e w6 ⟨rfl, hd6, hb6⟩
        have HB6 := Lib.hid (HBL.out.trans hb6)
        have CR := Lib.hid (dm_read_ok 2 w6 hd6 HZ.out)
        clear hd6 hb6 C
        go_wp2_with fail
        refine CR.out.mono ?_
        rintro e w7 ⟨v, rfl, ho, hb⟩
        have HB7 := Lib.hid (HB1.out.trans ((HB6.out.trans (hb.mono HB6.out.size)).mono HS1.out))
        rw [HN.out] at ho
        have hts : (convert 22 9 v).run Try.prog w7 = .ok (.string ⟨p.toArray⟩) w7 := toStr' ho
        have htp : (convert 22 9 (.slice oa p.length ca)).run Try.prog w7 = .ok (.string ⟨p.toArray⟩) w7 := toStr (HA.out.below HB7.out)
        clear ho hb CR
        go_wp2_with fail
        go_ret
        exact ⟨rfl, HB7.out⟩
      · have i1 : ¬ (m : Int) < (acts.length : Int) := by omega
        clear hL hI hdm hbl hbw hz hnow hdA hTw hTn hw hlt
        go_wp2_with fail
        refine C.out.mono ?_
        rintro e w6 ⟨rfl, hd6, hb6⟩
        have HB6 := Lib.hid (HBL.out.trans hb6)
        have CR := Lib.hid (dm_read_ok 2 w6 hd6 HZ.out)
        clear hd6 hb6 C
        go_wp2_with fail
        refine CR.out.mono ?_
        rintro e w7 ⟨v, rfl, ho, hb⟩
        have HB7 := Lib.hid (HB1.out.trans ((HB6.out.trans (hb.mono HB6.out.size)).mono HS1.out))
        rw [HN.out] at ho
        have hts : (convert 22 9 v).run Try.prog w7 = .ok (.string ⟨p.toArray⟩) w7 := toStr' ho
        have htp : (convert 22 9 (.slice oa p.length ca)).run Try.prog w7 = .ok (.string ⟨p.toArray⟩) w7 := toStr (HA.out.below HB7.out)
        clear ho hb CR
        go_wp2_with fail
        go_ret
        exact ⟨rfl, HB7.out⟩

/-- The law, whatever comes in. -/
theorem apart_walk (a : Value) (p : List UInt8) (b : Value) (q : List UInt8) (x : Value) (acts : List Act) (y : Value) (cuts : List Int) (w : World) (ha : Rd w a p) (hp : p.length ≤ 140737488351232) (hb : Rd w b q) (hq : q.length ≤ 140737488351232) (hx : RdA w x acts) (_hy : RdI w y cuts) :
    Calls Try.prog 7 #[a, b, x, y] w fun e w' => e = .returned (.bool true) ∧ Below w.heap.size w w' := by
  by_cases h : 1000 < p.length + q.length
  · exact apart_out a b p q x y w ha hb hp hq h
  · exact apart_in a b p q x y acts w ha hb hx (by omega)
end Go.Proofs.Ytoekgglgcolliaa
