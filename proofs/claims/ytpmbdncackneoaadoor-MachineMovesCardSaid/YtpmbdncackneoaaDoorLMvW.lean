/- MachineMoves: the law's walk. -/
import Derived.Test.YtpmbdncackneoaaDoorGMf
import Derived.BigRegion
import Derived.OrdersHeld
import Derived.Deep.RegionHeld3
import Derived.Deep.Cut
namespace Go.Proofs.YtpmbdncackneoaaDoor
open Go.RowKit HeaM Ma

/-- Moves in memory. -/
def MvAt (w : World) (v : Value) (l : List (Bool × Int)) : Prop := ∃ o c, v = .slice o l.length c ∧ (∀ j m, l[j]? = some m → ∃ b off, o = some ⟨b, off, none⟩ ∧ w.cell? ⟨b, off + j * 2, none⟩ = some (.bool m.1) ∧ w.cell? ⟨b, off + j * 2 + 1, none⟩ = some (.int .i64 m.2))

theorem grps_app (s : List UInt8) (l r : List (Bool × Int)) : grps s (l ++ r) = grps s l ++ grps s r := by
  induction l with
  | nil => rfl
  | cons a l ih => rw [List.cons_append, grps, ih, ← List.append_assoc]; rfl
def telI (s : List UInt8) : List CodM.Ins := [⟨5, 4, 0, eS⟩, iT s, ⟨7, 0, 0, eS⟩, ⟨19, 0, 0, eS⟩]
def movI (g n : Int) : List CodM.Ins := [⟨5, g, 0, eS⟩, iN n, ⟨7, 0, 0, eS⟩, ⟨19, 0, 0, eS⟩]
theorem grps_snoc (s : List UInt8) (l : List (Bool × Int)) (m : Bool × Int) : grps s (l ++ [m]) = grps s l ++ telI s ++ movI (if m.1 then 7 else 2) m.2 := by
  rw [grps_app, List.append_assoc]
  rfl

theorem ba_app (a b : List UInt8) : (⟨a.toArray⟩ : ByteArray) ++ ⟨b.toArray⟩ = ⟨(a ++ b).toArray⟩ := by
  apply ByteArray.ext
  rw [ByteArray.data_append]
  simp
theorem repS_snoc (s : List UInt8) : ∀ j, repS s j ++ s = repS s (j + 1) := by
  intro j
  induction j with
  | zero => simp [repS]
  | succ j ih => rw [repS, List.append_assoc, ih]; rfl

/-- more_ins for longer rows. -/
theorem more_insM {wr : World} {base n : Nat} {v : Value} {l : List CodM.Ins} (l' : List CodM.Ins) (hown : wr.ownsRow base 28 4 v n (CsIn l)) (hn : n ≤ 1000) (hm : l'.length ≤ 100) (hbase : base ≤ wr.heap.size) :
    ∃ o c w2, (Builtin.append_ #[24, 24] 24 #[v, .slice (some ⟨wr.heap.size, 0, none⟩) l'.length l'.length]).run Tryd.prog (wr.alloc (.cells (CsIn l').toArray 28)) = .ok (.slice o (n + l'.length) c) w2 ∧ w2.ownsRow base 28 4 (.slice o (n + l'.length) c) (n + l'.length) (CsIn (l ++ l')) ∧ Below base wr w2 := by
  have hba : Below wr.heap.size wr (wr.alloc (.cells (CsIn l').toArray 28)) := (Below.refl _ _).alloc (Nat.le_refl _) _
  have hown2 := own_kept hown (Below.kept hba fun _ h _ => h) (fun q a => by have := (hown.lt q a).2; omega)
  obtain ⟨i0, hi0, hz0, hz1, hz2⟩ := info_parts (show (Tryd.prog.info? 28).map (fun i => (i.zero, i.size, i.bytes)) = some (some (.agg #[.int .u8 0, .int .i64 0, .int .i64 0, .string ⟨#[]⟩]), 4, 40) by kernel_rfl)
  obtain ⟨v', w2, hr, h2, h3, _, _⟩ := run_append_own_at (P := Tryd.prog) _ base 24 24 28 i0 _ 4 40 (by kernel_rfl) hi0 hz0 hz1 hz2 rfl (by decide) v n _ hown2 ⟨wr.heap.size, 0, none⟩ l'.length l'.length (CsIn l') (CsIn_length _) (cells_new wr (CsIn l') 28)
    (fun u hu => by
      obtain ⟨x, _, hx⟩ := List.mem_flatMap.1 hu
      simp only [inC, List.mem_cons, List.not_mem_nil, or_false] at hx
      rcases hx with rfl | rfl | rfl | rfl <;> rfl) (by unfold maxLen; omega) (by omega) (by simp; omega)
  obtain ⟨o, c, rfl, _⟩ := own_slice h2
  refine ⟨o, c, w2, hr, ?_, ((Below.refl base wr).alloc hbase _).grown h3 (by simp; omega) (fun k hk => (hown.lt k hk).1)⟩
  rw [show CsIn (l ++ l') = CsIn l ++ CsIn l' by simp [CsIn]]
  exact h2

set_option maxHeartbeats 1000000 in
theorem lcut_m (n : Int) (w : World) : Calls Tryd.prog 6 #[.int .i64 n] w fun e w' => e = .returned (.int .i64 (cut n)) ∧ w = w' := by
  have e : wrap64 (n * 2) / 2 = cut n := by unfold wrap64 cut; omega
  have E := Lib.hid e
  clear e
  go_enter Tryd.func6, Tryd.ntmps6
  go_wp2
  go_ret
  rw [← E.out]
  exact ⟨rfl, rfl⟩

set_option maxHeartbeats 8000000 in
set_option maxRecDepth 100000 in
theorem moves_in (s : List UInt8) (l : List (Bool × Int)) (o : Option Addr) (c : Nat) (w : World) (hv : MvAt w (.slice o l.length c) l) (hl : l.length ≤ 140737488351232) (hs : s.length ≤ 200) :
    Calls Tryd.prog 3 #[.slice o l.length c, .string ⟨s.toArray⟩] w fun e w' => e = .returned (.bool true) ∧ Below w.heap.size w w' := by
  have hd : ¬ (200 : Int) < (s.length : Int) := by omega
  have hd2 : decide (200 < s.length) = false := by simp; omega
  have hli : (l.length : Int) ≤ 140737488351232 := by omega
  obtain ⟨N, hN⟩ : ∃ N, N = min l.length 14 := ⟨_, rfl⟩
  have hN1 : N ≤ 14 := by omega
  have hN2 : N ≤ l.length := by omega
  have HV := Lib.hid hv
  have HN := Lib.hid hN
  clear hv hN
  go_enter Tryd.func3, Tryd.ntmps3
  go_wp2_with fail
  refine (lawake w).mono ?_
  rintro e w1 ⟨rfl, hb1⟩
  have HB1 := Lib.hid hb1
  clear hb1
  go_wp2_with fail
  have HST := Lib.hid (And.intro (World.ownsRow_nil w1 w.heap.size 28 4) HB1.out)
  clear HB1
  go_loopw [5, 6, 7] (fun r n i wr => ∃ j : Nat, j ≤ N ∧ n = .int .i64 j ∧ i = .int .i64 j ∧ wr.ownsRow w.heap.size 28 4 r (8 * j) (CsIn (grps s (l.take j))) ∧ Below w.heap.size w wr) (fun _ _ i _ => N - (intOf i).toNat)
  case atStart => exact ⟨0, Nat.zero_le _, rfl, rfl, HST.out.1, HST.out.2⟩
  case round =>
    obtain ⟨j, hj, rfl, rfl, hown, hb⟩ := hrel
    clear HST
    by_cases hlt : j < N
    · have hki : (j : Int) < (l.length : Int) := by omega
      have hk14 : (j : Int) < 14 := by omega
      have hk0 : (0 : Int) ≤ (j : Int) := by omega
      have hg := List.getElem?_eq_getElem (show j < l.length by omega)
      have htk := List.take_succ_eq_append_getElem (show j < l.length by omega)
      obtain ⟨o', c', he, hcell⟩ := HV.out
      injection he with he _ _
      subst he
      obtain ⟨b, off, rfl, e0, e1⟩ := hcell j _ hg
      generalize l[j]'(by omega) = m at *
      obtain ⟨t, n⟩ := m
      have d0 := (hb.cell (p := ⟨b, off + j * 2, none⟩) (World.block_lt_of_cell? w _ e0)).trans e0
      have d1 := (hb.cell (p := ⟨b, off + j * 2 + 1, none⟩) (World.block_lt_of_cell? w _ e1)).trans e1
      obtain ⟨o1, c1, rfl, _⟩ := own_slice hown
      obtain ⟨o2, c2, w2, hr2, ho2, hb2⟩ := more_insM (telI s) hown (by omega) (by show 4 ≤ 100; omega) hb.size
      replace ho2 : w2.ownsRow w.heap.size 28 4 (.slice o2 (8 * j + 4) c2) (8 * j + 4) (CsIn (grps s (l.take j) ++ telI s)) := ho2
      obtain ⟨o3, c3, w3, hr3, ho3, hb3⟩ := more_insM (movI (if t then 7 else 2) n) ho2 (by omega) (by show 4 ≤ 100; omega) (Nat.le_trans hb.size hb2.size)
      replace ho3 : w3.ownsRow w.heap.size 28 4 (.slice o3 (8 * (j + 1)) c3) (8 * (j + 1)) (CsIn (grps s (l.take (j + 1)))) := by
        rw [htk, grps_snoc]; exact ho3
      have d2 := (hb2.cell (p := ⟨b, off + j * 2 + 1, none⟩) (World.block_lt_of_cell? w _ e1)).trans d1
      have HR2 := Lib.hid (show (Builtin.append_ #[24, 24] 24 #[.slice o1 (8 * j) c1, .slice (some ⟨wr.heap.size, 0, none⟩) 4 4]).run Tryd.prog (wr.alloc (.cells #[.int .u8 5, .int .i64 4, .int .i64 0, .string ⟨#[]⟩, .int .u8 1, .int .i64 0, .int .i64 0, .string ⟨s.toArray⟩, .int .u8 7, .int .i64 0, .int .i64 0, .string ⟨#[]⟩, .int .u8 19, .int .i64 0, .int .i64 0, .string ⟨#[]⟩] 28)) = .ok (.slice o2 (8 * j + 4) c2) w2 from hr2)
      have HO := Lib.hid (And.intro ho3 ((hb.trans hb2).trans hb3))
      have HE := Lib.hid (And.intro e0 e1)
      clear hown hb hr2 ho2 hb2 ho3 hb3 hcell hg htk e0 e1
      cases t
      · have HR3 := Lib.hid (show (Builtin.append_ #[24, 24] 24 #[.slice o2 (8 * j + 4) c2, .slice (some ⟨w2.heap.size, 0, none⟩) 4 4]).run Tryd.prog (w2.alloc (.cells #[.int .u8 5, .int .i64 2, .int .i64 0, .string ⟨#[]⟩, .int .u8 0, .int .i64 n, .int .i64 0, .string ⟨#[]⟩, .int .u8 7, .int .i64 0, .int .i64 0, .string ⟨#[]⟩, .int .u8 19, .int .i64 0, .int .i64 0, .string ⟨#[]⟩] 28)) = .ok (.slice o3 (8 * (j + 1)) c3) w3 from hr3)
        clear hr3
        go_wp2_with (at_builtin; first | refine wpList_append_known rfl (.tmp 38) (.tmp 44) 24 24 (by rfl) _ _ _ (by rfl) (by rfl) HR2.out ?_ | refine wpList_append_known rfl (.tmp 46) (.tmp 57) 24 24 (by rfl) _ _ _ (by rfl) (by rfl) HR3.out ?_)
        exact ⟨⟨.slice o3 (8 * (j + 1)) c3, .int .i64 ((j : Int) + 1), .int .i64 ((j : Int) + 1), ⟨j + 1, by omega, by go_num, by go_num, HO.out⟩, rfl, rfl, rfl⟩, by simp [intOf]; omega⟩
      · have HR3 := Lib.hid (show (Builtin.append_ #[24, 24] 24 #[.slice o2 (8 * j + 4) c2, .slice (some ⟨w2.heap.size, 0, none⟩) 4 4]).run Tryd.prog (w2.alloc (.cells #[.int .u8 5, .int .i64 7, .int .i64 0, .string ⟨#[]⟩, .int .u8 0, .int .i64 n, .int .i64 0, .string ⟨#[]⟩, .int .u8 7, .int .i64 0, .int .i64 0, .string ⟨#[]⟩, .int .u8 19, .int .i64 0, .int .i64 0, .string ⟨#[]⟩] 28)) = .ok (.slice o3 (8 * (j + 1)) c3) w3 from hr3)
        clear hr3
        go_wp2_with (at_builtin; first | refine wpList_append_known rfl (.tmp 38) (.tmp 44) 24 24 (by rfl) _ _ _ (by rfl) (by rfl) HR2.out ?_ | refine wpList_append_known rfl (.tmp 46) (.tmp 57) 24 24 (by rfl) _ _ _ (by rfl) (by rfl) HR3.out ?_)
        exact ⟨⟨.slice o3 (8 * (j + 1)) c3, .int .i64 ((j : Int) + 1), .int .i64 ((j : Int) + 1), ⟨j + 1, by omega, by go_num, by go_num, HO.out⟩, rfl, rfl, rfl⟩, by simp [intOf]; omega⟩
    · obtain rfl : j = N := by omega
      obtain ⟨o1, c1, rfl, _⟩ := own_slice hown
      obtain ⟨o2, c2, w2, hr2, ho2, hb2⟩ := more_insM [iN 0, iR] hown (by omega) (by show 2 ≤ 100; omega) hb.size
      replace ho2 : w2.ownsRow w.heap.size 28 4 (.slice o2 (8 * j + 2) c2) (8 * j + 2) (CsIn (lMv s (l.take j))) := ho2
      have hlt' : (l.take j).length = j := by rw [List.length_take]; omega
      have hlen : (lMv s (l.take j)).length = 8 * j + 2 := by rw [lMv_len, hlt']
      have HR2 := Lib.hid (show (Builtin.append_ #[24, 24] 24 #[.slice o1 (8 * j) c1, .slice (some ⟨wr.heap.size, 0, none⟩) 2 2]).run Tryd.prog (wr.alloc (.cells #[.int .u8 0, .int .i64 0, .int .i64 0, .string ⟨#[]⟩, .int .u8 8, .int .i64 0, .int .i64 0, .string ⟨#[]⟩] 28)) = .ok (.slice o2 (8 * j + 2) c2) w2 from hr2)
      have HB2 := Lib.hid (hb.trans hb2)
      obtain ⟨g4, d4, he4, hg4, hm4, _, _⟩ := own_some ho2 (by omega)
      injection he4 with he4 _ hd4
      subst he4 hd4
      obtain ⟨E, R, Fu, ra, hrun, hER⟩ : ∃ (E R Fu : Int) (ra : List UInt8), Calls Tryd.prog 5 #[.slice (some ⟨g4, 0, none⟩) (8 * j + 2) c2, .int .i64 100] w2 (VPost w2 E R Fu ra ((repS s (min j 11)).take 50) ((l.take (min j 10)).map mvCut)) ∧ (j ≤ 10 ∧ E = 0 ∧ Fu = 100 - 2 * (j : Int) ∨ 10 < j ∧ E = 9 ∧ ra = [109, 111, 118, 101, 115]) := by
        by_cases h10 : j ≤ 10
        · have h := runM (l := l.take j) hs (by omega) hlen hg4 hm4 ho2
          rw [hlt'] at h
          exact ⟨_, _, _, _, by rw [show min j 11 = j by omega, show min j 10 = j by omega]; exact h, .inl ⟨h10, rfl, rfl⟩⟩
        · have hs3 : l.take j = l.take 10 ++ (l.take j).drop 10 := by
            have := (List.take_append_drop 10 (l.take j)).symm
            rwa [List.take_take, show min 10 j = 10 by omega] at this
          have hdl : ((l.take j).drop 10).length = j - 10 := by rw [List.length_drop, hlt']
          rcases hdd : (l.take j).drop 10 with _ | ⟨m, r⟩
          · rw [hdd] at hdl; simp at hdl; omega
          · rw [hdd] at hs3 hdl
            rw [List.length_cons] at hdl
            rw [hs3] at hlen ho2
            have h := runM9 (l := l.take 10) (m := m) (r := r) hs (by rw [List.length_take]; omega) (by omega) hlen hg4 hm4 ho2
            exact ⟨_, _, _, _, by rw [show min j 11 = 11 by omega, show min j 10 = 10 by omega]; exact h, .inr ⟨by omega, rfl, rfl⟩⟩
      obtain ⟨DN, hDN⟩ : ∃ DN, DN = (l.take (min j 10)).map mvCut := ⟨_, rfl⟩
      obtain ⟨kk, hkk⟩ : ∃ kk, kk = min j 10 := ⟨_, rfl⟩
      obtain ⟨pp, hpp⟩ : ∃ pp, pp = min j 11 := ⟨_, rfl⟩
      obtain ⟨OU, hOU⟩ : ∃ OU, OU = (repS s pp).take 50 := ⟨_, rfl⟩
      have hDL : DN.length = kk := by rw [hDN, List.length_map, List.length_take]; omega
      rw [← hDN, ← hpp, ← hOU] at hrun
      have hrun2 := hrun.mono (R' := fun e' w' => ∃ o c M, e' = .returned (.tuple #[.agg #[.int .i64 E, .int .u64 R, .string ⟨ra.toArray⟩, .string ⟨OU.toArray⟩, .slice o kk c, .int .i64 Fu], .pointer (some ⟨M, 0, none⟩)]) ∧ Below w2.heap.size w2 w' ∧
        ∃ b0, w'.ownsRow b0 26 2 (.slice o kk c) kk (CsMv DN)) fun e' w' h => by
          unfold VPost at h
          rw [hDL] at h
          exact h
      have HRUN := Lib.hid hrun2
      have HDN := Lib.hid (And.intro hDN hDL)
      have HOU := Lib.hid hOU
      have hkj : kk ≤ j ∧ kk ≤ 10 ∧ (j ≤ 10 → kk = j) ∧ (10 < j → kk = 10) := by omega
      have hpj : pp ≤ j ∧ pp ≤ 11 ∧ (pp < j → pp = 11) := by omega
      clear hDN hDL hrun2 hOU hkk hpp
      have HER := Lib.hid hER
      have hex : (¬ (j : Int) < (l.length : Int)) ∨ ((j : Int) < (l.length : Int) ∧ ¬ (j : Int) < 14) := by
        have := HN.out
        omega
      clear hown hb hr2 ho2 hb2 hrun hER hlen hlt' hm4
      rcases hex with hki | ⟨hki, hk14⟩
      all_goals
        go_wp2_with (at_builtin; refine wpList_append_known rfl (.tmp 61) (.tmp 64) 24 24 (by rfl) _ _ _ (by rfl) (by rfl) HR2.out ?_)
        refine HRUN.out.mono ?_
        rintro e w5 ⟨o5, c5, M5, rfl, hb5, b0, hmv⟩
        have HB5 := Lib.hid (HB2.out.trans (hb5.mono HB2.out.size))
        have HMV := Lib.hid hmv
        clear hb5 hmv HR2 HRUN
        go_wp2_with fail
        have HX := Lib.hid (HB5.out.alloc HB5.out.size (rbx E R Fu ⟨ra.toArray⟩ ⟨OU.toArray⟩ o5 kk c5))
        obtain ⟨x0, x1, x2, x5⟩ := rbx_at (E := E) (R := R) (Fu := Fu) (ra := ⟨ra.toArray⟩) (ou := ⟨OU.toArray⟩) (o := o5) (n := kk) (c := c5) (Below.refl (w5.alloc (rbx E R Fu ⟨ra.toArray⟩ ⟨OU.toArray⟩ o5 kk c5)).heap.size _)
        have x3 := (cell_of_row _ w5.heap.size 3 _ _ (0, 0) (heap_alloc_new w5 (rbx E R Fu ⟨ra.toArray⟩ ⟨OU.toArray⟩ o5 kk c5))).trans rfl
        have x4 := (cell_of_row _ w5.heap.size 4 _ _ (0, 0) (heap_alloc_new w5 (rbx E R Fu ⟨ra.toArray⟩ ⟨OU.toArray⟩ o5 kk c5))).trans rfl
        have hbx : Below w5.heap.size w5 (w5.alloc (rbx E R Fu ⟨ra.toArray⟩ ⟨OU.toArray⟩ o5 kk c5)) := (Below.refl _ _).alloc (Nat.le_refl _) _
        have HM2 := Lib.hid (And.intro hbx HMV.out)
        unfold rbx at HX x0 x1 x2 x3 x4 x5 HM2
        generalize (w5.alloc (.cells #[.int .i64 E, .int .u64 R, .string ⟨ra.toArray⟩, .string ⟨OU.toArray⟩, .slice o5 kk c5, .int .i64 Fu] 33)) = X at *
        go_loopw [11, 12] (fun v i wr => ∃ p : Nat, p ≤ pp ∧ i = .int .i64 p ∧ v = .string ⟨(repS s p).toArray⟩ ∧ wr = X) (fun _ i _ => pp - (intOf i).toNat)
        case atStart => exact ⟨0, Nat.zero_le _, rfl, rfl, rfl⟩
        case round =>
          obtain ⟨p, hp, rfl, rfl, rfl⟩ := hrel
          have hrl : (repS s p).length ≤ 11 * 200 := by
            have : ∀ q, (repS s q).length = q * s.length := by
              intro q
              induction q with
              | zero => simp [repS]
              | succ q ih => rw [repS, List.length_append, ih, Nat.succ_mul]; omega
            rw [this]
            exact Nat.mul_le_mul (by omega) hs
          by_cases hpl : p < pp
          · have hpi : (p : Int) < (j : Int) := by omega
            have hp11 : (p : Int) < 11 := by omega
            go_wp2_with fail
            exact ⟨⟨p + 1, by omega, by go_num, by rw [ba_app, repS_snoc], trivial⟩, by simp [intOf]; omega⟩
          · obtain rfl : p = pp := by omega
            clear hpl
            have hpe : (¬ (p : Int) < (j : Int)) ∨ ((p : Int) < (j : Int) ∧ ¬ (p : Int) < 11) := by omega
            have hou : (50 : Int) < ((repS s p).length : Int) ∧ OU = (repS s p).take 50 ∨ ¬ (50 : Int) < ((repS s p).length : Int) ∧ OU = repS s p := by
              have h := HOU.out
              by_cases h50 : 50 < (repS s p).length
              · exact .inl ⟨by omega, h⟩
              · exact .inr ⟨by omega, by rw [h, List.take_of_length_le (by omega)]⟩
            have hrl2 : ((repS s p).length : Int) ≤ 2200 := by omega
            have h10 : (10 : Int) < (j : Int) ∧ kk = 10 ∧ E = 9 ∧ ra = [109, 111, 118, 101, 115] ∨ ¬ (10 : Int) < (j : Int) ∧ kk = j ∧ E = 0 ∧ Fu = 100 - 2 * (j : Int) := by
              rcases HER.out with ⟨h1, h2, h3⟩ | ⟨h1, h2, h3⟩
              · exact .inr ⟨by omega, hkj.2.2.1 h1, h2, h3⟩
              · exact .inl ⟨by omega, hkj.2.2.2 h1, h2, h3⟩
            have hext : ((⟨(repS s p).toArray⟩ : ByteArray).extract 0 50).toList = (repS s p).take 50 := by
              rw [ByteArray.toList_eq, ByteArray.data_extract]
              simp
            generalize wr = wX at *
            have hC : ∀ k, k < kk → ∃ (gm b off : Nat) (tt : Bool) (n : Int), o5 = some ⟨gm, 0, none⟩ ∧ o = some ⟨b, off, none⟩ ∧ wX.cell? ⟨gm, k * 2, none⟩ = some (.bool tt) ∧ wX.cell? ⟨gm, k * 2 + 1, none⟩ = some (.int .i64 (cut n)) ∧ wX.cell? ⟨b, off + k * 2, none⟩ = some (.bool tt) ∧ wX.cell? ⟨b, off + k * 2 + 1, none⟩ = some (.int .i64 n) := by
              intro k hk
              obtain ⟨hbX, hmv⟩ := HM2.out
              obtain ⟨g, cg, he, _, _, _, hg⟩ := own_some hmv (by omega)
              injection he with he _ _
              subst he
              obtain ⟨o', c', he2, hcell⟩ := HV.out
              injection he2 with he2 _ _
              subst he2
              have hkl : k < l.length := by omega
              have hDk : DN[k]? = some (mvCut (l[k]'hkl)) := by
                rw [HDN.out.1, List.getElem?_map, List.getElem?_take, if_pos (by omega), List.getElem?_eq_getElem hkl]
                rfl
              obtain ⟨b, off, ho, c0, c1⟩ := hcell k _ (List.getElem?_eq_getElem hkl)
              have q0 := World.ownsRow.cells hmv rfl (k * 2 + 0) _ (flat_get mvC 2 (fun _ => rfl) DN k 0 _ hDk (by omega))
              have q1 := World.ownsRow.cells hmv rfl (k * 2 + 1) _ (flat_get mvC 2 (fun _ => rfl) DN k 1 _ hDk (by omega))
              have ea : ∀ i, (⟨g, 0, none⟩ : Addr).add i = ⟨g, i, none⟩ := fun i => by unfold Addr.add; split <;> simp_all
              rw [ea] at q0 q1
              exact ⟨g, b, off, (l[k]'hkl).1, (l[k]'hkl).2, rfl, ho, (hbX.cell (p := ⟨g, k * 2, none⟩) hg).trans q0, (hbX.cell (p := ⟨g, k * 2 + 1, none⟩) hg).trans q1, (HX.out.cell (p := ⟨b, off + k * 2, none⟩) (World.block_lt_of_cell? w _ c0)).trans c0, (HX.out.cell (p := ⟨b, off + k * 2 + 1, none⟩) (World.block_lt_of_cell? w _ c1)).trans c1⟩
            have HC := Lib.hid hC
            have hN2j : j ≤ l.length := by omega
            clear HOU hkj hpj HER hrl hC HM2 HDN HV
            rcases hpe with hpi | ⟨hpi, hp11⟩
            all_goals
              rcases h10 with ⟨hj10, rfl, rfl, rfl⟩ | ⟨hj10, rfl, rfl, rfl⟩
              · rcases hou with ⟨h50, rfl⟩ | ⟨h50, rfl⟩
                all_goals
                  go_wp2_with fail
                  go_loopw [14] (fun i wk => ∃ k : Nat, k ≤ 10 ∧ i = .int .i64 (k : Int) ∧ Hid (Below wX.heap.size wX wk)) (fun i _ => 10 - (intOf i).toNat)
                  case atStart => exact ⟨0, Nat.zero_le _, rfl, Lib.hid (Below.refl _ _)⟩
                  case round =>
                    as_aux_lemma =>
                      obtain ⟨k, hk, rfl, HB⟩ := hrel
                      by_cases hlt : k < 10
                      · have hltI : (k : Int) < 10 := by omega
                        have hkl : (k : Int) < (l.length : Int) := by omega
                        obtain ⟨gm, b, off, tt, nn, rfl, rfl, m0, m1, l0, l1⟩ := HC.out k hlt
                        have y0 := (HB.out.cell (p := ⟨gm, k * 2, none⟩) (World.block_lt_of_cell? wX _ m0)).trans m0
                        have y1 := (HB.out.cell (p := ⟨gm, k * 2 + 1, none⟩) (World.block_lt_of_cell? wX _ m1)).trans m1
                        have y2 := (HB.out.cell (p := ⟨b, off + k * 2, none⟩) (World.block_lt_of_cell? wX _ l0)).trans l0
                        have y3 := (HB.out.cell (p := ⟨b, off + k * 2 + 1, none⟩) (World.block_lt_of_cell? wX _ l1)).trans l1
                        have y4 := (HB.out.cell (p := ⟨w5.heap.size, 4, none⟩) (World.block_lt_of_cell? wX _ x4)).trans x4
                        have z0 := World.block_lt_of_cell? wr _ y0
                        have z2 := World.block_lt_of_cell? wr _ y2
                        have z4 := World.block_lt_of_cell? wr _ y4
                        clear m0 m1 l0 l1 x0 x1 x2 x3 x4 x5
                        go_upto_region 31 with fail
                        refine wp_region_held_drew (S := fun w' => w' = wr.drew) (by kernel_rfl) rfl ?_
                        intro hHeld
                        refine wpAnyH_take (i := 0) (v := ?_) (by simp only [List.getElem?_toArray, List.getElem?_cons_zero]; rfl) (by kernel_rfl) (by kernel_rfl) (by kernel_rfl) (by intro _ _ _ h; exact h) (Or.inl ⟨by rfl, ?_⟩) (by assumption) ?_
                        rotate_left
                        · (intro W hSw; subst hSw; go_simp; try with_reducible rfl)
                        try simp only [Act.put, List.setIfInBounds_toArray, List.set_cons_zero, List.set_cons_succ]
                        refine wpAnyH_take (i := 1) (v := ?_) (by simp only [List.getElem?_toArray, List.getElem?_cons_succ, List.getElem?_cons_zero]; rfl) (by kernel_rfl) (by kernel_rfl) (by kernel_rfl) (by intro _ _ _ h; exact h) (Or.inl ⟨by rfl, ?_⟩) (by assumption) ?_
                        rotate_left
                        · (intro W hSw; subst hSw; go_simp; try with_reducible rfl)
                        try simp only [Act.put, List.setIfInBounds_toArray, List.set_cons_zero, List.set_cons_succ]
                        refine wpAnyH_take (i := 2) (v := ?_) (by simp only [List.getElem?_toArray, List.getElem?_cons_succ, List.getElem?_cons_zero]; rfl) (by kernel_rfl) (by kernel_rfl) (by kernel_rfl) (by intro _ _ _ h; exact h) (Or.inl ⟨by rfl, ?_⟩) (by assumption) ?_
                        rotate_left
                        · (intro W hSw; subst hSw; go_simp; try with_reducible rfl)
                        try simp only [Act.put, List.setIfInBounds_toArray, List.set_cons_zero, List.set_cons_succ]
                        refine wpAnyH_take (i := 3) (v := ?_) (by simp only [List.getElem?_toArray, List.getElem?_cons_succ, List.getElem?_cons_zero]; rfl) (by kernel_rfl) (by kernel_rfl) (by kernel_rfl) (by intro _ _ _ h; exact h) (Or.inl ⟨by rfl, ?_⟩) (by assumption) ?_
                        rotate_left
                        · (intro W hSw; subst hSw; go_simp; try with_reducible rfl)
                        try simp only [Act.put, List.setIfInBounds_toArray, List.set_cons_zero, List.set_cons_succ]
                        refine wpAnyH_take (i := 4) (v := ?_) (by simp only [List.getElem?_toArray, List.getElem?_cons_succ, List.getElem?_cons_zero]; rfl) (by kernel_rfl) (by kernel_rfl) (by kernel_rfl) (by intro _ _ _ h; exact h) (Or.inl ⟨by rfl, ?_⟩) (by assumption) ?_
                        rotate_left
                        · (intro W hSw; subst hSw; go_simp; try with_reducible rfl)
                        try simp only [Act.put, List.setIfInBounds_toArray, List.set_cons_zero, List.set_cons_succ]
                        refine wpAnyH_take (i := 5) (v := ?_) (by simp only [List.getElem?_toArray, List.getElem?_cons_succ, List.getElem?_cons_zero]; rfl) (by kernel_rfl) (by kernel_rfl) (by kernel_rfl) (by intro _ _ _ h; exact h) (Or.inl ⟨by rfl, ?_⟩) (by assumption) ?_
                        rotate_left
                        · (intro W hSw; subst hSw; go_simp; try with_reducible rfl)
                        try simp only [Act.put, List.setIfInBounds_toArray, List.set_cons_zero, List.set_cons_succ]
                        refine wpAnyH_take (i := 6) (v := ?_) (by simp only [List.getElem?_toArray, List.getElem?_cons_succ, List.getElem?_cons_zero]; rfl) (by kernel_rfl) (by kernel_rfl) (by kernel_rfl) (by intro _ _ _ h; exact h) (Or.inl ⟨by rfl, ?_⟩) (by assumption) ?_
                        rotate_left
                        · (intro W hSw; subst hSw; go_simp; try with_reducible rfl)
                        try simp only [Act.put, List.setIfInBounds_toArray, List.set_cons_zero, List.set_cons_succ]
                        refine wpAnyH_take (i := 7) (v := ?_) (by simp only [List.getElem?_toArray, List.getElem?_cons_succ, List.getElem?_cons_zero]; rfl) (by kernel_rfl) (by kernel_rfl) (by kernel_rfl) (by intro _ _ _ h; exact h) (Or.inl ⟨by rfl, ?_⟩) (by assumption) ?_
                        rotate_left
                        · (intro W hSw; subst hSw; go_simp; try with_reducible rfl)
                        try simp only [Act.put, List.setIfInBounds_toArray, List.set_cons_zero, List.set_cons_succ]
                        refine wpAnyH_take (i := 8) (v := ?_) (by simp only [List.getElem?_toArray, List.getElem?_cons_succ, List.getElem?_cons_zero]; rfl) (by kernel_rfl) (by kernel_rfl) (by kernel_rfl) (by intro _ _ _ h; exact h) (Or.inl ⟨by rfl, ?_⟩) (by assumption) ?_
                        rotate_left
                        · (intro W hSw; subst hSw; go_simp; try with_reducible rfl)
                        try simp only [Act.put, List.setIfInBounds_toArray, List.set_cons_zero, List.set_cons_succ]
                        refine wpAnyH_take (i := 9) (v := ?_) (by simp only [List.getElem?_toArray, List.getElem?_cons_succ, List.getElem?_cons_zero]; rfl) (by kernel_rfl) (by kernel_rfl) (by kernel_rfl) (by intro _ _ _ h; exact h) (Or.inl ⟨by rfl, ?_⟩) (by assumption) ?_
                        rotate_left
                        · (intro W hSw; subst hSw; go_simp; try with_reducible rfl)
                        try simp only [Act.put, List.setIfInBounds_toArray, List.set_cons_zero, List.set_cons_succ]
                        refine wpAnyH_take (i := 10) (v := ?_) (by simp only [List.getElem?_toArray, List.getElem?_cons_succ, List.getElem?_cons_zero]; rfl) (by kernel_rfl) (by kernel_rfl) (by kernel_rfl) (by intro _ _ _ h; exact h) (Or.inl ⟨by rfl, ?_⟩) (by assumption) ?_
                        rotate_left
                        · (intro W hSw; subst hSw; go_simp; try with_reducible rfl)
                        try simp only [Act.put, List.setIfInBounds_toArray, List.set_cons_zero, List.set_cons_succ]
                        refine wpAnyH_take (i := 11) (v := ?_) (by simp only [List.getElem?_toArray, List.getElem?_cons_succ, List.getElem?_cons_zero]; rfl) (by kernel_rfl) (by kernel_rfl) (by kernel_rfl) (by intro _ _ _ h; exact h) (Or.inl ⟨by rfl, ?_⟩) (by assumption) ?_
                        rotate_left
                        · (intro W hSw; subst hSw; go_simp; try with_reducible rfl)
                        try simp only [Act.put, List.setIfInBounds_toArray, List.set_cons_zero, List.set_cons_succ]
                        refine wpAnyH_take (i := 12) (v := ?_) (by simp only [List.getElem?_toArray, List.getElem?_cons_succ, List.getElem?_cons_zero]; rfl) (by kernel_rfl) (by kernel_rfl) (by kernel_rfl) (by intro _ _ _ h; exact h) (Or.inl ⟨by rfl, ?_⟩) (by assumption) ?_
                        rotate_left
                        · (intro W hSw; subst hSw; go_simp; try with_reducible rfl)
                        try simp only [Act.put, List.setIfInBounds_toArray, List.set_cons_zero, List.set_cons_succ]
                        refine wpAnyH_take (i := 13) (v := ?_) (by simp only [List.getElem?_toArray, List.getElem?_cons_succ, List.getElem?_cons_zero]; rfl) (by kernel_rfl) (by kernel_rfl) (by kernel_rfl) (by intro _ _ _ h; exact h) (Or.inl ⟨by rfl, ?_⟩) (by assumption) ?_
                        rotate_left
                        · (intro W hSw; subst hSw; go_simp; try with_reducible rfl)
                        try simp only [Act.put, List.setIfInBounds_toArray, List.set_cons_zero, List.set_cons_succ]
                        refine wpAnyH_take (i := 14) (v := ?_) (by simp only [List.getElem?_toArray, List.getElem?_cons_succ, List.getElem?_cons_zero]; rfl) (by kernel_rfl) (by kernel_rfl) (by kernel_rfl) (by intro _ _ _ h; exact h) (Or.inl ⟨by rfl, ?_⟩) (by assumption) ?_
                        rotate_left
                        · (intro W hSw; subst hSw; go_simp; try with_reducible rfl)
                        try simp only [Act.put, List.setIfInBounds_toArray, List.set_cons_zero, List.set_cons_succ]
                        refine wpAnyH_take (i := 15) (v := ?_) (by simp only [List.getElem?_toArray, List.getElem?_cons_succ, List.getElem?_cons_zero]; rfl) (by kernel_rfl) (by kernel_rfl) (by kernel_rfl) (by intro _ _ _ h; exact h) (Or.inl ⟨by rfl, ?_⟩) (by assumption) ?_
                        rotate_left
                        · (intro W hSw; subst hSw; go_simp; try with_reducible rfl)
                        try simp only [Act.put, List.setIfInBounds_toArray, List.set_cons_zero, List.set_cons_succ]
                        refine wpAnyH_take (i := 16) (v := ?_) (by simp only [List.getElem?_toArray, List.getElem?_cons_succ, List.getElem?_cons_zero]; rfl) (by kernel_rfl) (by kernel_rfl) (by kernel_rfl) (by intro _ _ _ h; exact h) (Or.inl ⟨by rfl, ?_⟩) (by assumption) ?_
                        rotate_left
                        · (intro W hSw; subst hSw; go_simp; try with_reducible rfl)
                        try simp only [Act.put, List.setIfInBounds_toArray, List.set_cons_zero, List.set_cons_succ]
                        refine wpAnyH_take (i := 17) (v := ?_) (by simp only [List.getElem?_toArray, List.getElem?_cons_succ, List.getElem?_cons_zero]; rfl) (by kernel_rfl) (by kernel_rfl) (by kernel_rfl) (by intro _ _ _ h; exact h) (Or.inl ⟨by rfl, ?_⟩) (by assumption) ?_
                        rotate_left
                        · (intro W hSw; subst hSw; go_simp; try with_reducible rfl)
                        try simp only [Act.put, List.setIfInBounds_toArray, List.set_cons_zero, List.set_cons_succ]
                        refine wpAnyH_take (i := 18) (v := ?_) (by simp only [List.getElem?_toArray, List.getElem?_cons_succ, List.getElem?_cons_zero]; rfl) (by kernel_rfl) (by kernel_rfl) (by kernel_rfl) (by intro _ _ _ h; exact h) (Or.inl ⟨by rfl, ?_⟩) (by assumption) ?_
                        rotate_left
                        · (intro W hSw; subst hSw; go_simp; try with_reducible rfl)
                        try simp only [Act.put, List.setIfInBounds_toArray, List.set_cons_zero, List.set_cons_succ]
                        refine wpAnyH_take (i := 19) (v := ?_) (by simp only [List.getElem?_toArray, List.getElem?_cons_succ, List.getElem?_cons_zero]; rfl) (by kernel_rfl) (by kernel_rfl) (by kernel_rfl) (by intro _ _ _ h; exact h) (Or.inl ⟨by rfl, ?_⟩) (by assumption) ?_
                        rotate_left
                        · (intro W hSw; subst hSw; go_simp; try with_reducible rfl)
                        try simp only [Act.put, List.setIfInBounds_toArray, List.set_cons_zero, List.set_cons_succ]
                        refine wpAnyH_take (i := 20) (v := ?_) (by simp only [List.getElem?_toArray, List.getElem?_cons_succ, List.getElem?_cons_zero]; rfl) (by kernel_rfl) (by kernel_rfl) (by kernel_rfl) (by intro _ _ _ h; exact h) (Or.inl ⟨by rfl, ?_⟩) (by assumption) ?_
                        rotate_left
                        · (intro W hSw; subst hSw; go_simp; try with_reducible rfl)
                        try simp only [Act.put, List.setIfInBounds_toArray, List.set_cons_zero, List.set_cons_succ]
                        refine wpAnyH_take (i := 21) (v := ?_) (by simp only [List.getElem?_toArray, List.getElem?_cons_succ, List.getElem?_cons_zero]; rfl) (by kernel_rfl) (by kernel_rfl) (by kernel_rfl) (by intro _ _ _ h; exact h) (Or.inl ⟨by rfl, ?_⟩) (by assumption) ?_
                        rotate_left
                        · (intro W hSw; subst hSw; go_simp; try with_reducible rfl)
                        try simp only [Act.put, List.setIfInBounds_toArray, List.set_cons_zero, List.set_cons_succ]
                        refine wpAnyH_take (i := 22) (v := ?_) (by simp only [List.getElem?_toArray, List.getElem?_cons_succ, List.getElem?_cons_zero]; rfl) (by kernel_rfl) (by kernel_rfl) (by kernel_rfl) (by intro _ _ _ h; exact h) (Or.inl ⟨by rfl, ?_⟩) (by assumption) ?_
                        rotate_left
                        · (intro W hSw; subst hSw; go_simp; try with_reducible rfl)
                        try simp only [Act.put, List.setIfInBounds_toArray, List.set_cons_zero, List.set_cons_succ]
                        refine wpAnyH_take (i := 23) (v := ?_) (by simp only [List.getElem?_toArray, List.getElem?_cons_succ, List.getElem?_cons_zero]; rfl) (by kernel_rfl) (by kernel_rfl) (by kernel_rfl) (by intro _ _ _ h; exact h) (Or.inl ⟨by rfl, ?_⟩) (by assumption) ?_
                        rotate_left
                        · (intro W hSw; subst hSw; go_simp; try with_reducible rfl)
                        try simp only [Act.put, List.setIfInBounds_toArray, List.set_cons_zero, List.set_cons_succ]
                        refine wpAnyH_ready (rs := [24]) (by kernel_rfl) (by simp) ?_
                        refine AllReadyH.cons (by simp only [List.getElem?_toArray, List.getElem?_cons_succ, List.getElem?_cons_zero]; rfl) (fun K hK => ?_) AllReadyH.nil
                        go_simp
                        with_reducible refine (lcut_m nn _).mono ?_
                        rintro e W9 ⟨rfl, rfl⟩
                        refine hK.out _ _ rfl (fun hHeld => ?_)
                        clear hK K
                        try simp only [Act.put, List.setIfInBounds_toArray, List.set_cons_zero, List.set_cons_succ]
                        refine wpAnyH_take (i := 25) (v := ?_) (by simp only [List.getElem?_toArray, List.getElem?_cons_succ, List.getElem?_cons_zero]; rfl) (by kernel_rfl) (by kernel_rfl) (by kernel_rfl) (by intro _ _ _ h; exact h) (Or.inl ⟨by rfl, ?_⟩) (by assumption) ?_
                        rotate_left
                        · (intro W hSw; subst hSw; go_simp; try with_reducible rfl)
                        try simp only [Act.put, List.setIfInBounds_toArray, List.set_cons_zero, List.set_cons_succ]
                        refine wpAnyH_take (i := 26) (v := ?_) (by simp only [List.getElem?_toArray, List.getElem?_cons_succ, List.getElem?_cons_zero]; rfl) (by kernel_rfl) (by kernel_rfl) (by kernel_rfl) (by intro _ _ _ h; exact h) (Or.inl ⟨by rfl, ?_⟩) (by assumption) ?_
                        rotate_left
                        · (intro W hSw; subst hSw; go_simp; try with_reducible rfl)
                        try simp only [Act.put, List.setIfInBounds_toArray, List.set_cons_zero, List.set_cons_succ]
                        refine wpAnyH_done (by kernel_rfl) ?_ _
                        have HB9 := Lib.hid HB.out.drew
                        go_wp2_with fail
                        go_roundw
                        case rel => exact ⟨k + 1, by omega, by go_num, HB9⟩
                        case measure => simp [intOf]; omega
                      · have hltI : ¬ (k : Int) < 10 := by omega
                        have HF := Lib.hid (HX.out.trans (HB.out.mono HX.out.size))
                        go_wp2_with fail
                        go_ret
                        exact ⟨rfl, HF.out⟩
              · first
                | (exfalso; omega)
                | skip
                  rcases hou with ⟨h50, rfl⟩ | ⟨h50, rfl⟩
                  all_goals
                    go_wp2_with fail
                    go_loopw [14] (fun i wk => ∃ k : Nat, k ≤ kk ∧ i = .int .i64 (k : Int) ∧ Hid (Below wX.heap.size wX wk)) (fun i _ => kk - (intOf i).toNat)
                    case atStart => exact ⟨0, Nat.zero_le _, rfl, Lib.hid (Below.refl _ _)⟩
                    case round =>
                      as_aux_lemma =>
                        obtain ⟨k, hk, rfl, HB⟩ := hrel
                        by_cases hlt : k < kk
                        · have hltI : (k : Int) < (kk : Int) := by omega
                          have hkl : (k : Int) < (l.length : Int) := by omega
                          obtain ⟨gm, b, off, tt, nn, rfl, rfl, m0, m1, l0, l1⟩ := HC.out k hlt
                          have y0 := (HB.out.cell (p := ⟨gm, k * 2, none⟩) (World.block_lt_of_cell? wX _ m0)).trans m0
                          have y1 := (HB.out.cell (p := ⟨gm, k * 2 + 1, none⟩) (World.block_lt_of_cell? wX _ m1)).trans m1
                          have y2 := (HB.out.cell (p := ⟨b, off + k * 2, none⟩) (World.block_lt_of_cell? wX _ l0)).trans l0
                          have y3 := (HB.out.cell (p := ⟨b, off + k * 2 + 1, none⟩) (World.block_lt_of_cell? wX _ l1)).trans l1
                          have y4 := (HB.out.cell (p := ⟨w5.heap.size, 4, none⟩) (World.block_lt_of_cell? wX _ x4)).trans x4
                          have z0 := World.block_lt_of_cell? wr _ y0
                          have z2 := World.block_lt_of_cell? wr _ y2
                          have z4 := World.block_lt_of_cell? wr _ y4
                          clear m0 m1 l0 l1 x0 x1 x2 x3 x4 x5
                          go_upto_region 31 with fail
                          refine wp_region_held_drew (S := fun w' => w' = wr.drew) (by kernel_rfl) rfl ?_
                          intro hHeld
                          refine wpAnyH_take (i := 0) (v := ?_) (by simp only [List.getElem?_toArray, List.getElem?_cons_zero]; rfl) (by kernel_rfl) (by kernel_rfl) (by kernel_rfl) (by intro _ _ _ h; exact h) (Or.inl ⟨by rfl, ?_⟩) (by assumption) ?_
                          rotate_left
                          · (intro W hSw; subst hSw; go_simp; try with_reducible rfl)
                          try simp only [Act.put, List.setIfInBounds_toArray, List.set_cons_zero, List.set_cons_succ]
                          refine wpAnyH_take (i := 1) (v := ?_) (by simp only [List.getElem?_toArray, List.getElem?_cons_succ, List.getElem?_cons_zero]; rfl) (by kernel_rfl) (by kernel_rfl) (by kernel_rfl) (by intro _ _ _ h; exact h) (Or.inl ⟨by rfl, ?_⟩) (by assumption) ?_
                          rotate_left
                          · (intro W hSw; subst hSw; go_simp; try with_reducible rfl)
                          try simp only [Act.put, List.setIfInBounds_toArray, List.set_cons_zero, List.set_cons_succ]
                          refine wpAnyH_take (i := 2) (v := ?_) (by simp only [List.getElem?_toArray, List.getElem?_cons_succ, List.getElem?_cons_zero]; rfl) (by kernel_rfl) (by kernel_rfl) (by kernel_rfl) (by intro _ _ _ h; exact h) (Or.inl ⟨by rfl, ?_⟩) (by assumption) ?_
                          rotate_left
                          · (intro W hSw; subst hSw; go_simp; try with_reducible rfl)
                          try simp only [Act.put, List.setIfInBounds_toArray, List.set_cons_zero, List.set_cons_succ]
                          refine wpAnyH_take (i := 3) (v := ?_) (by simp only [List.getElem?_toArray, List.getElem?_cons_succ, List.getElem?_cons_zero]; rfl) (by kernel_rfl) (by kernel_rfl) (by kernel_rfl) (by intro _ _ _ h; exact h) (Or.inl ⟨by rfl, ?_⟩) (by assumption) ?_
                          rotate_left
                          · (intro W hSw; subst hSw; go_simp; try with_reducible rfl)
                          try simp only [Act.put, List.setIfInBounds_toArray, List.set_cons_zero, List.set_cons_succ]
                          refine wpAnyH_take (i := 4) (v := ?_) (by simp only [List.getElem?_toArray, List.getElem?_cons_succ, List.getElem?_cons_zero]; rfl) (by kernel_rfl) (by kernel_rfl) (by kernel_rfl) (by intro _ _ _ h; exact h) (Or.inl ⟨by rfl, ?_⟩) (by assumption) ?_
                          rotate_left
                          · (intro W hSw; subst hSw; go_simp; try with_reducible rfl)
                          try simp only [Act.put, List.setIfInBounds_toArray, List.set_cons_zero, List.set_cons_succ]
                          refine wpAnyH_take (i := 5) (v := ?_) (by simp only [List.getElem?_toArray, List.getElem?_cons_succ, List.getElem?_cons_zero]; rfl) (by kernel_rfl) (by kernel_rfl) (by kernel_rfl) (by intro _ _ _ h; exact h) (Or.inl ⟨by rfl, ?_⟩) (by assumption) ?_
                          rotate_left
                          · (intro W hSw; subst hSw; go_simp; try with_reducible rfl)
                          try simp only [Act.put, List.setIfInBounds_toArray, List.set_cons_zero, List.set_cons_succ]
                          refine wpAnyH_take (i := 6) (v := ?_) (by simp only [List.getElem?_toArray, List.getElem?_cons_succ, List.getElem?_cons_zero]; rfl) (by kernel_rfl) (by kernel_rfl) (by kernel_rfl) (by intro _ _ _ h; exact h) (Or.inl ⟨by rfl, ?_⟩) (by assumption) ?_
                          rotate_left
                          · (intro W hSw; subst hSw; go_simp; try with_reducible rfl)
                          try simp only [Act.put, List.setIfInBounds_toArray, List.set_cons_zero, List.set_cons_succ]
                          refine wpAnyH_take (i := 7) (v := ?_) (by simp only [List.getElem?_toArray, List.getElem?_cons_succ, List.getElem?_cons_zero]; rfl) (by kernel_rfl) (by kernel_rfl) (by kernel_rfl) (by intro _ _ _ h; exact h) (Or.inl ⟨by rfl, ?_⟩) (by assumption) ?_
                          rotate_left
                          · (intro W hSw; subst hSw; go_simp; try with_reducible rfl)
                          try simp only [Act.put, List.setIfInBounds_toArray, List.set_cons_zero, List.set_cons_succ]
                          refine wpAnyH_take (i := 8) (v := ?_) (by simp only [List.getElem?_toArray, List.getElem?_cons_succ, List.getElem?_cons_zero]; rfl) (by kernel_rfl) (by kernel_rfl) (by kernel_rfl) (by intro _ _ _ h; exact h) (Or.inl ⟨by rfl, ?_⟩) (by assumption) ?_
                          rotate_left
                          · (intro W hSw; subst hSw; go_simp; try with_reducible rfl)
                          try simp only [Act.put, List.setIfInBounds_toArray, List.set_cons_zero, List.set_cons_succ]
                          refine wpAnyH_take (i := 9) (v := ?_) (by simp only [List.getElem?_toArray, List.getElem?_cons_succ, List.getElem?_cons_zero]; rfl) (by kernel_rfl) (by kernel_rfl) (by kernel_rfl) (by intro _ _ _ h; exact h) (Or.inl ⟨by rfl, ?_⟩) (by assumption) ?_
                          rotate_left
                          · (intro W hSw; subst hSw; go_simp; try with_reducible rfl)
                          try simp only [Act.put, List.setIfInBounds_toArray, List.set_cons_zero, List.set_cons_succ]
                          refine wpAnyH_take (i := 10) (v := ?_) (by simp only [List.getElem?_toArray, List.getElem?_cons_succ, List.getElem?_cons_zero]; rfl) (by kernel_rfl) (by kernel_rfl) (by kernel_rfl) (by intro _ _ _ h; exact h) (Or.inl ⟨by rfl, ?_⟩) (by assumption) ?_
                          rotate_left
                          · (intro W hSw; subst hSw; go_simp; try with_reducible rfl)
                          try simp only [Act.put, List.setIfInBounds_toArray, List.set_cons_zero, List.set_cons_succ]
                          refine wpAnyH_take (i := 11) (v := ?_) (by simp only [List.getElem?_toArray, List.getElem?_cons_succ, List.getElem?_cons_zero]; rfl) (by kernel_rfl) (by kernel_rfl) (by kernel_rfl) (by intro _ _ _ h; exact h) (Or.inl ⟨by rfl, ?_⟩) (by assumption) ?_
                          rotate_left
                          · (intro W hSw; subst hSw; go_simp; try with_reducible rfl)
                          try simp only [Act.put, List.setIfInBounds_toArray, List.set_cons_zero, List.set_cons_succ]
                          refine wpAnyH_take (i := 12) (v := ?_) (by simp only [List.getElem?_toArray, List.getElem?_cons_succ, List.getElem?_cons_zero]; rfl) (by kernel_rfl) (by kernel_rfl) (by kernel_rfl) (by intro _ _ _ h; exact h) (Or.inl ⟨by rfl, ?_⟩) (by assumption) ?_
                          rotate_left
                          · (intro W hSw; subst hSw; go_simp; try with_reducible rfl)
                          try simp only [Act.put, List.setIfInBounds_toArray, List.set_cons_zero, List.set_cons_succ]
                          refine wpAnyH_take (i := 13) (v := ?_) (by simp only [List.getElem?_toArray, List.getElem?_cons_succ, List.getElem?_cons_zero]; rfl) (by kernel_rfl) (by kernel_rfl) (by kernel_rfl) (by intro _ _ _ h; exact h) (Or.inl ⟨by rfl, ?_⟩) (by assumption) ?_
                          rotate_left
                          · (intro W hSw; subst hSw; go_simp; try with_reducible rfl)
                          try simp only [Act.put, List.setIfInBounds_toArray, List.set_cons_zero, List.set_cons_succ]
                          refine wpAnyH_take (i := 14) (v := ?_) (by simp only [List.getElem?_toArray, List.getElem?_cons_succ, List.getElem?_cons_zero]; rfl) (by kernel_rfl) (by kernel_rfl) (by kernel_rfl) (by intro _ _ _ h; exact h) (Or.inl ⟨by rfl, ?_⟩) (by assumption) ?_
                          rotate_left
                          · (intro W hSw; subst hSw; go_simp; try with_reducible rfl)
                          try simp only [Act.put, List.setIfInBounds_toArray, List.set_cons_zero, List.set_cons_succ]
                          refine wpAnyH_take (i := 15) (v := ?_) (by simp only [List.getElem?_toArray, List.getElem?_cons_succ, List.getElem?_cons_zero]; rfl) (by kernel_rfl) (by kernel_rfl) (by kernel_rfl) (by intro _ _ _ h; exact h) (Or.inl ⟨by rfl, ?_⟩) (by assumption) ?_
                          rotate_left
                          · (intro W hSw; subst hSw; go_simp; try with_reducible rfl)
                          try simp only [Act.put, List.setIfInBounds_toArray, List.set_cons_zero, List.set_cons_succ]
                          refine wpAnyH_take (i := 16) (v := ?_) (by simp only [List.getElem?_toArray, List.getElem?_cons_succ, List.getElem?_cons_zero]; rfl) (by kernel_rfl) (by kernel_rfl) (by kernel_rfl) (by intro _ _ _ h; exact h) (Or.inl ⟨by rfl, ?_⟩) (by assumption) ?_
                          rotate_left
                          · (intro W hSw; subst hSw; go_simp; try with_reducible rfl)
                          try simp only [Act.put, List.setIfInBounds_toArray, List.set_cons_zero, List.set_cons_succ]
                          refine wpAnyH_take (i := 17) (v := ?_) (by simp only [List.getElem?_toArray, List.getElem?_cons_succ, List.getElem?_cons_zero]; rfl) (by kernel_rfl) (by kernel_rfl) (by kernel_rfl) (by intro _ _ _ h; exact h) (Or.inl ⟨by rfl, ?_⟩) (by assumption) ?_
                          rotate_left
                          · (intro W hSw; subst hSw; go_simp; try with_reducible rfl)
                          try simp only [Act.put, List.setIfInBounds_toArray, List.set_cons_zero, List.set_cons_succ]
                          refine wpAnyH_take (i := 18) (v := ?_) (by simp only [List.getElem?_toArray, List.getElem?_cons_succ, List.getElem?_cons_zero]; rfl) (by kernel_rfl) (by kernel_rfl) (by kernel_rfl) (by intro _ _ _ h; exact h) (Or.inl ⟨by rfl, ?_⟩) (by assumption) ?_
                          rotate_left
                          · (intro W hSw; subst hSw; go_simp; try with_reducible rfl)
                          try simp only [Act.put, List.setIfInBounds_toArray, List.set_cons_zero, List.set_cons_succ]
                          refine wpAnyH_take (i := 19) (v := ?_) (by simp only [List.getElem?_toArray, List.getElem?_cons_succ, List.getElem?_cons_zero]; rfl) (by kernel_rfl) (by kernel_rfl) (by kernel_rfl) (by intro _ _ _ h; exact h) (Or.inl ⟨by rfl, ?_⟩) (by assumption) ?_
                          rotate_left
                          · (intro W hSw; subst hSw; go_simp; try with_reducible rfl)
                          try simp only [Act.put, List.setIfInBounds_toArray, List.set_cons_zero, List.set_cons_succ]
                          refine wpAnyH_take (i := 20) (v := ?_) (by simp only [List.getElem?_toArray, List.getElem?_cons_succ, List.getElem?_cons_zero]; rfl) (by kernel_rfl) (by kernel_rfl) (by kernel_rfl) (by intro _ _ _ h; exact h) (Or.inl ⟨by rfl, ?_⟩) (by assumption) ?_
                          rotate_left
                          · (intro W hSw; subst hSw; go_simp; try with_reducible rfl)
                          try simp only [Act.put, List.setIfInBounds_toArray, List.set_cons_zero, List.set_cons_succ]
                          refine wpAnyH_take (i := 21) (v := ?_) (by simp only [List.getElem?_toArray, List.getElem?_cons_succ, List.getElem?_cons_zero]; rfl) (by kernel_rfl) (by kernel_rfl) (by kernel_rfl) (by intro _ _ _ h; exact h) (Or.inl ⟨by rfl, ?_⟩) (by assumption) ?_
                          rotate_left
                          · (intro W hSw; subst hSw; go_simp; try with_reducible rfl)
                          try simp only [Act.put, List.setIfInBounds_toArray, List.set_cons_zero, List.set_cons_succ]
                          refine wpAnyH_take (i := 22) (v := ?_) (by simp only [List.getElem?_toArray, List.getElem?_cons_succ, List.getElem?_cons_zero]; rfl) (by kernel_rfl) (by kernel_rfl) (by kernel_rfl) (by intro _ _ _ h; exact h) (Or.inl ⟨by rfl, ?_⟩) (by assumption) ?_
                          rotate_left
                          · (intro W hSw; subst hSw; go_simp; try with_reducible rfl)
                          try simp only [Act.put, List.setIfInBounds_toArray, List.set_cons_zero, List.set_cons_succ]
                          refine wpAnyH_take (i := 23) (v := ?_) (by simp only [List.getElem?_toArray, List.getElem?_cons_succ, List.getElem?_cons_zero]; rfl) (by kernel_rfl) (by kernel_rfl) (by kernel_rfl) (by intro _ _ _ h; exact h) (Or.inl ⟨by rfl, ?_⟩) (by assumption) ?_
                          rotate_left
                          · (intro W hSw; subst hSw; go_simp; try with_reducible rfl)
                          try simp only [Act.put, List.setIfInBounds_toArray, List.set_cons_zero, List.set_cons_succ]
                          refine wpAnyH_ready (rs := [24]) (by kernel_rfl) (by simp) ?_
                          refine AllReadyH.cons (by simp only [List.getElem?_toArray, List.getElem?_cons_succ, List.getElem?_cons_zero]; rfl) (fun K hK => ?_) AllReadyH.nil
                          go_simp
                          with_reducible refine (lcut_m nn _).mono ?_
                          rintro e W9 ⟨rfl, rfl⟩
                          refine hK.out _ _ rfl (fun hHeld => ?_)
                          clear hK K
                          try simp only [Act.put, List.setIfInBounds_toArray, List.set_cons_zero, List.set_cons_succ]
                          refine wpAnyH_take (i := 25) (v := ?_) (by simp only [List.getElem?_toArray, List.getElem?_cons_succ, List.getElem?_cons_zero]; rfl) (by kernel_rfl) (by kernel_rfl) (by kernel_rfl) (by intro _ _ _ h; exact h) (Or.inl ⟨by rfl, ?_⟩) (by assumption) ?_
                          rotate_left
                          · (intro W hSw; subst hSw; go_simp; try with_reducible rfl)
                          try simp only [Act.put, List.setIfInBounds_toArray, List.set_cons_zero, List.set_cons_succ]
                          refine wpAnyH_take (i := 26) (v := ?_) (by simp only [List.getElem?_toArray, List.getElem?_cons_succ, List.getElem?_cons_zero]; rfl) (by kernel_rfl) (by kernel_rfl) (by kernel_rfl) (by intro _ _ _ h; exact h) (Or.inl ⟨by rfl, ?_⟩) (by assumption) ?_
                          rotate_left
                          · (intro W hSw; subst hSw; go_simp; try with_reducible rfl)
                          try simp only [Act.put, List.setIfInBounds_toArray, List.set_cons_zero, List.set_cons_succ]
                          refine wpAnyH_done (by kernel_rfl) ?_ _
                          have HB9 := Lib.hid HB.out.drew
                          go_wp2_with fail
                          go_roundw
                          case rel => exact ⟨k + 1, by omega, by go_num, HB9⟩
                          case measure => simp [intOf]; omega
                        · obtain rfl : k = kk := by omega
                          have hltI : ¬ (k : Int) < (k : Int) := by omega
                          have y0 := (HB.out.cell (p := ⟨w5.heap.size, 0, none⟩) (World.block_lt_of_cell? wX _ x0)).trans x0
                          have y1 := (HB.out.cell (p := ⟨w5.heap.size, 1, none⟩) (World.block_lt_of_cell? wX _ x1)).trans x1
                          have y2 := (HB.out.cell (p := ⟨w5.heap.size, 2, none⟩) (World.block_lt_of_cell? wX _ x2)).trans x2
                          have y3 := (HB.out.cell (p := ⟨w5.heap.size, 3, none⟩) (World.block_lt_of_cell? wX _ x3)).trans x3
                          have y4 := (HB.out.cell (p := ⟨w5.heap.size, 4, none⟩) (World.block_lt_of_cell? wX _ x4)).trans x4
                          have y5 := (HB.out.cell (p := ⟨w5.heap.size, 5, none⟩) (World.block_lt_of_cell? wX _ x5)).trans x5
                          have z5 := World.block_lt_of_cell? wr _ y5
                          clear x0 x1 x2 x3 x4 x5
                          have HF := Lib.hid (HX.out.trans (HB.out.mono HX.out.size))
                          go_wp2_with fail
                          go_ret
                          exact ⟨rfl, HF.out⟩
end Go.Proofs.YtpmbdncackneoaaDoor
