/- The law of what is laid: what has been laid is what the reference lays. -/
import Derived.Test.YtjmfgpklemhomaaOpenP
import Derived.Test.YtjmfgpklemhomaaOctI
import Derived.Test.YtjmfgpklemhomaaOctJ
import Derived.Test.YtjmfgpklemhomaaOctP
import Derived.Maps.AppendAt
namespace Go.Proofs.Ytjmfgpklemhomaa
open Go.RowKit OctM

/-- A number with its sign. -/
def sgn (n : Int) : Int := wrap64 n
theorem sgn_le (n : Int) : -9223372036854775808 ≤ sgn n ∧ sgn n ≤ 9223372036854775807 := by unfold sgn wrap64; omega
/-- The bytes of a thing. -/
def encP (p : Put) : List UInt8 := if p.k % 4 = 0 then enc p.n.toNat else if p.k % 4 = 1 then enc (zig (sgn p.n)) else encB p.l

theorem encP_le (p : Put) (h : p.l.length ≤ 5000) (h0 : 0 ≤ p.n) (h1 : p.n ≤ 18446744073709551615) : (encP p).length ≤ 5009 := by
  unfold encP
  have a := nd_le p.n.toNat
  have b := nd_le (zig (sgn p.n))
  have c := encB_length p.l
  split
  · rw [enc_length]; omega
  · split
    · rw [enc_length]; omega
    · omega

/-- An append, and where it lies. -/
theorem append_at {w : World} {base : Nat} {v s : Value} {l k : List UInt8} (hown : Own w base v l) (hs : Rd w s k) (hb : l.length + k.length ≤ 140737488355328) (hbase : base ≤ w.heap.size) (ty : TypeId) :
    ∃ v' w', (Builtin.append_ #[25, 25] ty #[v, s]).run Try.prog w = .ok v' w' ∧ Own w' base v' (l ++ k) ∧ w.grownBy w' v.ownBlock ∧ (v'.ownBlock = v.ownBlock ∨ v'.ownBlock = some w.heap.size) := by
  obtain ⟨i0, hi0, hz0, hz1, hz2⟩ := info_parts u8info
  rcases hs with ⟨rfl, rfl⟩ | ⟨a, c, rfl, hn, hm, hc⟩
  · exact ⟨v, w, run_append_owned_none (P := Try.prog) (w := w) base 25 ty 5 i0 1 Try.underlying25 hi0 _ _ _ hown, by simpa [Own] using hown, World.grownBy.refl w _, .inl rfl⟩
  · obtain ⟨v', w', hr, h2, h3, _, h5⟩ := run_append_own_at (P := Try.prog) w base 25 ty 5 i0 (.int .u8 0) 1 1 Try.underlying25 hi0 hz0 hz1 hz2 rfl (by decide) v l.length (Bs l) hown a k.length c (Bs k)
      (by rw [Bs_length, Nat.mul_one]) (fun j u hj => by
        obtain ⟨b, hb, rfl⟩ : ∃ b, k[j]? = some b ∧ B b = u := by simpa [Bs] using hj
        exact hc j b hb) (Bs_one k) (by unfold maxLen; omega) (by omega) hbase
    refine ⟨v', w', hr, ?_, h3, h5⟩
    unfold Own
    rw [List.length_append, Bs_append]
    exact h2

/-- The writer and what is wanted, side by side. -/
structure WR (w0 wr : World) (bw base : Nat) (v vv : Value) (L : List UInt8) : Prop where
  wat : WAt wr bw base v L
  want : Own wr base vv L
  dis : ∀ g, v.ownBlock = some g → vv.ownBlock ≠ some g
  ne : vv.ownBlock ≠ some bw
  below : Below base w0 wr
  bw : base ≤ bw
  eq : w0.heap.size = base

theorem WR.size {w0 wr : World} {bw base : Nat} {v vv : Value} {L : List UInt8} (h : WR w0 wr bw base v vv L) : base ≤ wr.heap.size := by
  have := h.below.size
  have := h.eq
  omega

/-- All that a writer's call may have written lies above base. -/
theorem WR.above {w0 wr wA : World} {bw base : Nat} {v vv : Value} {L : List UInt8} (h : WR w0 wr bw base v vv L) (hk : Kept (two bw v) wr wA) : Below base w0 wA :=
  h.below.trans (hk.below h.size (by
    rintro k (rfl | hk)
    · exact h.bw
    · exact (h.wat.own.lt k hk).1))

theorem WR.mid {w0 wr wA wB : World} {bw base : Nat} {v vv : Value} {L E : List UInt8} {e : Ending} (h : WR w0 wr bw base v vv L) (hp : WPost wr wA bw base v (L ++ E) e) (hb : Below wA.heap.size wA wB) : Own wB base vv L :=
  own_below (own_kept h.want hp.kept (fun k hk => by
    rintro (rfl | h2)
    · exact h.ne hk
    · exact h.dis k h2 hk)) hb (Nat.le_refl _)

theorem WR.step {w0 wr wA wB wC : World} {bw base : Nat} {v vv vv2 : Value} {L E : List UInt8} {e : Ending} (h : WR w0 wr bw base v vv L) (hp : WPost wr wA bw base v (L ++ E) e) (hb : Below wA.heap.size wA wB)
    (hown : Own wC base vv2 (L ++ E)) (hg : wB.grownBy wC vv.ownBlock) (hat : vv2.ownBlock = vv.ownBlock ∨ vv2.ownBlock = some wB.heap.size) : ∃ v', WR w0 wC bw base v' vv2 (L ++ E) := by
  obtain ⟨v', hw, hv⟩ := hp.at_
  have s1 := hp.kept.size
  have s2 := hb.size
  have hbw := lt_of_block h.wat.cell
  have hA := h.above hp.kept
  have hwB : WAt wB bw base v' (L ++ E) := hw.below hb
  have hvlt : ∀ k, v'.ownBlock = some k → k < wA.heap.size := fun k hk => (hw.own.lt k hk).2
  have hd : ∀ k, v'.ownBlock = some k → vv.ownBlock ≠ some k := by
    intro k hk hc
    rcases hv with hv | ⟨g, hg1, hg2⟩
    · exact h.dis k (by rw [← hv]; exact hk) hc
    · rw [hk] at hg1
      injection hg1 with hg1
      have := (h.want.lt k hc).2
      omega
  have hkp : Kept (fun k => vv.ownBlock = some k) wB wC := (Kept.refl _ wB).grown hg (fun k hk => .inl hk)
  refine ⟨v', hwB.kept hkp h.ne hd, hown, ?_, ?_, ?_, h.bw, h.eq⟩
  · intro g hg1 hg2
    rcases hat with hat | hat
    · exact hd g hg1 (by rw [← hat]; exact hg2)
    · rw [hat] at hg2
      injection hg2 with hg2
      have := hvlt g hg1
      omega
  · intro hc
    rcases hat with hat | hat
    · exact h.ne (by rw [← hat]; exact hc)
    · rw [hat] at hc
      injection hc with hc
      omega
  · have := h.size
    exact (hA.trans (hb.mono (by omega))).grown hg (by omega) (fun k hk => (h.want.lt k hk).1)

theorem lenB {w : World} {v : Value} {l : List UInt8} (h : Rd w v l) : ∀ W : World, (Builtin.len_ #[25] 3 #[v]).run Try.prog W = .ok (.int .i64 (l.length : Int)) W := by
  obtain ⟨o, c, rfl⟩ : ∃ o c, v = .slice o l.length c := by
    rcases h with ⟨rfl, rfl⟩ | ⟨_, c, rfl, _⟩ <;> exact ⟨_, _, rfl⟩
  intro W
  simp [go_sem]

theorem flat_take (ps : List Put) (k : Nat) (h : k < ps.length) : (ps.take (k + 1)).flatMap encP = (ps.take k).flatMap encP ++ encP ps[k] := by
  rw [List.take_succ_eq_append_getElem h, List.flatMap_append]
  simp

theorem bytesS_encB (l r : List UInt8) (h : l.length ≤ 5000) : bytesS (some (encB l ++ r)) 5000 = (l, some r) := by
  have e : uintS (some (encB l ++ r)) = (l.length, some (l ++ r)) := by
    unfold encB
    rw [List.append_assoc]
    exact uintS_enc _ _ (by omega)
  have e2 : uptoS (some (encB l ++ r)) 5000 = (l.length, some (l ++ r)) := by
    unfold uptoS
    rw [e, if_neg (by dsimp only; omega)]
  unfold bytesS
  rw [e2]
  have := takeS_le (l := l ++ r) (n := l.length) (by simp)
  rw [List.take_left, List.drop_left] at this
  exact this

theorem wrap_is (n : Int) : IntKind.i64.wrap n = wrap64 n := by
  rw [IntKind.wrap_i64]; unfold wrap64; rfl

/-- All are short. -/
def Short (ps : List Put) : Prop := ∀ p ∈ ps, p.l.length ≤ 5000

theorem flat_le (ps : List Put) (h : ∀ p ∈ ps, p.l.length ≤ 5000 ∧ 0 ≤ p.n ∧ p.n ≤ 18446744073709551615) : (ps.flatMap encP).length ≤ ps.length * 5009 := by
  induction ps with
  | nil => simp
  | cons p ps ih =>
    have h1 := ih (fun q hq => h q (by simp [hq]))
    obtain ⟨a, b, c⟩ := h p (by simp)
    have h2 := encP_le p a b c
    rw [List.flatMap_cons, List.length_append, List.length_cons]
    omega

/-- The first loop's relation: so many have been laid, all of them short. -/
structure Laid (ps : List Put) (k : Nat) (L : List UInt8) : Prop where
  flat : L = (ps.take k).flatMap encP
  len : L.length ≤ k * 5009
  short : ∀ p ∈ ps.take k, p.l.length ≤ 5000

theorem Laid.next {ps : List Put} {k : Nat} {L : List UInt8} (h : Laid ps k L) (hk : k < ps.length) (hs : ps[k].l.length ≤ 5000) (h0 : 0 ≤ ps[k].n) (h1 : ps[k].n ≤ 18446744073709551615) : Laid ps (k + 1) (L ++ encP ps[k]) := by
  refine ⟨by rw [flat_take ps k hk, h.flat], ?_, ?_⟩
  · have := h.len
    have := encP_le _ hs h0 h1
    rw [List.length_append]
    omega
  · intro p hp
    rw [List.take_succ_eq_append_getElem hk] at hp
    rcases List.mem_append.1 hp with hp | hp
    · exact h.short p hp
    · obtain rfl := List.mem_singleton.1 hp
      exact hs

set_option maxHeartbeats 4000000 in
set_option maxRecDepth 100000 in
theorem writes_row (b off c : Nat) (ps : List Put) (w : World) (h0 : 0 < ps.length) (hl : ps.length ≤ c) (hm : c ≤ maxLen) (hc : ∀ j p, ps[j]? = some p → PutAt w b (off + j * 3) p) (h60 : ps.length ≤ 60) :
    Calls Try.prog 3 #[.slice (some ⟨b, off, none⟩) ps.length c] w fun e w' => e = .returned (.bool true) ∧ Below w.heap.size w w' := by
  unfold maxLen at hm
  have HC := Lib.hid hc
  have hd60 : decide (60 < (ps.length : Int)) = false := by simp; omega
  clear hc
  go_enter Try.func3, Try.ntmps3
  go_wp2_with fail
  refine (awake w).mono ?_
  rintro e w1 ⟨rfl, hb1⟩
  have HB1 := Lib.hid hb1
  clear hb1
  have start : WR w1 (w1.alloc (.cells #[.slice none 0 0] 27)) w1.heap.size w1.heap.size (.slice none 0 0) (.slice none 0 0) [] :=
    ⟨wnew (heap_alloc_new w1 _) _, World.ownsRow_nil _ _ _ _, by simp [Value.ownBlock], by simp [Value.ownBlock], (Below.refl _ w1).alloc (Nat.le_refl _) _, Nat.le_refl _, rfl⟩
  have ST := Lib.hid start
  clear start
  go_wp2_with fail
  go_loopw [4, 5] (fun q i wr => ∃ (k : Nat) (v vv : Value), k ≤ ps.length ∧ i = .int .i64 k ∧ vv = q ∧ WR w1 wr w1.heap.size w1.heap.size v vv ((ps.take k).flatMap encP) ∧ Hid (Laid ps k ((ps.take k).flatMap encP))) (fun _ i _ => ps.length - (intOf i).toNat)
  case atStart => exact ⟨0, _, _, by omega, rfl, rfl, ST.out, Lib.hid ⟨rfl, by simp, by simp⟩⟩
  case round =>
    clear ST
    obtain ⟨k, v, vv, hk, rfl, rfl, hr, hla⟩ := hrel
    have hsz := hr.size
    by_cases hlt : k < ps.length
    · have hp0 := HC.out k ps[k] (by simp [hlt])
      have hp1 := (hp0.below HB1.out (Nat.le_refl _)).below hr.below (Nat.le_refl _)
      have HLN := Lib.hid (fun (h : ps[k].l.length ≤ 5000) => hla.out.next hlt h hp1.n0 hp1.n1)
      have HL := Lib.hid (flat_take ps k hlt)
      have hll := hla.out.len
      have HEL := Lib.hid (fun (h : ps[k].l.length ≤ 5000) => encP_le ps[k] h hp1.n0 hp1.n1)
      have hlen := lenB hp1.rd
      have c1 := hp1.k
      have c2 := hp1.n
      have c3 := hp1.b
      have k0 := hp1.k0
      have n0 := hp1.n0
      have n1 := hp1.n1
      have HP := Lib.hid hp1
      have HP0 := Lib.hid hp0
      have hR := Lib.hid hr
      clear hp0 hp1 hr
      generalize (ps.take k).flatMap encP = L at *
      generalize ps[k] = p at *
      by_cases h5 : 5000 < p.l.length
      · have BW := Lib.hid (HB1.out.trans (hR.out.below.mono HB1.out.size))
        have hd : decide (5000 < (p.l.length : Int)) = true := by simp; omega
        go_wp2_with fail
        go_ret
        exact ⟨rfl, BW.out⟩
      · have hd : decide (5000 < (p.l.length : Int)) = false := by simp; omega
        have h5' : p.l.length ≤ 5000 := by omega
        have hel := HEL.out h5'
        have LE := Lib.hid (HLN.out h5')
        rw [← HL.out] at LE
        clear HLN HEL
        have hb63 : k * 5009 ≤ 300540 := by omega
        obtain h4 | h4 | h4 | h4 : p.k % 4 = 0 ∨ p.k % 4 = 1 ∨ p.k % 4 = 2 ∨ p.k % 4 = 3 := by omega
        · have HE := Lib.hid (show encP p = enc p.n.toNat by unfold encP; rw [if_pos h4])
          go_wp2_with fail
          refine (wuint w1.heap.size w1.heap.size v L p.n wr n0 n1 hR.out.wat hsz (by omega)).mono ?_
          rintro e wA hpA
          obtain rfl := hpA.ret
          have hA := hR.out.above hpA.kept
          have hpt := HP0.out.below (HB1.out.trans (hA.mono HB1.out.size)) (Nat.le_refl _)
          have d1 := hpt.k
          have d2 := hpt.n
          have d3 := hpt.b
          have HPA := Lib.hid hpA
          have HRD := Lib.hid hpt.rd
          clear hpt hA hpA c1 c2 c3
          go_wp2_with fail
          refine (refuint p.n wA n0 n1).mono ?_
          rintro e wB ⟨r, rfl, hrB, hbB⟩
          have hwant := hR.out.mid HPA.out hbB
          have sA := HPA.out.kept.size
          have sB := hbB.size
          obtain ⟨vv2, wC, hrun, hownC, hgC, hatC⟩ := append_at hwant (Rd.of_own hrB) (by rw [← HE.out]; omega) (by omega) 25
          obtain ⟨v2, fin⟩ := hR.out.step HPA.out hbB hownC hgC hatC
          have HRUN := Lib.hid hrun
          rw [← HE.out, ← HL.out] at fin
          have FIN := Lib.hid fin
          clear fin hrun hownC hgC hatC hwant hrB hbB d1 d2 d3
          go_wp2_with (at_builtin; refine wpList_append_known rfl (.tmp 64) (.tmp 70) 25 25 (by rfl) _ _ _ (by rfl) (by rfl) HRUN.out ?_)
          go_roundw
          case rel => exact ⟨k + 1, v2, _, by omega, by go_num, rfl, FIN.out, LE⟩
          case measure => simp [intOf]; omega
        · have HE := Lib.hid (show encP p = enc (zig (wrap64 p.n)) by unfold encP; rw [if_neg (by omega), if_pos h4]; rfl)
          obtain ⟨g0, g1⟩ := sgn_le p.n
          unfold sgn at g0 g1
          go_wp2_with fail
          refine (wint w1.heap.size w1.heap.size v L (wrap64 p.n) wr g0 g1 hR.out.wat hsz (by omega)).mono ?_
          rintro e wA hpA
          obtain rfl := hpA.ret
          have hA := hR.out.above hpA.kept
          have hpt := HP0.out.below (HB1.out.trans (hA.mono HB1.out.size)) (Nat.le_refl _)
          have d1 := hpt.k
          have d2 := hpt.n
          have d3 := hpt.b
          have HPA := Lib.hid hpA
          have HRD := Lib.hid hpt.rd
          clear hpt hA hpA c1 c2 c3
          go_wp2_with fail
          refine (refint (wrap64 p.n) wA g0 g1).mono ?_
          rintro e wB ⟨r, rfl, hrB, hbB⟩
          have hwant := hR.out.mid HPA.out hbB
          have sA := HPA.out.kept.size
          have sB := hbB.size
          obtain ⟨vv2, wC, hrun, hownC, hgC, hatC⟩ := append_at hwant (Rd.of_own hrB) (by rw [← HE.out]; omega) (by omega) 25
          obtain ⟨v2, fin⟩ := hR.out.step HPA.out hbB hownC hgC hatC
          have HRUN := Lib.hid hrun
          rw [← HE.out, ← HL.out] at fin
          have FIN := Lib.hid fin
          clear fin hrun hownC hgC hatC hwant hrB hbB d1 d2 d3
          go_wp2_with (at_builtin; refine wpList_append_known rfl (.tmp 82) (.tmp 89) 25 25 (by rfl) _ _ _ (by rfl) (by rfl) HRUN.out ?_)
          go_roundw
          case rel => exact ⟨k + 1, v2, _, by omega, by go_num, rfl, FIN.out, LE⟩
          case measure => simp [intOf]; omega
        · have HE := Lib.hid (show encP p = encB p.l by unfold encP; rw [if_neg (by omega), if_neg (by omega)])
          go_wp2_with fail
          refine (wbytes w1.heap.size w1.heap.size v L p.b p.l wr hR.out.wat hsz HP.out.rd (fun w' hk => HP0.out.rd.below ((HB1.out.trans ((hR.out.above hk).mono HB1.out.size)))) (by omega)).mono ?_
          rintro e wA hpA
          obtain rfl := hpA.ret
          have hA := hR.out.above hpA.kept
          have hpt := HP0.out.below (HB1.out.trans (hA.mono HB1.out.size)) (Nat.le_refl _)
          have d1 := hpt.k
          have d2 := hpt.n
          have d3 := hpt.b
          have HPA := Lib.hid hpA
          have HRD := Lib.hid hpt.rd
          clear hpt hA hpA c1 c2 c3
          go_wp2_with fail
          refine (refbytes p.b p.l wA HRD.out (by omega)).mono ?_
          rintro e wB ⟨r, rfl, hrB, hbB⟩
          have hwant := hR.out.mid HPA.out hbB
          have sA := HPA.out.kept.size
          have sB := hbB.size
          obtain ⟨vv2, wC, hrun, hownC, hgC, hatC⟩ := append_at hwant (Rd.of_own hrB) (by rw [← HE.out]; omega) (by omega) 25
          obtain ⟨v2, fin⟩ := hR.out.step HPA.out hbB hownC hgC hatC
          have HRUN := Lib.hid hrun
          rw [← HE.out, ← HL.out] at fin
          have FIN := Lib.hid fin
          clear fin hrun hownC hgC hatC hwant hrB hbB d1 d2 d3
          go_wp2_with (at_builtin; refine wpList_append_known rfl (.tmp 100) (.tmp 106) 25 25 (by rfl) _ _ _ (by rfl) (by rfl) HRUN.out ?_)
          go_roundw
          case rel => exact ⟨k + 1, v2, _, by omega, by go_num, rfl, FIN.out, LE⟩
          case measure => simp [intOf]; omega
        · have HE := Lib.hid (show encP p = encB p.l by unfold encP; rw [if_neg (by omega), if_neg (by omega)])
          have ht := toStr HP.out.rd
          unfold S at ht
          go_wp2_with fail
          refine (wtext w1.heap.size w1.heap.size v L p.l wr hR.out.wat hsz (by omega)).mono ?_
          rintro e wA hpA
          obtain rfl := hpA.ret
          have hA := hR.out.above hpA.kept
          have hpt := HP0.out.below (HB1.out.trans (hA.mono HB1.out.size)) (Nat.le_refl _)
          have d1 := hpt.k
          have d2 := hpt.n
          have d3 := hpt.b
          have HPA := Lib.hid hpA
          have HRD := Lib.hid hpt.rd
          clear hpt hA hpA c1 c2 c3
          go_wp2_with fail
          refine (refbytes p.b p.l wA HRD.out (by omega)).mono ?_
          rintro e wB ⟨r, rfl, hrB, hbB⟩
          have hwant := hR.out.mid HPA.out hbB
          have sA := HPA.out.kept.size
          have sB := hbB.size
          obtain ⟨vv2, wC, hrun, hownC, hgC, hatC⟩ := append_at hwant (Rd.of_own hrB) (by rw [← HE.out]; omega) (by omega) 25
          obtain ⟨v2, fin⟩ := hR.out.step HPA.out hbB hownC hgC hatC
          have HRUN := Lib.hid hrun
          rw [← HE.out, ← HL.out] at fin
          have FIN := Lib.hid fin
          clear fin hrun hownC hgC hatC hwant hrB hbB d1 d2 d3
          go_wp2_with (at_builtin; refine wpList_append_known rfl (.tmp 47) (.tmp 53) 25 25 (by rfl) _ _ _ (by rfl) (by rfl) HRUN.out ?_)
          go_roundw
          case rel => exact ⟨k + 1, v2, _, by omega, by go_num, rfl, FIN.out, LE⟩
          case measure => simp [intOf]; omega
    · have e : ps.take k = ps := List.take_of_length_le (by omega)
      rw [e] at hr hla
      have hll := hla.out.len
      have SH := Lib.hid (fun p hp => hla.out.short p (by rw [e]; exact hp))
      have HD := Lib.hid (wdone w1.heap.size w1.heap.size v (ps.flatMap encP) wr hr.wat (by omega))
      have HR := Lib.hid hr
      clear e hla hr
      go_wp2_with fail
      refine HD.out.mono ?_
      rintro e w2 ⟨pv, rfl, hp2, hb2⟩
      have hwant2 := own_below HR.out.want hb2 (Nat.le_refl _)
      have B2 := Lib.hid (HR.out.below.trans (hb2.mono hsz))
      have HN := Lib.hid (newReader pv _ w2 (Rd.of_own hp2) (by omega))
      have HP2 := Lib.hid hp2
      have HW2 := Lib.hid hwant2
      have sz2 := hb2.size
      clear hp2 hwant2 hb2 HD HR
      go_wp2_with fail
      refine HN.out.mono ?_
      rintro e w3 ⟨br, rfl, hrs3, hb3, hbr⟩
      have HP3 := Lib.hid (own_below HP2.out hb3 (Nat.le_refl _))
      have HW3 := Lib.hid (own_below HW2.out hb3 (Nat.le_refl _))
      have B3 := Lib.hid (B2.out.trans (hb3.mono (by omega)))
      have HP3l := Lib.hid (fun k hk => (HP2.out.lt k hk).2)
      have HW3l := Lib.hid (fun k hk => (HW2.out.lt k hk).2)
      have HRS := Lib.hid hrs3
      have sz3 := hb3.size
      clear hrs3 hb3 HP2 HW2 HN
      go_wp2_with fail
      go_loopw [8] (fun i wr => ∃ k : Nat, k ≤ ps.length ∧ i = .int .i64 k ∧ RS wr (some ⟨br, 0, none⟩) (some ((ps.drop k).flatMap encP)) ∧ Kept (own1 (some ⟨br, 0, none⟩)) w3 wr) (fun i _ => ps.length - (intOf i).toNat)
      case atStart => exact ⟨0, by omega, rfl, by rw [List.drop_zero]; exact HRS.out, Kept.refl _ _⟩
      case round =>
        clear HRS
        obtain ⟨k, hk2, rfl, hrs, hkp⟩ := hrel
        have hbw : Below w1.heap.size w1 wr := B3.out.trans (hkp.below (by omega) (by rintro q ⟨a, ha, rfl⟩; cases ha; show w1.heap.size ≤ br; omega))
        have hbww := HB1.out.trans (hbw.mono HB1.out.size)
        have szr := hkp.size
        by_cases hlt : k < ps.length
        · have hp1 := (HC.out k ps[k] (by simp [hlt])).below hbww (Nat.le_refl _)
          have hs5 := SH.out ps[k] (List.getElem_mem _)
          have hdr : (ps.drop k).flatMap encP = encP ps[k] ++ (ps.drop (k + 1)).flatMap encP := by
            rw [List.drop_eq_getElem_cons hlt, List.flatMap_cons]
          rw [hdr] at hrs
          have c1 := hp1.k
          have c2 := hp1.n
          have c3 := hp1.b
          have k0 := hp1.k0
          have n0 := hp1.n0
          have n1 := hp1.n1
          have HPP := Lib.hid hp1
          have HKP := Lib.hid hkp
          have hix : (k : Int) < (ps.length : Int) := by omega
          clear hdr hp1 hbw hbww
          generalize hrest : (ps.drop (k + 1)).flatMap encP = rest at *
          have HREST := Lib.hid hrest
          clear hrest
          have HPK := Lib.hid (show ps[k]? = some ps[k] by simp [hlt])
          generalize hpk : ps[k] = p at *
          clear hpk
          obtain h4 | h4 | h4 | h4 : p.k % 4 = 0 ∨ p.k % 4 = 1 ∨ p.k % 4 = 2 ∨ p.k % 4 = 3 := by omega
          · have HPQ := Lib.hid h4
            have HE := Lib.hid (show encP p = enc p.n.toNat by unfold encP; rw [if_pos h4])
            rw [HE.out] at hrs
            have hu := uintS_enc p.n.toNat rest (by omega)
            have HU := Lib.hid (ruint _ _ wr.drew (hrs.below ((Below.refl _ _).drew)))
            rw [hu] at HU
            have hnn : ((p.n.toNat : Nat) : Int) = p.n := by omega
            rw [hnn] at HU
            clear hu hnn hrs
            go_wp2_with fail
            refine wp_region_held_drew (S := fun w' => w'.cell? ⟨b, off + k * 3 + 1, none⟩ = some (.int .u64 p.n)) (by kernel_rfl) c2 ?_
            intro hHeld
            refine wpAnyH_take (i := 0) (v := ?_) (by simp only [List.getElem?_toArray, List.getElem?_cons_zero]; rfl) (by kernel_rfl) (by kernel_rfl) (by kernel_rfl) (by intro _ _ _ h; exact h) (Or.inl ⟨by rfl, ?_⟩) (by assumption) ?_
            rotate_left
            · (intro w hSw; (try dsimp only at hSw); go_simp; try with_reducible rfl)
            try simp only [Act.put, List.setIfInBounds_toArray, List.set_cons_zero, List.set_cons_succ]
            refine wpAnyH_take (i := 2) (v := ?_) (by simp only [List.getElem?_toArray, List.getElem?_cons_succ, List.getElem?_cons_zero]; rfl) (by kernel_rfl) (by kernel_rfl) (by kernel_rfl) (by intro _ _ _ h; exact h) (Or.inl ⟨by rfl, ?_⟩) (by assumption) ?_
            rotate_left
            · (intro w hSw; (try dsimp only at hSw); go_simp; try with_reducible rfl)
            try simp only [Act.put, List.setIfInBounds_toArray, List.set_cons_zero, List.set_cons_succ]
            refine wpAnyH_take (i := 3) (v := ?_) (by simp only [List.getElem?_toArray, List.getElem?_cons_succ, List.getElem?_cons_zero]; rfl) (by kernel_rfl) (by kernel_rfl) (by kernel_rfl) (by intro _ _ _ h; exact h) (Or.inl ⟨by rfl, ?_⟩) (by assumption) ?_
            rotate_left
            · (intro w hSw; (try dsimp only at hSw); go_simp; try with_reducible rfl)
            try simp only [Act.put, List.setIfInBounds_toArray, List.set_cons_zero, List.set_cons_succ]
            refine wpAnyH_take (i := 4) (v := ?_) (by simp only [List.getElem?_toArray, List.getElem?_cons_succ, List.getElem?_cons_zero]; rfl) (by kernel_rfl) (by kernel_rfl) (by kernel_rfl) (by intro _ _ _ h; exact h) (Or.inl ⟨by rfl, ?_⟩) (by assumption) ?_
            rotate_left
            · (intro w hSw; (try dsimp only at hSw); go_simp; try with_reducible rfl)
            try simp only [Act.put, List.setIfInBounds_toArray, List.set_cons_zero, List.set_cons_succ]
            refine wpAnyH_take (i := 5) (v := ?_) (by simp only [List.getElem?_toArray, List.getElem?_cons_succ, List.getElem?_cons_zero]; rfl) (by kernel_rfl) (by kernel_rfl) (by kernel_rfl) (by intro _ _ _ h; exact h) (Or.inl ⟨by rfl, ?_⟩) (by assumption) ?_
            rotate_left
            · (intro w hSw; (try dsimp only at hSw); go_simp; try with_reducible rfl)
            try simp only [Act.put, List.setIfInBounds_toArray, List.set_cons_zero, List.set_cons_succ]
            refine wpAnyH_take (i := 6) (v := ?_) (by simp only [List.getElem?_toArray, List.getElem?_cons_succ, List.getElem?_cons_zero]; rfl) (by kernel_rfl) (by kernel_rfl) (by kernel_rfl) (by intro _ _ _ h; exact h) (Or.inl ⟨by rfl, ?_⟩) (by assumption) ?_
            rotate_left
            · (intro w hSw; (try dsimp only at hSw); go_simp; try with_reducible rfl)
            try simp only [Act.put, List.setIfInBounds_toArray, List.set_cons_zero, List.set_cons_succ]
            refine wpAnyH_ready (rs := [1]) (by kernel_rfl) (by simp) ?_
            refine AllReadyH.cons (by simp only [List.getElem?_toArray, List.getElem?_cons_succ, List.getElem?_cons_zero]; rfl) (fun K hK => ?_) AllReadyH.nil
            go_simp
            refine (HU.out).mono ?_
            rintro e wB ⟨rfl, hst, hkk⟩
            have hpB := (HC.out k _ HPK.out).below (HB1.out.trans ((B3.out.trans (((Kept.drew HKP.out).trans hkk).below (by omega) (by rintro q ⟨a, ha, rfl⟩; cases ha; show w1.heap.size ≤ br; omega))).mono HB1.out.size)) (Nat.le_refl _)
            have q1 := hpB.n
            have RSN := Lib.hid hst
            have KN := Lib.hid ((Kept.drew HKP.out).trans hkk)
            clear hst hkk
            refine hK.out _ _ q1 (fun hHeld => ?_)
            clear hK K
            try simp only [Act.put, List.setIfInBounds_toArray, List.set_cons_zero, List.set_cons_succ]
            refine wpAnyH_take (i := 7) (v := ?_) (by simp only [List.getElem?_toArray, List.getElem?_cons_succ, List.getElem?_cons_zero]; rfl) (by kernel_rfl) (by kernel_rfl) (by kernel_rfl) (by intro _ _ _ h; exact h) (Or.inl ⟨by rfl, ?_⟩) (by assumption) ?_
            rotate_left
            · (intro w hSw; (try dsimp only at hSw); go_simp; try with_reducible rfl)
            try simp only [Act.put, List.setIfInBounds_toArray, List.set_cons_zero, List.set_cons_succ]
            refine wpAnyH_take (i := 8) (v := ?_) (by simp only [List.getElem?_toArray, List.getElem?_cons_succ, List.getElem?_cons_zero]; rfl) (by kernel_rfl) (by kernel_rfl) (by kernel_rfl) (by intro _ _ _ h; exact h) (Or.inl ⟨by rfl, ?_⟩) (by assumption) ?_
            rotate_left
            · (intro w hSw; (try dsimp only at hSw); go_simp; try with_reducible rfl)
            try simp only [Act.put, List.setIfInBounds_toArray, List.set_cons_zero, List.set_cons_succ]
            refine wpAnyH_done (by kernel_rfl) ?_ _
            go_wp2
            go_roundw
            case rel => exact ⟨k + 1, by omega, by go_num, by rw [HREST.out]; exact RSN.out, KN.out⟩
            case measure => simp [intOf]; omega
          · have HPQ := Lib.hid h4
            have HE := Lib.hid (show encP p = enc (zig (wrap64 p.n)) by unfold encP; rw [if_neg (by omega), if_pos h4]; rfl)
            rw [HE.out] at hrs
            obtain ⟨g0, g1⟩ := sgn_le p.n
            unfold sgn at g0 g1
            have hu := uintS_enc (zig (wrap64 p.n)) rest (by have := zig_le _ g0 g1; omega)
            have HU := Lib.hid (rint _ _ wr.drew (hrs.below ((Below.refl _ _).drew)))
            rw [hu] at HU
            dsimp only at HU
            rw [unzig_zig] at HU
            have hcv := wrap_is p.n
            clear hu hrs
            go_wp2_with fail
            refine wp_region_held_drew (S := fun w' => w'.cell? ⟨b, off + k * 3 + 1, none⟩ = some (.int .u64 p.n)) (by kernel_rfl) c2 ?_
            intro hHeld
            refine wpAnyH_take (i := 0) (v := ?_) (by simp only [List.getElem?_toArray, List.getElem?_cons_zero]; rfl) (by kernel_rfl) (by kernel_rfl) (by kernel_rfl) (by intro _ _ _ h; exact h) (Or.inl ⟨by rfl, ?_⟩) (by assumption) ?_
            rotate_left
            · (intro w hSw; (try dsimp only at hSw); go_simp; try with_reducible rfl)
            try simp only [Act.put, List.setIfInBounds_toArray, List.set_cons_zero, List.set_cons_succ]
            refine wpAnyH_take (i := 2) (v := ?_) (by simp only [List.getElem?_toArray, List.getElem?_cons_succ, List.getElem?_cons_zero]; rfl) (by kernel_rfl) (by kernel_rfl) (by kernel_rfl) (by intro _ _ _ h; exact h) (Or.inl ⟨by rfl, ?_⟩) (by assumption) ?_
            rotate_left
            · (intro w hSw; (try dsimp only at hSw); go_simp; try with_reducible rfl)
            try simp only [Act.put, List.setIfInBounds_toArray, List.set_cons_zero, List.set_cons_succ]
            refine wpAnyH_take (i := 3) (v := ?_) (by simp only [List.getElem?_toArray, List.getElem?_cons_succ, List.getElem?_cons_zero]; rfl) (by kernel_rfl) (by kernel_rfl) (by kernel_rfl) (by intro _ _ _ h; exact h) (Or.inl ⟨by rfl, ?_⟩) (by assumption) ?_
            rotate_left
            · (intro w hSw; (try dsimp only at hSw); go_simp; try with_reducible rfl)
            try simp only [Act.put, List.setIfInBounds_toArray, List.set_cons_zero, List.set_cons_succ]
            refine wpAnyH_take (i := 4) (v := ?_) (by simp only [List.getElem?_toArray, List.getElem?_cons_succ, List.getElem?_cons_zero]; rfl) (by kernel_rfl) (by kernel_rfl) (by kernel_rfl) (by intro _ _ _ h; exact h) (Or.inl ⟨by rfl, ?_⟩) (by assumption) ?_
            rotate_left
            · (intro w hSw; (try dsimp only at hSw); go_simp; try with_reducible rfl)
            try simp only [Act.put, List.setIfInBounds_toArray, List.set_cons_zero, List.set_cons_succ]
            refine wpAnyH_take (i := 5) (v := ?_) (by simp only [List.getElem?_toArray, List.getElem?_cons_succ, List.getElem?_cons_zero]; rfl) (by kernel_rfl) (by kernel_rfl) (by kernel_rfl) (by intro _ _ _ h; exact h) (Or.inl ⟨by rfl, ?_⟩) (by assumption) ?_
            rotate_left
            · (intro w hSw; (try dsimp only at hSw); go_simp; try with_reducible rfl)
            try simp only [Act.put, List.setIfInBounds_toArray, List.set_cons_zero, List.set_cons_succ]
            refine wpAnyH_take (i := 6) (v := ?_) (by simp only [List.getElem?_toArray, List.getElem?_cons_succ, List.getElem?_cons_zero]; rfl) (by kernel_rfl) (by kernel_rfl) (by kernel_rfl) (by intro _ _ _ h; exact h) (Or.inl ⟨by rfl, ?_⟩) (by assumption) ?_
            rotate_left
            · (intro w hSw; (try dsimp only at hSw); go_simp; try with_reducible rfl)
            try simp only [Act.put, List.setIfInBounds_toArray, List.set_cons_zero, List.set_cons_succ]
            refine wpAnyH_take (i := 7) (v := ?_) (by simp only [List.getElem?_toArray, List.getElem?_cons_succ, List.getElem?_cons_zero]; rfl) (by kernel_rfl) (by kernel_rfl) (by kernel_rfl) (by intro _ _ _ h; exact h) (Or.inl ⟨by rfl, ?_⟩) (by assumption) ?_
            rotate_left
            · (intro w hSw; (try dsimp only at hSw); go_simp; try with_reducible rfl)
            try simp only [Act.put, List.setIfInBounds_toArray, List.set_cons_zero, List.set_cons_succ]
            refine wpAnyH_ready (rs := [1]) (by kernel_rfl) (by simp) ?_
            refine AllReadyH.cons (by simp only [List.getElem?_toArray, List.getElem?_cons_succ, List.getElem?_cons_zero]; rfl) (fun K hK => ?_) AllReadyH.nil
            go_simp
            refine (HU.out).mono ?_
            rintro e wB ⟨rfl, hst, hkk⟩
            have hpB := (HC.out k _ HPK.out).below (HB1.out.trans ((B3.out.trans (((Kept.drew HKP.out).trans hkk).below (by omega) (by rintro q ⟨a, ha, rfl⟩; cases ha; show w1.heap.size ≤ br; omega))).mono HB1.out.size)) (Nat.le_refl _)
            have q1 := hpB.n
            have RSN := Lib.hid hst
            have KN := Lib.hid ((Kept.drew HKP.out).trans hkk)
            clear hst hkk
            refine hK.out _ _ q1 (fun hHeld => ?_)
            clear hK K
            try simp only [Act.put, List.setIfInBounds_toArray, List.set_cons_zero, List.set_cons_succ]
            refine wpAnyH_take (i := 8) (v := ?_) (by simp only [List.getElem?_toArray, List.getElem?_cons_succ, List.getElem?_cons_zero]; rfl) (by kernel_rfl) (by kernel_rfl) (by kernel_rfl) (by intro _ _ _ h; exact h) (Or.inl ⟨by rfl, ?_⟩) (by assumption) ?_
            rotate_left
            · (intro w hSw; (try dsimp only at hSw); go_simp; try with_reducible rfl)
            try simp only [Act.put, List.setIfInBounds_toArray, List.set_cons_zero, List.set_cons_succ]
            refine wpAnyH_take (i := 9) (v := ?_) (by simp only [List.getElem?_toArray, List.getElem?_cons_succ, List.getElem?_cons_zero]; rfl) (by kernel_rfl) (by kernel_rfl) (by kernel_rfl) (by intro _ _ _ h; exact h) (Or.inl ⟨by rfl, ?_⟩) (by assumption) ?_
            rotate_left
            · (intro w hSw; (try dsimp only at hSw); go_simp; try with_reducible rfl)
            try simp only [Act.put, List.setIfInBounds_toArray, List.set_cons_zero, List.set_cons_succ]
            refine wpAnyH_done (by kernel_rfl) ?_ _
            go_wp2
            go_roundw
            case rel => exact ⟨k + 1, by omega, by go_num, by rw [HREST.out]; exact RSN.out, KN.out⟩
            case measure => simp [intOf]; omega
          · have HPQ := Lib.hid h4
            have HE := Lib.hid (show encP p = encB p.l by unfold encP; rw [if_neg (by omega), if_neg (by omega)])
            rw [HE.out] at hrs
            have hu := bytesS_encB p.l rest hs5
            have HU := Lib.hid (rbytes _ _ 5000 wr.drew (hrs.below ((Below.refl _ _).drew)) (by omega) (by omega) (by rw [hu]; dsimp only; omega))
            rw [hu] at HU
            have ht := toStr HPP.out.rd
            unfold S at ht
            clear hu hrs
            go_wp2_with fail
            refine wp_region_held_drew (S := fun w' => w'.cell? ⟨b, off + k * 3 + 2, none⟩ = some p.b ∧ (convert 25 9 p.b).run Try.prog w' = .ok (.string ⟨p.l.toArray⟩) w') (by kernel_rfl) ⟨c3, toStr (HPP.out.rd.below ((Below.refl _ _).drew))⟩ ?_
            intro hHeld
            refine wpAnyH_take (i := 0) (v := ?_) (by simp only [List.getElem?_toArray, List.getElem?_cons_zero]; rfl) (by kernel_rfl) (by kernel_rfl) (by kernel_rfl) (by intro _ _ _ h; exact h) (Or.inl ⟨by rfl, ?_⟩) (by assumption) ?_
            rotate_left
            · (intro w hSw; (try dsimp only at hSw); go_simp; try with_reducible rfl)
            try simp only [Act.put, List.setIfInBounds_toArray, List.set_cons_zero, List.set_cons_succ]
            refine wpAnyH_take (i := 3) (v := ?_) (by simp only [List.getElem?_toArray, List.getElem?_cons_succ, List.getElem?_cons_zero]; rfl) (by kernel_rfl) (by kernel_rfl) (by kernel_rfl) (by intro _ _ _ h; exact h) (Or.inl ⟨by rfl, ?_⟩) (by assumption) ?_
            rotate_left
            · (intro w hSw; (try dsimp only at hSw); go_simp; try with_reducible rfl)
            try simp only [Act.put, List.setIfInBounds_toArray, List.set_cons_zero, List.set_cons_succ]
            refine wpAnyH_take (i := 4) (v := ?_) (by simp only [List.getElem?_toArray, List.getElem?_cons_succ, List.getElem?_cons_zero]; rfl) (by kernel_rfl) (by kernel_rfl) (by kernel_rfl) (by intro _ _ _ h; exact h) (Or.inl ⟨by rfl, ?_⟩) (by assumption) ?_
            rotate_left
            · (intro w hSw; (try dsimp only at hSw); go_simp; try with_reducible rfl)
            try simp only [Act.put, List.setIfInBounds_toArray, List.set_cons_zero, List.set_cons_succ]
            refine wpAnyH_take (i := 5) (v := ?_) (by simp only [List.getElem?_toArray, List.getElem?_cons_succ, List.getElem?_cons_zero]; rfl) (by kernel_rfl) (by kernel_rfl) (by kernel_rfl) (by intro _ _ _ h; exact h) (Or.inl ⟨by rfl, ?_⟩) (by assumption) ?_
            rotate_left
            · (intro w hSw; (try dsimp only at hSw); go_simp; try with_reducible rfl)
            try simp only [Act.put, List.setIfInBounds_toArray, List.set_cons_zero, List.set_cons_succ]
            refine wpAnyH_take (i := 6) (v := ?_) (by simp only [List.getElem?_toArray, List.getElem?_cons_succ, List.getElem?_cons_zero]; rfl) (by kernel_rfl) (by kernel_rfl) (by kernel_rfl) (by intro _ _ _ h; exact h) (Or.inl ⟨by rfl, ?_⟩) (by assumption) ?_
            rotate_left
            · (intro w hSw; (try dsimp only at hSw); go_simp; try with_reducible rfl)
            try simp only [Act.put, List.setIfInBounds_toArray, List.set_cons_zero, List.set_cons_succ]
            refine wpAnyH_take (i := 7) (v := ?_) (by simp only [List.getElem?_toArray, List.getElem?_cons_succ, List.getElem?_cons_zero]; rfl) (by kernel_rfl) (by kernel_rfl) (by kernel_rfl) (by intro _ _ _ h; exact h) (Or.inl ⟨by rfl, ?_⟩) (by assumption) ?_
            rotate_left
            · (intro w hSw; (try dsimp only at hSw); go_simp; try with_reducible rfl)
            try simp only [Act.put, List.setIfInBounds_toArray, List.set_cons_zero, List.set_cons_succ]
            refine wpAnyH_take (i := 8) (v := ?_) (by simp only [List.getElem?_toArray, List.getElem?_cons_succ, List.getElem?_cons_zero]; rfl) (by kernel_rfl) (by kernel_rfl) (by kernel_rfl) (by intro _ _ _ h; exact h) (Or.inl ⟨by rfl, ?_⟩) (by assumption) ?_
            rotate_left
            · (intro w hSw; (try dsimp only at hSw); go_simp; try with_reducible rfl)
            try simp only [Act.put, List.setIfInBounds_toArray, List.set_cons_zero, List.set_cons_succ]
            refine wpAnyH_ready (rs := [1]) (by kernel_rfl) (by simp) ?_
            refine AllReadyH.cons (by simp only [List.getElem?_toArray, List.getElem?_cons_succ, List.getElem?_cons_zero]; rfl) (fun K hK => ?_) AllReadyH.nil
            go_simp
            refine (HU.out).mono ?_
            rintro e wB ⟨v2, rfl, hoB, hst, hkk⟩
            have hpB := (HC.out k _ HPK.out).below (HB1.out.trans ((B3.out.trans (((Kept.drew HKP.out).trans hkk).below (by omega) (by rintro q ⟨a, ha, rfl⟩; cases ha; show w1.heap.size ≤ br; omega))).mono HB1.out.size)) (Nat.le_refl _)
            have q1 := hpB.b
            have hrdB := hpB.rd
            have tB := toStr hrdB
            have oB := toStr (Rd.of_own hoB)
            unfold S at tB oB
            have RSN := Lib.hid hst
            have KN := Lib.hid ((Kept.drew HKP.out).trans hkk)
            clear hst hkk hrdB
            refine hK.out _ _ ⟨q1, tB⟩ (fun hHeld => ?_)
            clear hK K
            try simp only [Act.put, List.setIfInBounds_toArray, List.set_cons_zero, List.set_cons_succ]
            refine wpAnyH_ready (rs := [2]) (by kernel_rfl) (by simp) ?_
            refine AllReadyH.cons (by simp only [List.getElem?_toArray, List.getElem?_cons_succ, List.getElem?_cons_zero]; rfl) (fun K hK => ?_) AllReadyH.nil
            go_simp
            refine hK.out _ _ ⟨q1, tB⟩ (fun hHeld => ?_)
            clear hK K
            try simp only [Act.put, List.setIfInBounds_toArray, List.set_cons_zero, List.set_cons_succ]
            refine wpAnyH_take (i := 9) (v := ?_) (by simp only [List.getElem?_toArray, List.getElem?_cons_succ, List.getElem?_cons_zero]; rfl) (by kernel_rfl) (by kernel_rfl) (by kernel_rfl) (by intro _ _ _ h; exact h) (Or.inl ⟨by rfl, ?_⟩) (by assumption) ?_
            rotate_left
            · (intro w hSw; (try dsimp only at hSw); go_simp; try with_reducible rfl)
            try simp only [Act.put, List.setIfInBounds_toArray, List.set_cons_zero, List.set_cons_succ]
            refine wpAnyH_take (i := 10) (v := ?_) (by simp only [List.getElem?_toArray, List.getElem?_cons_succ, List.getElem?_cons_zero]; rfl) (by kernel_rfl) (by kernel_rfl) (by kernel_rfl) (by intro _ _ _ h; exact h) (Or.inl ⟨by rfl, ?_⟩) (by assumption) ?_
            rotate_left
            · (intro w hSw; (try dsimp only at hSw); go_simp; try with_reducible rfl)
            try simp only [Act.put, List.setIfInBounds_toArray, List.set_cons_zero, List.set_cons_succ]
            refine wpAnyH_done (by kernel_rfl) ?_ _
            go_wp2
            go_roundw
            case rel => exact ⟨k + 1, by omega, by go_num, by rw [HREST.out]; exact RSN.out, KN.out⟩
            case measure => simp [intOf]; omega
          · have HPQ := Lib.hid h4
            have HE := Lib.hid (show encP p = encB p.l by unfold encP; rw [if_neg (by omega), if_neg (by omega)])
            rw [HE.out] at hrs
            have hu := bytesS_encB p.l rest hs5
            have HU := Lib.hid (rtext _ _ 5000 wr.drew (hrs.below ((Below.refl _ _).drew)) (by omega) (by omega))
            rw [hu] at HU
            have ht := toStr HPP.out.rd
            unfold S at ht
            clear hu hrs
            go_wp2_with fail
            refine wp_region_held_drew (S := fun w' => w'.cell? ⟨b, off + k * 3 + 2, none⟩ = some p.b ∧ (convert 25 9 p.b).run Try.prog w' = .ok (.string ⟨p.l.toArray⟩) w') (by kernel_rfl) ⟨c3, toStr (HPP.out.rd.below ((Below.refl _ _).drew))⟩ ?_
            intro hHeld
            refine wpAnyH_take (i := 0) (v := ?_) (by simp only [List.getElem?_toArray, List.getElem?_cons_zero]; rfl) (by kernel_rfl) (by kernel_rfl) (by kernel_rfl) (by intro _ _ _ h; exact h) (Or.inl ⟨by rfl, ?_⟩) (by assumption) ?_
            rotate_left
            · (intro w hSw; (try dsimp only at hSw); go_simp; try with_reducible rfl)
            try simp only [Act.put, List.setIfInBounds_toArray, List.set_cons_zero, List.set_cons_succ]
            refine wpAnyH_take (i := 2) (v := ?_) (by simp only [List.getElem?_toArray, List.getElem?_cons_succ, List.getElem?_cons_zero]; rfl) (by kernel_rfl) (by kernel_rfl) (by kernel_rfl) (by intro _ _ _ h; exact h) (Or.inl ⟨by rfl, ?_⟩) (by assumption) ?_
            rotate_left
            · (intro w hSw; (try dsimp only at hSw); go_simp; try with_reducible rfl)
            try simp only [Act.put, List.setIfInBounds_toArray, List.set_cons_zero, List.set_cons_succ]
            refine wpAnyH_take (i := 3) (v := ?_) (by simp only [List.getElem?_toArray, List.getElem?_cons_succ, List.getElem?_cons_zero]; rfl) (by kernel_rfl) (by kernel_rfl) (by kernel_rfl) (by intro _ _ _ h; exact h) (Or.inl ⟨by rfl, ?_⟩) (by assumption) ?_
            rotate_left
            · (intro w hSw; (try dsimp only at hSw); go_simp; try with_reducible rfl)
            try simp only [Act.put, List.setIfInBounds_toArray, List.set_cons_zero, List.set_cons_succ]
            refine wpAnyH_take (i := 4) (v := ?_) (by simp only [List.getElem?_toArray, List.getElem?_cons_succ, List.getElem?_cons_zero]; rfl) (by kernel_rfl) (by kernel_rfl) (by kernel_rfl) (by intro _ _ _ h; exact h) (Or.inl ⟨by rfl, ?_⟩) (by assumption) ?_
            rotate_left
            · (intro w hSw; (try dsimp only at hSw); go_simp; try with_reducible rfl)
            try simp only [Act.put, List.setIfInBounds_toArray, List.set_cons_zero, List.set_cons_succ]
            refine wpAnyH_take (i := 5) (v := ?_) (by simp only [List.getElem?_toArray, List.getElem?_cons_succ, List.getElem?_cons_zero]; rfl) (by kernel_rfl) (by kernel_rfl) (by kernel_rfl) (by intro _ _ _ h; exact h) (Or.inl ⟨by rfl, ?_⟩) (by assumption) ?_
            rotate_left
            · (intro w hSw; (try dsimp only at hSw); go_simp; try with_reducible rfl)
            try simp only [Act.put, List.setIfInBounds_toArray, List.set_cons_zero, List.set_cons_succ]
            refine wpAnyH_take (i := 6) (v := ?_) (by simp only [List.getElem?_toArray, List.getElem?_cons_succ, List.getElem?_cons_zero]; rfl) (by kernel_rfl) (by kernel_rfl) (by kernel_rfl) (by intro _ _ _ h; exact h) (Or.inl ⟨by rfl, ?_⟩) (by assumption) ?_
            rotate_left
            · (intro w hSw; (try dsimp only at hSw); go_simp; try with_reducible rfl)
            try simp only [Act.put, List.setIfInBounds_toArray, List.set_cons_zero, List.set_cons_succ]
            refine wpAnyH_take (i := 7) (v := ?_) (by simp only [List.getElem?_toArray, List.getElem?_cons_succ, List.getElem?_cons_zero]; rfl) (by kernel_rfl) (by kernel_rfl) (by kernel_rfl) (by intro _ _ _ h; exact h) (Or.inl ⟨by rfl, ?_⟩) (by assumption) ?_
            rotate_left
            · (intro w hSw; (try dsimp only at hSw); go_simp; try with_reducible rfl)
            try simp only [Act.put, List.setIfInBounds_toArray, List.set_cons_zero, List.set_cons_succ]
            refine wpAnyH_ready (rs := [1]) (by kernel_rfl) (by simp) ?_
            refine AllReadyH.cons (by simp only [List.getElem?_toArray, List.getElem?_cons_succ, List.getElem?_cons_zero]; rfl) (fun K hK => ?_) AllReadyH.nil
            go_simp
            refine (HU.out).mono ?_
            rintro e wB ⟨he, hst, hkk⟩
            unfold S at he
            subst he
            have hpB := (HC.out k _ HPK.out).below (HB1.out.trans ((B3.out.trans (((Kept.drew HKP.out).trans hkk).below (by omega) (by rintro q ⟨a, ha, rfl⟩; cases ha; show w1.heap.size ≤ br; omega))).mono HB1.out.size)) (Nat.le_refl _)
            have q1 := hpB.b
            have hrdB := hpB.rd
            have tB := toStr hrdB
            unfold S at tB
            have RSN := Lib.hid hst
            have KN := Lib.hid ((Kept.drew HKP.out).trans hkk)
            clear hst hkk hrdB
            refine hK.out _ _ ⟨q1, tB⟩ (fun hHeld => ?_)
            clear hK K
            try simp only [Act.put, List.setIfInBounds_toArray, List.set_cons_zero, List.set_cons_succ]
            refine wpAnyH_take (i := 8) (v := ?_) (by simp only [List.getElem?_toArray, List.getElem?_cons_succ, List.getElem?_cons_zero]; rfl) (by kernel_rfl) (by kernel_rfl) (by kernel_rfl) (by intro _ _ _ h; exact h) (Or.inl ⟨by rfl, ?_⟩) (by assumption) ?_
            rotate_left
            · (intro w hSw; (try dsimp only at hSw); go_simp; try with_reducible rfl)
            try simp only [Act.put, List.setIfInBounds_toArray, List.set_cons_zero, List.set_cons_succ]
            refine wpAnyH_take (i := 9) (v := ?_) (by simp only [List.getElem?_toArray, List.getElem?_cons_succ, List.getElem?_cons_zero]; rfl) (by kernel_rfl) (by kernel_rfl) (by kernel_rfl) (by intro _ _ _ h; exact h) (Or.inl ⟨by rfl, ?_⟩) (by assumption) ?_
            rotate_left
            · (intro w hSw; (try dsimp only at hSw); go_simp; try with_reducible rfl)
            try simp only [Act.put, List.setIfInBounds_toArray, List.set_cons_zero, List.set_cons_succ]
            refine wpAnyH_done (by kernel_rfl) ?_ _
            go_wp2
            go_roundw
            case rel => exact ⟨k + 1, by omega, by go_num, by rw [HREST.out]; exact RSN.out, KN.out⟩
            case measure => simp [intOf]; omega
        · have e : ps.drop k = [] := List.drop_of_length_le (by omega)
          rw [e] at hrs
          have hrs' : RS wr (some ⟨br, 0, none⟩) (some []) := hrs
          have tp := toStr (Rd.of_own (own_kept HP3.out hkp (fun q hq => by rintro ⟨a, ha, h⟩; cases ha; have h1 := HP3l.out _ hq; have h2 : br = q := h; omega)))
          have tw := toStr (Rd.of_own (own_kept HW3.out hkp (fun q hq => by rintro ⟨a, ha, h⟩; cases ha; have h1 := HW3l.out _ hq; have h2 : br = q := h; omega)))
          unfold S at tp tw
          have re : Calls Try.prog 24 #[.pointer (some ⟨br, 0, none⟩)] wr fun e w' => e = .returned (.bool true) ∧ wr = w' := rend _ _ wr hrs'
          have rb : Calls Try.prog 25 #[.pointer (some ⟨br, 0, none⟩)] wr fun e w' => e = .returned (.bool false) ∧ wr = w' := rbad _ _ wr hrs'
          have RE := Lib.hid re
          have RB := Lib.hid rb
          have BW := Lib.hid hbww
          clear e hrs hrs' re rb hbw hbww hkp
          go_wp2_with fail
          refine RE.out.mono ?_
          rintro e w' ⟨rfl, rfl⟩
          go_wp2_with fail
          refine RB.out.mono ?_
          rintro e w' ⟨rfl, rfl⟩
          go_wp2_with fail
          go_ret
          exact ⟨rfl, BW.out⟩
end Go.Proofs.Ytjmfgpklemhomaa
