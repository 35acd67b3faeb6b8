/- The reference's Collect. -/
import Derived.Test.YtkdhajiplonloaaHeaPj
namespace Go.Proofs.Ytkdhajiplonloaa
open Go.RowKit HeaM

/-- What the reference's Collect leaves. -/
def RcPost (w w' : World) (W : List Nat) (F : List Bool) (xs : List Nat) (e : Ending) : Prop :=
  ∃ a b, e = .returned (.tuple #[a, b]) ∧ OwnU w' w.heap.size a (colS W F xs).2 ∧ OwnU w' w.heap.size b (colR W F xs) ∧ (∀ j, a.ownBlock = some j → b.ownBlock ≠ some j) ∧ Below w.heap.size w w'

theorem even_half {x : Nat} (h : x % 2 ≠ 1) : ∃ y, x = 2 * y := ⟨x / 2, by omega⟩

/-- Pushing to a row of numbers, apart from others. -/
theorem push_u64 {w : World} {base : Nat} {v : Value} {l : List Nat} {x : Nat} (h : OwnU w base v l) (hb : base ≤ w.heap.size) (hn : l.length ≤ 10000000) :
    ∃ v' w2, (Builtin.append_ #[28, 28] 28 #[v, .slice (some ⟨w.heap.size, 0, none⟩) 1 1]).run Try.prog (w.alloc (.cells #[.int .u64 (x : Int)] 36)) = .ok v' w2 ∧ OwnU w2 base v' (l ++ [x]) ∧ Kept (fun j => v.ownBlock = some j) w w2 ∧ (∀ j, v'.ownBlock = some j → v.ownBlock = some j ∨ w.heap.size ≤ j) := by
  obtain ⟨v', w2, r2, o2, g2, a2⟩ := append_one (ty := 28) (t := 28) u64Info Try.underlying28 rfl (h.alloc (.cells #[.int .u64 (x : Int)] 36)) (RdV.lit w (.int .u64 (x : Int)) 36) (by intro u hu; simp at hu; subst hu; rfl) (by simp; omega) (by simp; omega) (by simp; omega)
  refine ⟨v', w2, r2, ?_, ((Kept.refl _ _).alloc _).grown g2 fun j hj => .inl hj, fun j hj => ?_⟩
  · unfold OwnU
    rw [List.length_append, Ws_append]
    exact o2
  · rcases a2 with a2 | a2
    · exact .inl (by rw [← a2]; exact hj)
    · rw [a2] at hj
      injection hj with hj
      simp at hj
      exact .inr (by omega)

/-- An object told as words. -/
theorem refwords_obj {W : List Nat} {F : List Bool} {f : List (Nat × Nat)} {i g kk : Nat} {pv : Value} {str : ByteArray} {w : World} (hf : Fine W F) (h : Ob W F i) (hkn : W.getD i 0 % 256 ≠ 3 → ∀ x ∈ rst W i, Knows W F f x) (hg : w.heap[g]? = some (.cells #[.int .u8 (kk : Int), pv, .string str] 35 (0, 0))) (hp : RdW w pv ((if W.getD i 0 % 256 ≠ 3 then rst W i else []).map (thr f))) (hk : kk = W.getD i 0 % 256) (hstr : W.getD i 0 % 256 = 3 → str.data.toList = txt W i (W.getD i 0 / 256)) :
    Calls Try.prog 13 #[.slice (some ⟨g, 0, none⟩) 1 1] w fun e w' => ∃ v', e = .returned v' ∧ OwnU w' w.heap.size v' (tobj W F f i) ∧ Below w.heap.size w w' := by
  have hmx := hf.good.max
  have hfit := h.fits
  by_cases h3 : W.getD i 0 % 256 = 3
  · obtain ⟨s, hs, ho⟩ := hf.canon i h h3
    obtain ⟨_, ht⟩ := txt_obj h ho
    have hst := hstr h3
    rw [ht] at hst
    subst hk
    rw [h3] at hg
    have hss : str.size = s.length := by rw [← hst]; rfl
    refine (refwords_text g pv str w hg (by omega)).mono ?_
    rintro e w' ⟨v', rfl, ho', hb⟩
    refine ⟨v', rfl, ?_, hb⟩
    unfold tobj
    rw [if_pos h3, ho, ← hst]
    exact ho'
  · rw [if_pos h3] at hp
    have hrl := rst_length h
    refine (refwords_parts g kk pv _ str w hg hp (by omega) (by omega) (by rw [List.length_map]; omega)).mono ?_
    rintro e w' ⟨v', rfl, ho', hb⟩
    refine ⟨v', rfl, ?_, hb⟩
    rw [hk, tobj_parts h hf.sound h3 (hkn h3)] at ho'
    exact ho'

/-- While an object's parts are turned. -/
structure In4 (w wo wr : World) (f : List (Nat × Nat)) (ov pv outv : Value) (lo : List Nat) (box : Nat) (c0 bx c2 : Value) (P : List Nat) (prv : Value) (lq : List Nat) : Prop where
  ord : OrdS wr w.heap.size ov pv f
  out : OwnU wr w.heap.size outv lo
  boxc : wr.heap[box]? = some (.cells #[c0, bx, c2] 35 (0, 0))
  par : OwnU wr w.heap.size bx P
  pr : OwnU wr wo.heap.size prv lq
  ao : ∀ j, outv.ownBlock = some j → pv.ownBlock ≠ some j
  a1 : ∀ j, prv.ownBlock = some j → pv.ownBlock ≠ some j
  a2 : ∀ j, prv.ownBlock = some j → outv.ownBlock ≠ some j
  a3 : ∀ j, prv.ownBlock = some j → bx.ownBlock ≠ some j
  below : Below w.heap.size w wr
  size : wo.heap.size ≤ wr.heap.size
  ge : w.heap.size ≤ wo.heap.size
theorem not_box {wr : World} {box base n : Nat} {c0 c1 c2 v : Value} {xs : List Value} (h : wr.heap[box]? = some (.cells #[c0, c1, c2] 35 (0, 0))) (ho : wr.ownsRow base 36 1 v n xs) : v.ownBlock ≠ some box := by
  intro e
  rcases ho.2 with ⟨rfl, _⟩ | ⟨g, cap, cur, rfl, _, hg, _⟩
  · simp [Value.ownBlock] at e
  · simp only [Value.ownBlock, Option.some.injEq] at e
    subst e
    rw [h] at hg
    injection hg with hg
    injection hg with _ h2
    exact absurd h2 (by decide)
theorem In4.push {w wo wr : World} {f : List (Nat × Nat)} {ov pv outv c0 bx c2 prv : Value} {lo P lq : List Nat} {box : Nat} (h : In4 w wo wr f ov pv outv lo box c0 bx c2 P prv lq) (x : Nat) (hn : lq.length ≤ 10000000) :
    ∃ v' w2, (Builtin.append_ #[28, 28] 28 #[prv, .slice (some ⟨wr.heap.size, 0, none⟩) 1 1]).run Try.prog (wr.alloc (.cells #[.int .u64 (x : Int)] 36)) = .ok v' w2 ∧ In4 w wo w2 f ov pv outv lo box c0 bx c2 P v' (lq ++ [x]) := by
  obtain ⟨v', w2, r2, o2, k2, n2⟩ := push_u64 (x := x) h.pr h.size hn
  have hb := h.below.size
  have lt1 : ∀ j, pv.ownBlock = some j → j < wr.heap.size := fun j hj => (h.ord.pla.lt j hj).2
  have lt2 : ∀ j, outv.ownBlock = some j → j < wr.heap.size := fun j hj => (h.out.lt j hj).2
  have lt3 : ∀ j, bx.ownBlock = some j → j < wr.heap.size := fun j hj => (h.par.lt j hj).2
  refine ⟨v', w2, r2, ⟨own_kept h.ord.ord k2 fun j hj hs => own_types h.ord.ord h.pr (by decide) j hj hs, own_kept h.ord.pla k2 fun j hj hs => h.a1 j hs hj⟩, own_kept h.out k2 fun j hj hs => h.a2 j hs hj, (k2.block _ (lt_of_block h.boxc) fun hs => not_box h.boxc h.pr hs).trans h.boxc, own_kept h.par k2 fun j hj hs => h.a3 j hs hj, o2, h.ao, ?_, ?_, ?_, h.below.trans (k2.below hb fun j hj => Nat.le_trans h.ge (h.pr.lt j hj).1), Nat.le_trans h.size k2.size, h.ge⟩
  · intro j hj e
    rcases n2 j hj with h1 | h1
    · exact h.a1 j h1 e
    · have := lt1 j e; omega
  · intro j hj e
    rcases n2 j hj with h1 | h1
    · exact h.a2 j h1 e
    · have := lt2 j e; omega
  · intro j hj e
    rcases n2 j hj with h1 | h1
    · exact h.a3 j h1 e
    · have := lt3 j e; omega

set_option maxHeartbeats 16000000 in
set_option maxRecDepth 100000 in
theorem refcollect_t (lv rv : Value) (W : List Nat) (F : List Bool) (xs : List Nat) (w : World) (hl : RdW w lv W) (hr : RdW w rv xs) (hf : Fine W F) (hx : ∀ x ∈ xs, (x % 2 = 1 ∨ isObj W F x = true) ∧ x < 18446744073709551616) (hn : xs.length ≤ 1000000) :
    Calls Try.prog 9 #[lv, rv] w fun e w' => RcPost w w' W F xs e := by
  have HL : Hid (∀ w', Below w.heap.size w w' → RdW w' lv W) := fun w' hb => hl.below hb
  have HR : Hid (∀ w', Below w.heap.size w w' → RdW w' rv xs) := fun w' hb => hr.below hb
  obtain ⟨ol, cl, hlv, _⟩ := hl.slice
  obtain ⟨orr, cr, hrv, _⟩ := hr.slice
  rw [Ws_length] at hlv hrv
  have HF := Lib.hid hf
  have HX := Lib.hid hx
  have hmx := hf.good.max
  have hmi : (W.length : Int) ≤ 10000000 := by omega
  have hni : (xs.length : Int) ≤ 1000000 := by omega
  clear hl hr hf hx
  subst hlv hrv
  go_enter Try.func9, Try.ntmps9
  go_wp2_with fail
  go_loopg [6, 7, 8, 11] xs.length (fun K ov pv sz i wr => ∃ (k : Nat) (ov' pv' : Value), k ≤ xs.length ∧ K = xs.length - k ∧ i = .int .i64 k ∧ ov' = ov ∧ pv' = pv ∧ sz = .int .u64 ((mvs W F ([], []) (xs.take k)).1.2.length : Int) ∧ Hid (OrdS wr w.heap.size ov' pv' (mvs W F ([], []) (xs.take k)).1.1 ∧ Below w.heap.size w wr))
  case atStart => exact ⟨0, _, _, Nat.zero_le _, by omega, rfl, rfl, rfl, rfl, ⟨World.ownsRow_nil _ _ _ _, World.ownsRow_nil _ _ _ _⟩, Below.refl _ _⟩
  case round =>
    obtain ⟨k, ov, pv, hk, rfl, rfl, hov, hpv, rfl, HK⟩ := hrel
    subst hov hpv
    by_cases hlt : k < xs.length
    · have hki : (k : Int) < (xs.length : Int) := by omega
      obtain ⟨a, cr', hrv, _, hc⟩ := at_cell (HR.out wr HK.out.2) hlt
      simp only [Value.slice.injEq] at hrv
      obtain ⟨rfl, -, rfl⟩ := hrv
      have hcx := hc k hlt
      have hgx : xs.getD k 0 = xs[k] := by rw [List.getD_eq_getElem?_getD, List.getElem?_eq_getElem hlt]; rfl
      rw [hgx] at hcx
      have hfx := HX.out xs[k] (List.getElem_mem hlt)
      have hsn := mvs_snoc W F ([], []) (xs.take k) xs[k]
      rw [← List.take_succ_eq_append_getElem hlt] at hsn
      have hinv := inv_mvs (Inv.nil W F) HF.out.good (xs.take k)
      have hslen : (mvs W F ([], []) (xs.take k)).1.2.length ≤ W.length := by rw [hinv.len]; exact hinv.tot_le
      clear hc hgx
      generalize xs[k] = x at *
      have hx' : (x : Int) ≤ 18446744073709551615 := by omega
      by_cases hodd : x % 2 = 1
      · have d0 : ((x : Int) % 2 == 0) = false := by rw [beq_eq_false_iff_ne]; omega
        rw [mv_no (isObj_no (.inl hodd))] at hsn
        have hnx : OrdS wr w.heap.size ov pv (mvs W F ([], []) (xs.take (k + 1))).1.1 ∧ Below w.heap.size w wr := by rw [hsn]; exact HK.out
        have hsz : (mvs W F ([], []) (xs.take (k + 1))).1.2.length = (mvs W F ([], []) (xs.take k)).1.2.length := by rw [hsn]
        have HNX := Lib.hid hnx
        have HSZ := Lib.hid hsz
        clear hsn hnx hsz hinv hodd hfx
        go_wp2_with fail
        go_roundg (xs.length - (k + 1))
        case measure => omega
        case rel => exact ⟨k + 1, _, _, by omega, rfl, by go_num, rfl, rfl, by rw [HSZ.out], HNX.out⟩
      · obtain ⟨y, rfl⟩ := even_half hodd
        have hobj : isObj W F (2 * y) = true := by
          rcases hfx.1 with h1 | h1
          · omega
          · exact h1
        obtain ⟨_, hyl, hym⟩ := isObj_iff.1 hobj
        rw [show 2 * y / 2 = y by omega] at hyl hym
        have hob := HF.out.good.obs y hym
        have e2y : ((2 * y : Nat) : Int) = 2 * (y : Int) := by omega
        have d0 : (2 * (y : Int) % 2 == 0) = true := by rw [beq_iff_eq]; omega
        have hdiv : 2 * (y : Int) / 2 = (y : Int) := by omega
        have hyi : (y : Int) < (W.length : Int) := by omega
        rw [e2y] at hcx
        have HCM := Lib.hid (come_t w.heap.size (.slice ol W.length cl) ov pv W F _ y wr HK.out.1 HK.out.2.size (fun w' hb => HL.out w' (HK.out.2.trans hb)) HF.out.good hinv hob)
        have HSN := Lib.hid hsn
        have HB := Lib.hid HK.out.2
        clear hsn hinv hobj hym hob hfx hodd hx' e2y
        go_wp2_with fail
        refine HCM.out.mono ?_
        rintro e w2 ⟨ov2, pv2, rfl, hO2, hb2, _, _⟩
        have hnx : OrdS w2 w.heap.size ov2 pv2 (mvs W F ([], []) (xs.take (k + 1))).1.1 ∧ Below w.heap.size w w2 := by
          rw [HSN.out]
          exact ⟨hO2, HB.out.trans hb2⟩
        have hsz : (mvs W F ([], []) (xs.take (k + 1))).1.2.length = (mv W F (mvs W F ([], []) (xs.take k)).1 (2 * y)).1.2.length := by rw [HSN.out]
        have HNX := Lib.hid hnx
        have HSZ := Lib.hid hsz
        clear hnx hsz hO2 hb2
        go_wp2_with fail
        go_roundg (xs.length - (k + 1))
        case measure => omega
        case rel => exact ⟨k + 1, _, _, by omega, rfl, by go_num, rfl, rfl, by rw [HSZ.out], HNX.out⟩
    · obtain rfl : k = xs.length := by omega
      have h0 := HK.out
      rw [List.take_length] at h0
      have HST : Hid (Bfs W F xs (mvs W F ([], []) xs).1 0 0 (W.length + 1)) := Bfs.start HF.out.good xs
      have HO := Lib.hid h0
      clear HK h0
      rw [List.take_length]
      generalize (mvs W F ([], []) xs).1 = s0 at *
      go_wp2_with fail
      go_loopg [6, 7, 8, 13] (W.length + 1) (fun K ov pv sz i wr => ∃ (m o n : Nat) (s : St) (ov' pv' : Value), o ≤ W.length ∧ K = W.length + 1 - o ∧ i = .int .i64 m ∧ ov' = ov ∧ pv' = pv ∧ sz = .int .u64 (s.2.length : Int) ∧ Hid (Bfs W F xs s m o n ∧ OrdS wr w.heap.size ov' pv' s.1 ∧ Below w.heap.size w wr))
      case atStart => exact ⟨0, 0, W.length + 1, s0, _, _, Nat.zero_le _, by omega, rfl, rfl, rfl, rfl, HST.out, HO.out⟩
      case round =>
        obtain ⟨m, o, n, s, ov1, pv1, hoW, rfl, rfl, hov, hpv, rfl, HK⟩ := hrel
        subst hov hpv
        clear HST HO
        obtain ⟨wo, rfl⟩ : ∃ wo : World, wo = wr := ⟨_, rfl⟩
        obtain ⟨oo, oc, hovl, _⟩ := own_slice HK.out.2.1.ord
        rw [List.length_map] at hovl
        have hinv := HK.out.1.inv
        have hpl : s.1.length ≤ 10000000 := by
          have h1 := nodup_le (s.1.map (·.1)) (List.range W.length) hinv.nodup fun x hx => by
            obtain ⟨p, hp, rfl⟩ := List.mem_map.1 hx
            have h2 := (hinv.ob p hp).fits
            have h3 := szX_pos (W.getD p.1 0)
            rw [List.mem_range]
            omega
          rw [List.length_map, List.length_range] at h1
          omega
        have hpi : (s.1.length : Int) ≤ 10000000 := by omega
        by_cases hlt : m < s.1.length
        · have hmi' : (m : Int) < (s.1.length : Int) := by omega
          obtain ⟨p, hp⟩ := HK.out.1.obj HF.out.good hlt
          obtain ⟨g1, d1, g2, d2, e1, -, -, -, hcs⟩ := HK.out.2.1.cells (by omega)
          rw [hovl] at e1
          simp only [Value.slice.injEq] at e1
          obtain ⟨rfl, -, rfl⟩ := e1
          have hcm := (hcs m hlt).1
          have hgm : s.1.getD m (0, 0) = p := by rw [List.getD_eq_getElem?_getD, hp.at_.get]; rfl
          rw [hgm] at hcm
          have hfit := hp.ob.fits
          have hzp := szX_pos (W.getD p.1 0)
          have hpw : p.1 < W.length := by omega
          have hos := hp.at_.fits
          have hsl : s.2.length ≤ W.length := by rw [hinv.len]; exact hinv.tot_le
          have HAT := Lib.hid (at_lit2 (.slice ol W.length cl) W p.1 wo (HL.out wo HK.out.2.2) hpw HF.out.good.words hmx hp.ob.ok)
          have HP := Lib.hid hp
          clear hcs hgm hinv hp
          obtain ⟨pi, hpi2⟩ : ∃ pi, p.1 = pi := ⟨_, rfl⟩
          rw [hpi2] at hcm hpw hfit hzp hos HAT
          have HPI := Lib.hid hpi2
          clear hpi2
          subst hovl
          have HSB : Hid (Below w.heap.size w wo) := HK.out.2.2
          have HSO : Hid (OrdS wo w.heap.size _ pv1 s.1) := HK.out.2.1
          obtain ⟨ZS, hZS⟩ : ∃ ZS, szX (W.getD pi 0) = ZS := ⟨_, rfl⟩
          have HZS := Lib.hid hZS
          rw [hZS] at hfit hzp hos
          clear hZS
          go_wp2_with fail
          refine HAT.out.mono ?_
          rintro e w1 ⟨kk, po, pc, str, N, P, rfl, ho, hb1, -, hP, hkk, -⟩
          have hkl : kk < 256 := by omega
          have hkk' : (kk : Int) ≤ 255 := by omega
          have hPl : P.length ≤ W.length := by
            rw [hP]
            split
            · have h1 := rst_length HP.out.ob
              rw [HPI.out] at h1
              have := HZS.out
              omega
            · exact Nat.zero_le _
          have hPi : (P.length : Int) ≤ 10000000 := by omega
          have HPP := Lib.hid hP
          have hb2 := hb1.alloc hb1.size (.cells #[.int .u8 (kk : Int), .slice po P.length pc, .string str] 35)
          have hnew := heap_alloc_new w1 (.cells #[.int .u8 (kk : Int), .slice po P.length pc, .string str] 35)
          have hO2 := HSO.out.below hb2
          have hB2 : Below w.heap.size w (w1.alloc (.cells #[.int .u8 (kk : Int), .slice po P.length pc, .string str] 35)) := HSB.out.trans (hb2.mono HSB.out.size)
          have hP2 : OwnU (w1.alloc (.cells #[.int .u8 (kk : Int), .slice po P.length pc, .string str] 35)) wo.heap.size (.slice po P.length pc) P := ho.alloc _
          have HO2 := Lib.hid hO2
          have HB2 := Lib.hid hB2
          have HP2 := Lib.hid hP2
          have HNEW := Lib.hid hnew
          clear hP ho hb1 hb2 hnew hO2 hB2 hP2 hkk
          go_wp2_with fail
          obtain ⟨w2, hw2⟩ : ∃ w2, w1.alloc (.cells #[.int .u8 (kk : Int), .slice po P.length pc, .string str] 35) = w2 := ⟨_, rfl⟩
          rw [hw2] at HO2 HB2 HP2 HNEW ⊢
          clear hw2
          have hapt : ∀ j, (Value.slice po P.length pc).ownBlock = some j → pv1.ownBlock ≠ some j := fun j hj e => by
            have h1 := (HP2.out.lt j hj).1
            have h2 := (HSO.out.pla.lt j e).2
            omega
          have hcp := (ob_cells HNEW.out).2.1
          have HAPT := Lib.hid hapt
          have HBX : Hid (w2.heap[w1.heap.size]? = some (.cells #[.int .u8 (kk : Int), .slice po P.length pc, .string str] 35 (0, 0))) := HNEW.out
          clear hapt hcp hcm
          have hst0 : (if W.getD p.1 0 % 256 ≠ 3 then prts W F o s 0 else s) = s := by split <;> rfl
          have HST0 := Lib.hid hst0
          clear hst0
          go_loopg [6, 7, 8, 16] P.length (fun K ov pv sz i wr2 => ∃ (q : Nat) (S : St) (ov' pv' : Value), q ≤ P.length ∧ K = P.length - q ∧ i = .int .i64 q ∧ ov' = ov ∧ pv' = pv ∧ sz = .int .u64 (S.2.length : Int) ∧ Hid (S = (if W.getD p.1 0 % 256 ≠ 3 then prts W F o s q else s) ∧ OrdS wr2 w.heap.size ov' pv' S.1 ∧ Below w.heap.size w wr2 ∧ wr2.heap[w1.heap.size]? = some (.cells #[.int .u8 (kk : Int), .slice po P.length pc, .string str] 35 (0, 0)) ∧ OwnU wr2 wo.heap.size (.slice po P.length pc) P ∧ ∀ j, (Value.slice po P.length pc).ownBlock = some j → pv'.ownBlock ≠ some j))
          case atStart => exact ⟨0, s, _, _, Nat.zero_le _, by omega, rfl, rfl, rfl, rfl, HST0.out.symm, HO2.out, HB2.out, HBX.out, HP2.out, HAPT.out⟩
          case round =>
            obtain ⟨q, S, ov2, pv2, hq, rfl, rfl, hov, hpv, rfl, HI⟩ := hrel
            subst hov hpv
            obtain ⟨hS, hO, hB, hBx, hPw, hAp⟩ := HI.out
            obtain ⟨_, b1, _⟩ := ob_cells hBx
            by_cases hqp : q < P.length
            · have hqi : (q : Int) < (P.length : Int) := by omega
              have hk3 : W.getD p.1 0 % 256 ≠ 3 := fun e => by
                have h1 := HPP.out
                rw [← HPI.out, if_neg (fun h => h e)] at h1
                rw [h1] at hqp
                simp at hqp
              have hPr : P = rst W p.1 := by
                have h1 := HPP.out
                rw [← HPI.out, if_pos hk3] at h1
                exact h1
              rw [if_pos hk3] at hS
              obtain ⟨i1, i2, i3⟩ := HP.out.part HK.out.1 HF.out.good hk3 (i := q) (by rw [← hPr]; exact hqp)
              rw [← hPr, ← hS] at i2 i3
              rw [← hS] at i1
              obtain ⟨a, pc', hpv2, _, hcc⟩ := at_cell (RdV.of_own hPw) hqp
              simp only [Value.slice.injEq] at hpv2
              obtain ⟨rfl, -, rfl⟩ := hpv2
              have hcx := hcc q hqp
              have hxm : P.getD q 0 ∈ rst W p.1 := by
                rw [← hPr, List.getD_eq_getElem?_getD, List.getElem?_eq_getElem hqp]
                exact List.getElem_mem hqp
              have hfx := HF.out.sound p.1 HP.out.ob hk3 _ hxm
              have hxl : P.getD q 0 < 18446744073709551616 := HF.out.good.words _ (List.mem_of_mem_drop (List.mem_of_mem_take hxm))
              have hSl : S.2.length ≤ W.length := by rw [i1.len]; exact i1.tot_le
              clear hcc hxm
              generalize P.getD q 0 = x at *
              have hx' : (x : Int) ≤ 18446744073709551615 := by omega
              by_cases hodd : x % 2 = 1
              · have d0 : ((x : Int) % 2 == 0) = false := by rw [beq_eq_false_iff_ne]; omega
                rw [mv_no (isObj_no (.inl hodd))] at i2 i3
                have hnx : OrdS wr w.heap.size ov2 pv2 (prts W F o s (q + 1)).1 := by rw [i2]; exact hO
                have hFIN : prts W F o s (q + 1) = (if W.getD p.1 0 % 256 ≠ 3 then prts W F o s (q + 1) else s) ∧ OrdS wr w.heap.size ov2 pv2 (prts W F o s (q + 1)).1 ∧ Below w.heap.size w wr ∧ wr.heap[w1.heap.size]? = some (.cells #[.int .u8 (kk : Int), .slice (some a) P.length pc, .string str] 35 (0, 0)) ∧ OwnU wr wo.heap.size (.slice (some a) P.length pc) P ∧ ∀ j, (Value.slice (some a) P.length pc).ownBlock = some j → pv2.ownBlock ≠ some j := ⟨by rw [if_pos hk3], hnx, hB, hBx, hPw, hAp⟩
                have FIN := Lib.hid hFIN
                have HI3 := Lib.hid i3
                clear hS hO hB hBx hPw hAp i1 i2 i3 hnx hFIN hodd hfx hk3 hPr HI
                go_wp2_with fail
                go_roundg (P.length - (q + 1))
                case measure => omega
                case rel => exact ⟨q + 1, _, _, _, by omega, rfl, by go_num, rfl, rfl, by rw [HI3.out], FIN.out⟩
              · obtain ⟨y, rfl⟩ := even_half hodd
                have hobj : isObj W F (2 * y) = true := by
                  rcases hfx with h1 | h1
                  · omega
                  · exact h1
                obtain ⟨_, hyl, hym⟩ := isObj_iff.1 hobj
                rw [show 2 * y / 2 = y by omega] at hyl hym
                have hob := HF.out.good.obs y hym
                have e2y : ((2 * y : Nat) : Int) = 2 * (y : Int) := by omega
                have d0 : (2 * (y : Int) % 2 == 0) = true := by rw [beq_iff_eq]; omega
                have hdiv : 2 * (y : Int) / 2 = (y : Int) := by omega
                have hyi : (y : Int) < (W.length : Int) := by omega
                rw [e2y] at hcx
                have HCM := Lib.hid (come_t w.heap.size (.slice ol W.length cl) ov2 pv2 W F S y wr hO hB.size (fun w' hb => HL.out w' (hB.trans hb)) HF.out.good i1 hob)
                have HI2 := Lib.hid i2
                have HI3 := Lib.hid i3
                have HK3 := Lib.hid hk3
                clear hS i1 i2 i3 hobj hym hob hfx hodd hx' e2y hk3 hPr
                have HIO := Lib.hid hO
                have HIB := Lib.hid hB
                have HIX := Lib.hid hBx
                have HIP := Lib.hid hPw
                have HIA := Lib.hid hAp
                clear hO hB hBx hPw hAp HI
                go_wp2_with fail
                refine HCM.out.mono ?_
                rintro e w4 ⟨ov3, pv3, rfl, hO3, hb3, hk4, hn3⟩
                have hFIN : prts W F o s (q + 1) = (if W.getD p.1 0 % 256 ≠ 3 then prts W F o s (q + 1) else s) ∧ OrdS w4 w.heap.size ov3 pv3 (prts W F o s (q + 1)).1 ∧ Below w.heap.size w w4 ∧ w4.heap[w1.heap.size]? = some (.cells #[.int .u8 (kk : Int), .slice (some a) P.length pc, .string str] 35 (0, 0)) ∧ OwnU w4 wo.heap.size (.slice (some a) P.length pc) P ∧ ∀ j, (Value.slice (some a) P.length pc).ownBlock = some j → pv3.ownBlock ≠ some j := by
                  refine ⟨by rw [if_pos HK3.out], by rw [HI2.out]; exact hO3, HIB.out.trans hb3, ?_, own_kept HIP.out hk4 fun j hj hs => ?_, fun j hj hs => ?_⟩
                  · refine (hk4.block _ (lt_of_block HIX.out) fun hs => ?_).trans HIX.out
                    rcases hs with hs | hs
                    · rcases HIO.out.ord.2 with ⟨rfl, _⟩ | ⟨g, cap, cur, rfl, _, hg, _⟩
                      · simp [Value.ownBlock] at hs
                      · simp only [Value.ownBlock, Option.some.injEq] at hs
                        subst hs
                        rw [HIX.out] at hg
                        injection hg with hg
                        injection hg with _ h2
                        exact absurd h2 (by decide)
                    · rcases HIO.out.pla.2 with ⟨rfl, _⟩ | ⟨g, cap, cur, rfl, _, hg, _⟩
                      · simp [Value.ownBlock] at hs
                      · simp only [Value.ownBlock, Option.some.injEq] at hs
                        subst hs
                        rw [HIX.out] at hg
                        injection hg with hg
                        injection hg with _ h2
                        exact absurd h2 (by decide)
                  · rcases hs with hs | hs
                    · exact own_types HIO.out.ord HIP.out (by decide) j hs hj
                    · exact HIA.out j hj hs
                  · rcases hn3 j hs with h1 | h1
                    · exact HIA.out j hj h1
                    · have := (HIP.out.lt j hj).2; omega
                have FIN := Lib.hid hFIN
                clear hFIN hO3 hb3 hk4 hn3
                go_wp2_with fail
                go_roundg (P.length - (q + 1))
                case measure => omega
                case rel => exact ⟨q + 1, _, _, _, by omega, rfl, by go_num, rfl, rfl, by rw [HI3.out], FIN.out⟩
            · obtain rfl : q = P.length := by omega
              have hSe : S = stp W F o s := by
                rw [hS, HP.out.stp_eq]
                split
                · rename_i h3
                  have h1 := HPP.out
                  rw [← HPI.out, if_pos h3] at h1
                  rw [h1]
                · rfl
              obtain ⟨n', hnx⟩ := HP.out.next
              rw [HPI.out, HZS.out, ← hSe] at hnx
              have FIN : Hid (Bfs W F xs S (m + 1) (o + ZS) n' ∧ OrdS wr w.heap.size ov2 pv2 S.1 ∧ Below w.heap.size w wr) := ⟨hnx, hO, hB⟩
              clear hS hSe hnx hO hB hBx hPw hAp HI
              go_wp2_with fail
              go_roundg (W.length + 1 - (o + ZS))
              case measure => omega
              case rel => exact ⟨m + 1, o + ZS, n', S, _, _, by omega, rfl, by go_num, rfl, rfl, rfl, FIN.out⟩
        · have hml : ¬ (m : Int) < (s.1.length : Int) := by omega
          have hse := HK.out.1.done (by omega)
          have hfm := col_form HF.out.good xs
          have hO := HK.out.2.1
          have hB := HK.out.2.2
          rw [hse] at hO hpi hpl
          have HCF := Lib.hid hfm
          have HO := Lib.hid hO
          have HB := Lib.hid hB
          have hsl1 : s.1.length = (colS W F xs).1.length := by rw [hse]
          rw [hsl1] at hovl hml
          clear hse hfm hO hB HK hinv hlt hsl1
          subst hovl
          go_wp2_with fail
          obtain ⟨f, hf⟩ : ∃ f, (colS W F xs).1 = f := ⟨_, rfl⟩
          have HFX : Hid ((colS W F xs).2 = tobjs W F f f ∧ (∀ p ∈ f, Ob W F p.1) ∧ colR W F xs = xs.map (trW W F f) ∧ (∀ x ∈ xs, Knows W F f x) ∧ (∀ p ∈ f, W.getD p.1 0 % 256 ≠ 3 → ∀ x ∈ rst W p.1, Knows W F f x) ∧ (∀ p ∈ f, p.1 < 10000000) ∧ (∀ p ∈ f, p.2 ≤ 10000000) ∧ tot W f ≤ W.length) := by
            obtain ⟨q1, q2, q3, q4, q5⟩ := HCF.out
            have q6 := q2.tot_le
            have q7 := fun p hp => Inv.end_ q2 (p := p) hp
            have q8 := q2.len
            have q9 := q2.ob
            rw [hf] at q1 q3 q4 q5 q6 q7 q8 q9
            refine ⟨q1, q9, q3, q4, q5, fun p hp => ?_, fun p hp => ?_, q6⟩
            · have h1 := (q9 p hp).fits
              have h2 := szX_pos (W.getD p.1 0)
              omega
            · have h1 := q7 p hp
              omega
          rw [hf] at HO hpi hpl hml ⊢
          clear HCF hf
          have HST4 : Hid (OrdS wo w.heap.size _ pv1 f ∧ OwnU wo w.heap.size (.slice none 0 0) (tobjs W F f (f.take 0)) ∧ (∀ j, (Value.slice none 0 0 : Value).ownBlock = some j → pv1.ownBlock ≠ some j) ∧ Below w.heap.size w wo) := ⟨HO.out, World.ownsRow_nil _ _ _ _, by simp [Value.ownBlock], HB.out⟩
          go_loopg [9, 17] f.length (fun K outs i wr => ∃ (k : Nat) (outv : Value), k ≤ f.length ∧ K = f.length - k ∧ i = .int .i64 k ∧ outv = outs ∧ Hid (OrdS wr w.heap.size (.slice oo f.length oc) pv1 f ∧ OwnU wr w.heap.size outv (tobjs W F f (f.take k)) ∧ (∀ j, outv.ownBlock = some j → pv1.ownBlock ≠ some j) ∧ Below w.heap.size w wr))
          case atStart => exact ⟨0, _, Nat.zero_le _, by omega, rfl, rfl, HST4.out⟩
          case round =>
            obtain ⟨k, outv, hk, rfl, rfl, hout, HK⟩ := hrel
            subst hout
            clear HST4 HO HB
            by_cases hlt : k < f.length
            · have hki : (k : Int) < (f.length : Int) := by omega
              obtain ⟨g1, d1, g2, d2, e1, -, -, -, hcs⟩ := HK.out.1.cells (by omega)
              simp only [Value.slice.injEq] at e1
              obtain ⟨rfl, -, rfl⟩ := e1
              have hcm := (hcs k hlt).1
              obtain ⟨p, hp⟩ : ∃ p, f[k]? = some p := ⟨_, List.getElem?_eq_getElem hlt⟩
              have hgm : f.getD k (0, 0) = p := by rw [List.getD_eq_getElem?_getD, hp]; rfl
              rw [hgm] at hcm
              have hpm := List.mem_of_getElem? hp
              have hob := HFX.out.2.1 p hpm
              have hfit := hob.fits
              have hzp := szX_pos (W.getD p.1 0)
              have hpw : p.1 < W.length := by omega
              have HAT := Lib.hid (at_lit2 (.slice ol W.length cl) W p.1 wr (HL.out wr HK.out.2.2.2) hpw HF.out.good.words hmx hob.ok)
              have HPG := Lib.hid hp
              have HPM := Lib.hid hpm
              have HOB := Lib.hid hob
              clear hcs hgm hp hpm hob
              obtain ⟨pi, hpi2⟩ : ∃ pi, p.1 = pi := ⟨_, rfl⟩
              rw [hpi2] at hcm hpw hfit hzp HAT HOB
              have HPI := Lib.hid hpi2
              clear hpi2
              obtain ⟨wp, rfl⟩ : ∃ wp : World, wp = wr := ⟨_, rfl⟩
              have hnb := HK.out.2.2.2.size
              go_wp2_with fail
              refine HAT.out.mono ?_
              rintro e w1 ⟨kk, po, pc, str, N, P, rfl, ho, hb1, -, hP, hkk, hstr⟩
              have hkl : kk < 256 := by omega
              have hkk' : (kk : Int) ≤ 255 := by omega
              have hrl := rst_length HOB.out
              have hPl : P.length ≤ W.length := by
                rw [hP]
                split
                · omega
                · exact Nat.zero_le _
              have hPi : (P.length : Int) ≤ 10000000 := by omega
              have HPP := Lib.hid hP
              have HPW : Hid (∀ x ∈ P, x < 18446744073709551616) := fun x hx => by
                rw [hP] at hx
                split at hx
                · exact HF.out.good.words _ (List.mem_of_mem_drop (List.mem_of_mem_take hx))
                · cases hx
              have hw1s := hb1.size
              have HKK := Lib.hid hkk
              have HSTR := Lib.hid hstr
              have hb2 := hb1.alloc hb1.size (.cells #[.int .u8 (kk : Int), .slice po P.length pc, .string str] 35)
              have hI0 : In4 w wp (w1.alloc (.cells #[.int .u8 (kk : Int), .slice po P.length pc, .string str] 35)) f (.slice (some ⟨g1, 0, none⟩) f.length oc) pv1 outv (tobjs W F f (f.take k)) w1.heap.size (.int .u8 (kk : Int)) (.slice po P.length pc) (.string str) P (.slice none 0 0) [] :=
                ⟨HK.out.1.below hb2, own_below HK.out.2.1 hb2, heap_alloc_new w1 _, (own_base ho hnb).alloc _, World.ownsRow_nil _ _ _ _, HK.out.2.2.1, by simp [Value.ownBlock], by simp [Value.ownBlock], by simp [Value.ownBlock], HK.out.2.2.2.trans (hb2.mono hnb), hb2.size, hnb⟩
              have HI0 := Lib.hid hI0
              clear hP ho hb1 hb2 hkk hstr hI0 hrl HK hcm
              go_wp2_with fail
              obtain ⟨w2, hw2⟩ : ∃ w2, w1.alloc (.cells #[.int .u8 (kk : Int), .slice po P.length pc, .string str] 35) = w2 := ⟨_, rfl⟩
              rw [hw2] at HI0 ⊢
              clear hw2
              go_loopg [20, 21] P.length (fun K ps i wr => ∃ (q : Nat) (prv : Value), q ≤ P.length ∧ K = P.length - q ∧ i = .int .i64 q ∧ prv = ps ∧ Hid (In4 w wp wr f (.slice (some ⟨g1, 0, none⟩) f.length oc) pv1 outv (tobjs W F f (f.take k)) w1.heap.size (.int .u8 (kk : Int)) (.slice po P.length pc) (.string str) P prv ((P.take q).map (thr f))))
              case atStart => exact ⟨0, _, Nat.zero_le _, by omega, rfl, rfl, HI0.out⟩
              case round =>
                obtain ⟨q, prv, hq, rfl, rfl, hpr, HI⟩ := hrel
                subst hpr
                clear HI0
                obtain ⟨_, b1, _⟩ := ob_cells HI.out.boxc
                by_cases hqp : q < P.length
                · have hqi : (q : Int) < (P.length : Int) := by omega
                  obtain ⟨a, pc', hpv2, _, hcc⟩ := at_cell (RdV.of_own HI.out.par) hqp
                  simp only [Value.slice.injEq] at hpv2
                  obtain ⟨rfl, -, rfl⟩ := hpv2
                  have hcx := hcc q hqp
                  have hgx : P[q]? = some (P.getD q 0) := by rw [List.getD_eq_getElem?_getD, List.getElem?_eq_getElem hqp]; rfl
                  have hxm : P.getD q 0 ∈ P := List.mem_of_getElem? hgx
                  have hxl : P.getD q 0 < 18446744073709551616 := HPW.out _ hxm
                  have htk : P.take (q + 1) = P.take q ++ [P.getD q 0] := by
                    rw [List.take_succ_eq_append_getElem hqp]
                    congr 2
                    rw [List.getElem?_eq_getElem hqp] at hgx
                    injection hgx
                  have hmap : (P.take (q + 1)).map (thr f) = (P.take q).map (thr f) ++ [thr f (P.getD q 0)] := by rw [htk, List.map_append]; rfl
                  have HTH := Lib.hid (there_t w.heap.size _ pv1 f (P.getD q 0) wr HI.out.ord hxl (by omega) HFX.out.2.2.2.2.2.1 HFX.out.2.2.2.2.2.2.1)
                  obtain ⟨v', w3, r3, hI3⟩ := HI.out.push (thr f (P.getD q 0)) (by rw [List.length_map, List.length_take]; omega)
                  rw [← hmap] at hI3
                  have R3 := Lib.hid r3
                  have HI3 := Lib.hid hI3
                  clear hcc hgx hxm htk hmap r3 hI3 hxl
                  generalize thr f (P.getD q 0) = y at *
                  generalize P.getD q 0 = x at *
                  go_wp2_with fail
                  refine HTH.out.mono ?_
                  rintro e w' ⟨rfl, rfl⟩
                  go_wp2_with (at_builtin; refine wpList_append_known rfl (.tmp 123) (.tmp 132) 28 28 (by rfl) _ _ _ (by rfl) (by rfl) R3.out ?_)
                  go_roundg (P.length - (q + 1))
                  case measure => omega
                  case rel => exact ⟨q + 1, v', by omega, rfl, by go_num, rfl, HI3.out⟩
                · obtain rfl : q = P.length := by omega
                  have hI := HI.out
                  rw [List.take_length] at hI
                  obtain ⟨op, cp, hprl, _⟩ := own_slice hI.pr
                  rw [List.length_map] at hprl
                  have hfz := frozen_of_row _ _ 1 _ _ hI.boxc
                  have hbl := lt_of_block hI.boxc
                  have hnx := tobjs_succ (W := W) (F := F) (f := f) HPG.out
                  subst hprl
                  obtain ⟨b0, b1, b2⟩ := ob_cells hI.boxc
                  have hbs := ob_set1 (u := .slice op P.length cp) hI.boxc
                  have hnw := heap_alloc_new (wr.setCell ⟨w1.heap.size, 1, none⟩ (.slice op P.length cp)) (.cells #[.int .u8 (kk : Int), .slice op P.length cp, .string str] 35)
                  have hzz : (wr.setCell ⟨w1.heap.size, 1, none⟩ (.slice op P.length cp)).heap.size = wr.heap.size := by simp
                  rw [hzz] at hnw
                  have hpr6 : OwnU ((wr.setCell ⟨w1.heap.size, 1, none⟩ (.slice op P.length cp)).alloc (.cells #[.int .u8 (kk : Int), .slice op P.length cp, .string str] 35)) wp.heap.size (.slice op P.length cp) (P.map (thr f)) := (ownsRow_setCell_other (a := ⟨w1.heap.size, 1, none⟩) hI.pr (not_box hI.boxc hI.pr) _).alloc _
                  have hout6 : OwnU ((wr.setCell ⟨w1.heap.size, 1, none⟩ (.slice op P.length cp)).alloc (.cells #[.int .u8 (kk : Int), .slice op P.length cp, .string str] 35)) w.heap.size outv (tobjs W F f (f.take k)) := (ownsRow_setCell_other (a := ⟨w1.heap.size, 1, none⟩) hI.out (not_box hI.boxc hI.out) _).alloc _
                  have hord6 : OrdS ((wr.setCell ⟨w1.heap.size, 1, none⟩ (.slice op P.length cp)).alloc (.cells #[.int .u8 (kk : Int), .slice op P.length cp, .string str] 35)) w.heap.size (.slice (some ⟨g1, 0, none⟩) f.length oc) pv1 f := by
                    refine ⟨(ownsRow_setCell_other (a := ⟨w1.heap.size, 1, none⟩) hI.ord.ord (fun e => ?_) _).alloc _, (ownsRow_setCell_other (a := ⟨w1.heap.size, 1, none⟩) hI.ord.pla (not_box hI.boxc hI.ord.pla) _).alloc _⟩
                    rcases hI.ord.ord.2 with ⟨e2, _⟩ | ⟨g, cap, cur, e2, _, hg, _⟩
                    · cases e2
                    · rw [e2] at e
                      simp only [Value.ownBlock, Option.some.injEq] at e
                      subst e
                      rw [hI.boxc] at hg
                      injection hg with hg
                      injection hg with _ h2
                      exact absurd h2 (by decide)
                  have hb6 : Below w.heap.size w ((wr.setCell ⟨w1.heap.size, 1, none⟩ (.slice op P.length cp)).alloc (.cells #[.int .u8 (kk : Int), .slice op P.length cp, .string str] 35)) := (hI.below.setCell (show w.heap.size ≤ w1.heap.size by omega) _).alloc (by rw [hzz]; exact hI.below.size) _
                  have HWD := Lib.hid (refwords_obj (f := f) (pv := .slice op P.length cp) HF.out HOB.out (fun h3 => by have := HFX.out.2.2.2.2.1 p HPM.out; rw [HPI.out] at this; exact this h3) hnw (by rw [← HPP.out]; exact RdV.of_own hpr6) HKK.out HSTR.out)
                  have HO6 := Lib.hid hout6
                  have HR6 := Lib.hid hord6
                  have HB6 := Lib.hid hb6
                  have HAO : Hid (∀ j, outv.ownBlock = some j → pv1.ownBlock ≠ some j) := hI.ao
                  have HNX := Lib.hid hnx
                  have htl4 : (tobjs W F f (f.take k)).length + (tobj W F f pi).length ≤ 10000000 := by
                    have h1 := tobjs_length (F := F) (f := f) (W := W) (ps := f.take (k + 1)) fun q hq => HFX.out.2.1 q (List.mem_of_mem_take hq)
                    rw [hnx, List.length_append, HPI.out] at h1
                    have h2 := tot_mono (W := W) (ps := f) (show k + 1 ≤ f.length by omega)
                    rw [List.take_length] at h2
                    have h3 := HFX.out.2.2.2.2.2.2.2
                    omega
                  have HTL := Lib.hid htl4
                  clear hbs hnw hzz hpr6 hout6 hord6 hb6 hI HI hnx htl4
                  go_wp2_with fail
                  refine HWD.out.mono ?_
                  rintro e w7 ⟨wv, rfl, hwv, hb7⟩
                  have ho7 := own_below HO6.out hb7
                  obtain ⟨out8, w8, r8, o8, g8, a8⟩ := append_one (ty := 28) (t := 28) u64Info Try.underlying28 rfl ho7 (RdV.of_own hwv) (Ws_one _) (by rw [Ws_length]; have := HTL.out; omega) (by rw [Ws_length]; have := HTL.out; omega) (Nat.le_trans HB6.out.size hb7.size)
                  have hk8 : Kept (fun j => outv.ownBlock = some j) w7 w8 := (Kept.refl _ _).grown g8 fun j hj => .inl hj
                  have hord7 := HR6.out.below hb7
                  have hFIN : OrdS w8 w.heap.size (.slice (some ⟨g1, 0, none⟩) f.length oc) pv1 f ∧ OwnU w8 w.heap.size out8 (tobjs W F f (f.take (k + 1))) ∧ (∀ j, out8.ownBlock = some j → pv1.ownBlock ≠ some j) ∧ Below w.heap.size w w8 := by
                    refine ⟨⟨own_kept hord7.ord hk8 fun j hj hs => own_types hord7.ord ho7 (by decide) j hj hs, own_kept hord7.pla hk8 fun j hj hs => HAO.out j hs hj⟩, ?_, fun j hj e => ?_, (HB6.out.trans (hb7.mono HB6.out.size)).trans (hk8.below (Nat.le_trans HB6.out.size hb7.size) fun j hj => (ho7.lt j hj).1)⟩
                    · rw [HNX.out, HPI.out]
                      unfold OwnU
                      rw [List.length_append, Ws_append]
                      rw [Ws_length] at o8
                      exact o8
                    · rcases a8 with a8 | a8
                      · exact HAO.out j (by rw [← a8]; exact hj) e
                      · rw [a8] at hj
                        injection hj with hj
                        have := (hord7.pla.lt j e).2
                        omega
                  have R8 := Lib.hid r8
                  have FIN := Lib.hid hFIN
                  clear ho7 r8 o8 g8 a8 hk8 hord7 hFIN hwv hb7
                  go_wp2_with (at_builtin; refine wpList_append_known rfl (.tmp 136) (.tmp 139) 28 28 (by rfl) _ _ _ (by rfl) (by rfl) R8.out ?_)
                  go_roundg (f.length - (k + 1))
                  case measure => omega
                  case rel => exact ⟨k + 1, out8, by omega, rfl, by go_num, rfl, FIN.out⟩
            · obtain rfl : k = f.length := by omega
              have hki : ¬ (f.length : Int) < (f.length : Int) := by omega
              obtain ⟨hO, hU, hA, hB⟩ := HK.out
              rw [List.take_length] at hU
              have HST6 : Hid (OrdS wr w.heap.size (.slice oo f.length oc) pv1 f ∧ OwnU wr w.heap.size outv (tobjs W F f f) ∧ OwnU wr w.heap.size (.slice none 0 0) ((xs.take 0).map (thr f)) ∧ (∀ j, (Value.slice none 0 0 : Value).ownBlock = some j → pv1.ownBlock ≠ some j ∧ outv.ownBlock ≠ some j) ∧ Below w.heap.size w wr) := ⟨hO, hU, World.ownsRow_nil _ _ _ _, by simp [Value.ownBlock], hB⟩
              clear hO hU hA hB HK
              go_wp2_with fail
              go_loopg [10, 22] xs.length (fun K ts i wr => ∃ (k : Nat) (tov : Value), k ≤ xs.length ∧ K = xs.length - k ∧ i = .int .i64 k ∧ tov = ts ∧ Hid (OrdS wr w.heap.size (.slice oo f.length oc) pv1 f ∧ OwnU wr w.heap.size outv (tobjs W F f f) ∧ OwnU wr w.heap.size tov ((xs.take k).map (thr f)) ∧ (∀ j, tov.ownBlock = some j → pv1.ownBlock ≠ some j ∧ outv.ownBlock ≠ some j) ∧ Below w.heap.size w wr))
              case atStart => exact ⟨0, _, Nat.zero_le _, by omega, rfl, rfl, HST6.out⟩
              case round =>
                obtain ⟨k, tov, hk6, rfl, rfl, hto, HK⟩ := hrel
                subst hto
                clear HST6
                by_cases hlt6 : k < xs.length
                · have hki6 : (k : Int) < (xs.length : Int) := by omega
                  obtain ⟨hO, hU, hT, hA, hB⟩ := HK.out
                  obtain ⟨a, cr', hrv, _, hc⟩ := at_cell (HR.out wr hB) hlt6
                  simp only [Value.slice.injEq] at hrv
                  obtain ⟨rfl, -, rfl⟩ := hrv
                  have hcx := hc k hlt6
                  have hgx : xs.getD k 0 = xs[k] := by rw [List.getD_eq_getElem?_getD, List.getElem?_eq_getElem hlt6]; rfl
                  rw [hgx] at hcx
                  have hfx := HX.out xs[k] (List.getElem_mem hlt6)
                  have hmap : (xs.take (k + 1)).map (thr f) = (xs.take k).map (thr f) ++ [thr f xs[k]] := by rw [List.take_succ_eq_append_getElem hlt6, List.map_append]; rfl
                  have HTH := Lib.hid (there_t w.heap.size _ pv1 f xs[k] wr hO hfx.2 (by omega) HFX.out.2.2.2.2.2.1 HFX.out.2.2.2.2.2.2.1)
                  obtain ⟨v', w3, r3, o3, k3, n3⟩ := push_u64 (x := thr f xs[k]) hT hB.size (by rw [List.length_map, List.length_take]; omega)
                  rw [← hmap] at o3
                  have hFIN : OrdS w3 w.heap.size (.slice oo f.length oc) pv1 f ∧ OwnU w3 w.heap.size outv (tobjs W F f f) ∧ OwnU w3 w.heap.size v' ((xs.take (k + 1)).map (thr f)) ∧ (∀ j, v'.ownBlock = some j → pv1.ownBlock ≠ some j ∧ outv.ownBlock ≠ some j) ∧ Below w.heap.size w w3 := by
                    refine ⟨⟨own_kept hO.ord k3 fun j hj hs => own_types hO.ord hT (by decide) j hj hs, own_kept hO.pla k3 fun j hj hs => (hA j hs).1 hj⟩, own_kept hU k3 fun j hj hs => (hA j hs).2 hj, o3, fun j hj => ?_, hB.trans (k3.below hB.size fun j hj => (hT.lt j hj).1)⟩
                    rcases n3 j hj with h1 | h1
                    · exact hA j h1
                    · exact ⟨fun e => by have := (hO.pla.lt j e).2; omega, fun e => by have := (hU.lt j e).2; omega⟩
                  have R3 := Lib.hid r3
                  have FIN := Lib.hid hFIN
                  have hxl := hfx.2
                  clear hc hgx hfx hmap r3 o3 k3 n3 hFIN hO hU hT hA hB HK
                  generalize thr f xs[k] = y at *
                  generalize xs[k] = x at *
                  go_wp2_with fail
                  refine HTH.out.mono ?_
                  rintro e w' ⟨rfl, rfl⟩
                  go_wp2_with (at_builtin; refine wpList_append_known rfl (.tmp 147) (.tmp 155) 28 28 (by rfl) _ _ _ (by rfl) (by rfl) R3.out ?_)
                  go_roundg (xs.length - (k + 1))
                  case measure => omega
                  case rel => exact ⟨k + 1, v', by omega, rfl, by go_num, rfl, FIN.out⟩
                · obtain rfl : k = xs.length := by omega
                  obtain ⟨hO, hU, hT, hA, hB⟩ := HK.out
                  rw [List.take_length] at hT
                  have hmm : xs.map (thr f) = colR W F xs := by
                    rw [HFX.out.2.2.1]
                    exact List.map_congr_left fun x hx => thr_tr (HX.out x hx).1 (HFX.out.2.2.2.1 x hx)
                  rw [hmm] at hT
                  have hfin : RcPost w wr W F xs (.returned (.tuple #[outv, tov])) := by
                    refine ⟨outv, tov, rfl, ?_, hT, fun j hj e => (hA j e).2 hj, hB⟩
                    rw [HFX.out.1]
                    exact hU
                  have FIN := Lib.hid hfin
                  clear hfin hO hU hT hA hB hmm HK
                  go_wp2_with fail
                  go_ret2
                  exact FIN.out
end Go.Proofs.Ytkdhajiplonloaa
