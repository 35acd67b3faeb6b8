/- HeapCopies: the law's walk. -/
import Derived.Test.YtmljelcmjagjjaaHeaE
namespace Go.Proofs.Ytmljelcmjagjjaa
open Go.RowKit HeaM

def lsOf (ss : List ByteArray) : List (List UInt8) := ss.map fun s => s.data.toList
theorem lsOf_length (ss : List ByteArray) : (lsOf ss).length = ss.length := by simp [lsOf]
theorem lsOf_get (ss : List ByteArray) (k : Nat) (_h : k < ss.length) (h' : k < (lsOf ss).length) : (lsOf ss)[k] = ss[k].data.toList := by simp [lsOf]
theorem S_of (s : ByteArray) : S s.data.toList = .string s := by
  unfold S
  congr 1

/-- Behind k texts. -/
def CpR (w wr : World) (hb q c : Nat) (ls : List (List UInt8)) (k : Nat) (rv : Value) : Prop :=
  ∃ v1 v2, HAt wr hb w.heap.size q c v1 v2 (encW (ls.take k)) (encF (ls.take k)) ∧ OwnW wr w.heap.size rv (places ls k) ∧ (∀ j, rv.ownBlock = some j → ¬ three hb v1 v2 j) ∧ (∀ j, three hb v1 v2 j → w.heap.size ≤ j) ∧ Below w.heap.size w wr

/-- One text more, its place behind the others. -/
theorem cpr_step {w wr w1 : World} {hb q c k : Nat} {ls : List (List UInt8)} {rv v1 v2 u1 u2 : Value} (hk : k < ls.length) (hk30 : ls.length ≤ 1000)
    (_h : HAt wr hb w.heap.size q c v1 v2 (encW (ls.take k)) (encF (ls.take k))) (ho : OwnW wr w.heap.size rv (places ls k)) (hd : ∀ j, rv.ownBlock = some j → ¬ three hb v1 v2 j) (hn : ∀ j, three hb v1 v2 j → w.heap.size ≤ j) (hbl : Below w.heap.size w wr)
    (hP : LPost wr w1 hb w.heap.size q c v1 v2 u1 u2 (encW (ls.take (k + 1))) (encF (ls.take (k + 1)))) :
    ∃ rv' w2, (Builtin.append_ #[35, 35] 35 #[rv, .slice (some ⟨w1.heap.size, 0, none⟩) 1 1]).run Try.prog (w1.alloc (.cells #[.int .u64 ((2 * (encW (ls.take k)).length : Nat) : Int)] 23)) = .ok rv' w2 ∧ CpR w w2 hb q c ls (k + 1) rv' := by
  have hlen := places_length ls k
  have ho1 : w1.ownsRow w.heap.size 23 1 rv k (Ws (places ls k)) := by
    have := own_kept ho hP.kept hd
    rw [hlen] at this
    exact this
  have hs1 := hP.kept.size
  have hs0 := hbl.size
  obtain ⟨rv', w2, r2, o2, g2, a2⟩ := append_one (ty := 35) (t := 35) wordInfo Try.underlying35 rfl (ho1.alloc (.cells #[.int .u64 ((2 * (encW (ls.take k)).length : Nat) : Int)] 23)) (RdV.lit w1 (.int .u64 ((2 * (encW (ls.take k)).length : Nat) : Int)) 23) (by intro u hu; simp at hu; subst hu; rfl) (by simp; omega) (by simp; omega) (by simp; omega)
  have hb1 : Below w.heap.size w w1 := hbl.trans (hP.kept.below hs0 hn)
  have hn1 : ∀ j, three hb u1 u2 j → w.heap.size ≤ j := fun j hj => (hP.new j hj).elim (hn j) (fun e => by omega)
  have hd1 : ∀ j, rv.ownBlock = some j → ¬ three hb u1 u2 j := fun j hj hs => (hP.new j hs).elim (hd j hj) (fun e => by have := (ho.lt j hj).2; omega)
  refine ⟨rv', w2, r2, u1, u2, ?_, ?_, ?_, hn1, ?_⟩
  · refine (hP.at_.below ((Below.refl _ _).alloc (Nat.le_refl _) _) (Nat.le_refl _)).kept (S := fun j => rv.ownBlock = some j) ⟨g2.os, g2.tape, g2.output, g2.size, fun j hj hs => g2.block j hj (fun e => hs e.symm)⟩ (fun j hj hs => hd1 j hs hj)
  · unfold OwnW
    rw [places_length, places_succ, Ws_append]
    exact o2
  · intro j hj hs
    rcases a2 with a2 | a2
    · exact hd1 j (by rw [← a2]; exact hj) hs
    · rw [a2] at hj
      injection hj with hj
      have := hP.at_.own_lt j hs
      simp at hj
      omega
  · exact (hb1.alloc (by omega) _).grown g2 (by simp; omega) (fun j hj => (ho.lt j hj).1)

set_option maxHeartbeats 4000000 in
set_option maxRecDepth 100000 in
theorem copies_walk (v : Value) (ss : List ByteArray) (w : World) (h : RdV w v (ss.map .string)) :
    Calls Try.prog 5 #[v] w fun e w' => e = .returned (.bool true) ∧ Below w.heap.size w w' := by
  obtain ⟨o, cap, hv, hcap, hmax⟩ := h.slice
  rw [List.length_map] at hv hcap
  have HR := Lib.hid h
  clear h
  subst hv
  unfold maxLen at hmax
  by_cases h30 : 30 < ss.length
  · have h30' : (30 : Int) < (ss.length : Int) := by omega
    have h31' : (ss.length : Int) > 30 := by omega
    go_enter Try.func5, Try.ntmps5
    go_wp2_with fail
    refine (awake _).mono ?_
    rintro e w1 ⟨rfl, hb1⟩
    go_wp2_with fail
    refine (awake _).mono ?_
    rintro e w2 ⟨rfl, hb2⟩
    go_wp2_with fail
    go_ret
    exact ⟨rfl, hb1.trans (hb2.mono hb1.size)⟩
  · have h30' : ¬ (30 : Int) < (ss.length : Int) := by omega
    have h30i : (ss.length : Int) ≤ 30 := by omega
    have h30n : ss.length ≤ 30 := by omega
    go_enter Try.func5, Try.ntmps5
    go_wp2_with fail
    refine (awake _).mono ?_
    rintro e w1 ⟨rfl, hb1⟩
    have HB1 := Lib.hid hb1
    have hs1 := hb1.size
    clear hb1
    go_wp2_with fail
    refine (new_ok 100000 _ (by omega) (by omega)).mono ?_
    rintro e w' ⟨rfl, rfl⟩
    have start : CpR w (w1.alloc (emptyHeap 100000)) w1.heap.size 100000 0 (lsOf ss) 0 (.slice none 0 0) := by
      have hf := HAt.fresh w1 100000
      refine ⟨_, _, ⟨hf.cell, own_base hf.own1 hs1, own_base hf.own2 hs1⟩, World.ownsRow_nil _ _ _ _, by simp [Value.ownBlock], ?_, HB1.out.alloc hs1 _⟩
      intro j hj
      rcases hj with rfl | hj | hj
      · exact hs1
      · simp [Value.ownBlock] at hj
      · simp [Value.ownBlock] at hj
    have START := Lib.hid start
    clear start
    go_wp2_with fail
    go_loopw [5, 6] (fun rv i wr => ∃ k : Nat, k ≤ ss.length ∧ i = .int .i64 k ∧ Hid ((∀ l ∈ (lsOf ss).take k, l.length ≤ 1000) ∧ CpR w wr w1.heap.size 100000 0 (lsOf ss) k rv)) (fun _ i _ => ss.length - (intOf i).toNat)
    case atStart => exact ⟨0, Nat.zero_le _, rfl, by simp, START.out⟩
    case round =>
      obtain ⟨k, hk, rfl, HK⟩ := hrel
      clear START
      by_cases hlt : k < ss.length
      · obtain ⟨v1, v2, hH, hO, hD, hN, hB⟩ := HK.out.2
        have hkl : k < (lsOf ss).length := by rw [lsOf_length]; exact hlt
        obtain ⟨a, _, ho, hcell0⟩ := HR.out.at (k := k) (u := .string ss[k]) (by simp [hlt])
        simp only [Value.slice.injEq] at ho
        obtain ⟨rfl, -⟩ := ho
        have hcell := (hB.cell (World.block_lt_of_cell? w _ hcell0)).trans hcell0
        have hk0 : (k : Int) < (ss.length : Int) := by omega
        obtain ⟨s, hs⟩ : ∃ s, ss[k] = s := ⟨_, rfl⟩
        rw [hs] at hcell
        have hls : (lsOf ss)[k] = s.data.toList := by rw [lsOf_get ss k hlt hkl, hs]
        have HLS := Lib.hid hls
        clear hls hs hcell0
        by_cases hbig : 1000 < s.size
        · have hbig' : (1000 : Int) < (s.size : Int) := by omega
          have HB := Lib.hid hB
          clear hH hO hD hN hB
          go_wp2_with fail
          go_ret
          exact ⟨rfl, HB.out⟩
        · have hbig' : ¬ (1000 : Int) < (s.size : Int) := by omega
          have g1 := encW_le _ HK.out.1
          rw [List.length_take] at g1
          have hn3 : need 3 s.size ≤ 130 := by show 1 + (s.size + 7) / 8 ≤ _; omega
          have HPT := Lib.hid (puttext_room w1.heap.size w.heap.size 100000 0 v1 v2 (encW ((lsOf ss).take k)) (encF ((lsOf ss).take k)) s (.slice none 0 0) wr hH (by omega) hB.size (by omega) (encFW _) (by omega))
          have hall : ∀ l ∈ (lsOf ss).take (k + 1), l.length ≤ 1000 := by
            intro l hl
            rw [List.take_succ_eq_append_getElem hkl, List.mem_append, List.mem_singleton] at hl
            rcases hl with hl | rfl
            · exact HK.out.1 l hl
            · rw [HLS.out]; show s.size ≤ 1000; omega
          have ALL := Lib.hid hall
          have HH := Lib.hid hH
          have HO := Lib.hid hO
          have HD := Lib.hid hD
          have HN := Lib.hid hN
          have HB := Lib.hid hB
          clear hH hO hD hN hB hall g1 hn3
          go_wp2_with fail
          refine HPT.out.mono ?_
          rintro e w2 ⟨rfl, u1, u2, hP⟩
          obtain ⟨rv', w3, r3, c3⟩ := cpr_step hkl (by rw [lsOf_length]; omega) HH.out HO.out HD.out HN.out HB.out (u1 := u1) (u2 := u2) (w1 := w2) (by
            rw [encW_succ _ _ hkl, encF_succ _ _ hkl, HLS.out]
            exact hP)
          have R3 := Lib.hid r3
          have C3 := Lib.hid c3
          clear r3 c3 hP
          generalize (encW ((lsOf ss).take k)).length = pl at *
          go_wp2_with (at_builtin; refine wpList_append_known rfl (.tmp 47) (.tmp 49) 35 35 (by rfl) _ _ _ (by rfl) (by rfl) R3.out ?_)
          go_roundw
          case rel => exact ⟨k + 1, by omega, by go_num, ALL.out, C3.out⟩
          case measure => simp [intOf]; omega
      · obtain rfl : k = ss.length := by omega
        have hall := HK.out.1
        have hC := HK.out.2
        rw [← lsOf_length, List.take_length] at hall
        obtain ⟨wo, rfl⟩ : ∃ wo : World, wo = wr := ⟨_, rfl⟩
        obtain ⟨v1, v2, hH, hO, hD, hN, hB⟩ := hC
        have htk : (lsOf ss).take ss.length = lsOf ss := by rw [← lsOf_length, List.take_length]
        have hlen := lsOf_length ss
        rw [htk] at hH
        have hle := encW_le _ hall
        have hfw := encFW (lsOf ss)
        have HCO := Lib.hid (copy_t w1.heap.size w.heap.size 100000 0 v1 v2 (encW (lsOf ss)) (encF (lsOf ss)) wo hH (by omega) hfw)
        have HH := Lib.hid hH
        have HO := Lib.hid hO
        have HD := Lib.hid hD
        have HN := Lib.hid hN
        have HB := Lib.hid hB
        have HA := Lib.hid hall
        have HLE := Lib.hid hle
        have HFW := Lib.hid hfw
        have HLEN := Lib.hid hlen
        have sB := hB.size
        clear hH hO hD hN hB hall hle htk hfw hlen HK
        go_wp2_with fail
        refine HCO.out.mono ?_
        rintro e wA ⟨d, y1, y2, rfl, hA, hbA, hnA⟩
        have hHA := HH.out.below hbA (Nat.le_refl _)
        have HW1 := Lib.hid (words_t _ _ _ _ _ _ _ _ wA hHA (by have := HLE.out; have := HLEN.out; omega))
        have sA := hbA.size
        have HCA := Lib.hid hA
        have HBA := Lib.hid hbA
        have HNA := Lib.hid hnA
        have HHA := Lib.hid hHA
        clear hA hbA hnA hHA HCO
        go_wp2_with fail
        refine HW1.out.mono ?_
        rintro e wB ⟨ws, rfl, hws, hbB⟩
        have HW2 := Lib.hid (lwords_t ws (encW (lsOf ss)) wB (RdV.of_own hws) (by have := HLE.out; have := HLEN.out; omega))
        have sB2 := hbB.size
        have HBB := Lib.hid hbB
        clear hws hbB HW1
        go_wp2_with fail
        refine HW2.out.mono ?_
        rintro e wC ⟨was, rfl, hwas, hbC⟩
        have sC := hbC.size
        have hAC : Below wA.heap.size wA wC := HBB.out.trans (hbC.mono sB2)
        have hHC := HHA.out.below hAC (Nat.le_refl _)
        have hdC := HCA.out.below hAC (Nat.le_refl _)
        have HCol := Lib.hid (collect_none w1.heap.size w.heap.size 100000 0 v1 v2 (encW (lsOf ss)) (encF (lsOf ss)) none 0 wC hHC HFW.out (by have := HLE.out; have := HLEN.out; omega) (by omega) (by omega))
        have HWAS := Lib.hid hwas
        have HAC := Lib.hid hAC
        have HDC := Lib.hid hdC
        have HHC := Lib.hid hHC
        clear hwas hbC hAC hdC hHC HW2
        go_wp2_with fail
        refine HCol.out.mono ?_
        rintro e wD ⟨rfl, x1, x2, hP⟩
        have hlt3 : ∀ j, three w1.heap.size v1 v2 j → j < wo.heap.size := fun j hj => HH.out.own_lt j hj
        have hdD : HAt wD d wo.heap.size 100000 0 y1 y2 (encW (lsOf ss)) (encF (lsOf ss)) := HDC.out.kept hP.kept fun j hj hs => by have := HNA.out j hj; have := hlt3 j hs; omega
        have hwasD : OwnU wD wB.heap.size was (encW (lsOf ss)) := own_kept HWAS.out hP.kept fun j hj hs => by have := (HWAS.out.lt j hj).1; have := hlt3 j hs; omega
        have sD := hP.kept.size
        have hn4 : need 3 (⟨#[109, 111, 114, 101]⟩ : ByteArray).size = 2 := by decide
        have HPT := Lib.hid (puttext_room d wo.heap.size 100000 0 y1 y2 (encW (lsOf ss)) (encF (lsOf ss)) ⟨#[109, 111, 114, 101]⟩ (.slice none 0 0) wD hdD (by omega) (by omega) (by decide) HFW.out (by rw [hn4]; have := HLE.out; have := HLEN.out; omega))
        have HP := Lib.hid hP
        have HLT3 := Lib.hid hlt3
        have HWD := Lib.hid hwasD
        clear hP hlt3 hdD hwasD hn4 HCol
        go_wp2_with fail
        refine HPT.out.mono ?_
        rintro e wE ⟨rfl, z1, z2, hQ⟩
        have sE := hQ.kept.size
        have hn3 : ∀ j, three d y1 y2 j → wo.heap.size ≤ j ∧ j < wA.heap.size := fun j hj => ⟨HNA.out j hj, HCA.out.own_lt j hj⟩
        have hHE : HAt wE w1.heap.size w.heap.size 100000 1 x1 x2 [] [] := HP.out.at_.kept hQ.kept fun j hj hs => by
          rcases HP.out.new j hj with h | h
          · have := HLT3.out j h; have := (hn3 j hs).1; omega
          · have := (hn3 j hs).2; omega
        have hwasE : OwnU wE wB.heap.size was (encW (lsOf ss)) := own_kept HWD.out hQ.kept fun j hj hs => by have := (HWD.out.lt j hj).1; have := (hn3 j hs).2; omega
        have HU := Lib.hid (used_t _ _ _ _ _ _ _ _ wE hHE)
        have hmore : encW (lsOf ss ++ [[109, 111, 114, 101]]) = encW (lsOf ss) ++ ((⟨#[109, 111, 114, 101]⟩ : ByteArray).size * 256 + 3) :: pk (⟨#[109, 111, 114, 101]⟩ : ByteArray).data.toList := by rw [encW_append, encW_one]; rfl
        have hmoreF : encF (lsOf ss ++ [[109, 111, 114, 101]]) = encF (lsOf ss) ++ true :: List.replicate (nw (⟨#[109, 111, 114, 101]⟩ : ByteArray).size) false := by rw [encF_append, encF_one]; rfl
        have hdE : HAt wE d wo.heap.size 100000 0 z1 z2 (encW (lsOf ss ++ [[109, 111, 114, 101]])) (encF (lsOf ss ++ [[109, 111, 114, 101]])) := by
          rw [hmore, hmoreF]; exact hQ.at_
        have hm2 : (encW [[109, 111, 114, 101]]).length = 2 := by decide
        have hlm : (encW (lsOf ss ++ [[109, 111, 114, 101]])).length = (encW (lsOf ss)).length + 2 := by rw [encW_append, List.length_append, hm2]
        have HWW := Lib.hid (words_t d wo.heap.size 100000 0 z1 z2 _ _ wE hdE (by rw [hlm]; have := HLE.out; have := HLEN.out; omega))
        have HQ := Lib.hid hQ
        have HHE := Lib.hid hHE
        have HWE := Lib.hid hwasE
        have HDE := Lib.hid hdE
        have HLM := Lib.hid hlm
        clear hQ hHE hwasE hdE hmore hmoreF hm2 hlm hn3 HPT
        go_wp2_with fail
        refine HU.out.mono ?_
        rintro e w' ⟨rfl, rfl⟩
        go_wp2_with fail
        refine HWW.out.mono ?_
        rintro e wF ⟨cw, rfl, hcw, hbF⟩
        have sF := hbF.size
        have HL2 := Lib.hid (lwords_t cw _ wF (RdV.of_own hcw) (by rw [HLM.out]; have := HLE.out; have := HLEN.out; omega))
        have HBF := Lib.hid hbF
        clear hcw hbF HWW
        go_wp2_with fail
        refine HL2.out.mono ?_
        rintro e wG ⟨cv, rfl, hcv, hbG⟩
        have hEG : Below wE.heap.size wE wG := HBF.out.trans (hbG.mono sF)
        have sG := hEG.size
        obtain ⟨ow, cwas, hwasv, hwc, _⟩ := own_slice HWE.out
        obtain ⟨g, cc, hcvv, hgc, hgm⟩ : ∃ g cc, cv = .slice (some ⟨g, 0, none⟩) ((encW (lsOf ss)).length + 2) cc ∧ (encW (lsOf ss)).length + 2 ≤ cc ∧ cc ≤ maxLen := by
          have h := hcv
          unfold OwnU at h
          rw [HLM.out] at h
          rcases h.2 with ⟨_, hn⟩ | ⟨g, cc, cur, e, _, _, hc, hm, _⟩
          · omega
          · exact ⟨g, cc, e, hc, hm⟩
        have hr1 : RdW wG (.slice (some ⟨g, 0, none⟩) (encW (lsOf ss)).length cc) (encW (lsOf ss)) := by
          refine .inr ⟨⟨g, 0, none⟩, cc, by rw [Ws_length], by rw [Ws_length]; omega, hgm, fun j u hj => ?_⟩
          have h := hcv
          rw [hcvv] at h
          refine World.ownsRow.cells h rfl j u ?_
          rw [encW_append, Ws_append, List.getElem?_append_left (List.getElem?_eq_some_iff.1 hj).1]
          exact hj
        have hr2 : RdW wG was (encW (lsOf ss)) := RdV.below (RdV.of_own HWE.out) hEG
        rw [hwasv] at hr2
        have HS := Lib.hid (same_yes _ _ _ wG hr1 hr2 (by have := HLE.out; have := HLEN.out; omega))
        have HEG := Lib.hid hEG
        have HCV := Lib.hid hcvv
        have HWV := Lib.hid hwasv
        unfold maxLen at hgm
        have hNle := HLE.out
        have hLen := HLEN.out
        have hN1 : (((encW (lsOf ss)).length : Nat) : Int) ≤ 100000 := by omega
        have hN2 : (((encW (lsOf ss)).length : Nat) : Int) ≤ (cc : Int) := by omega
        have hN3 : (encW (lsOf ss)).length ≤ cc := by omega
        generalize hNN : (encW (lsOf ss)).length = N at *
        have HNN := Lib.hid hNN
        have HLen := Lib.hid hLen
        clear hr1 hr2 hcv hEG hbG HL2 hNN hNle hLen
        clear hcvv hwasv
        obtain rfl := HCV.out
        obtain rfl := HWV.out
        go_wp2_with fail
        refine HS.out.mono ?_
        rintro e wH ⟨rfl, hbH⟩
        have HBH := Lib.hid hbH
        clear hbH
        have hEH : Below wE.heap.size wE wH := HEG.out.trans (HBH.out.mono sG)
        have hn3 : ∀ j, three d y1 y2 j → wo.heap.size ≤ j ∧ j < wA.heap.size := fun j hj => ⟨HNA.out j hj, HCA.out.own_lt j hj⟩
        have hOC : OwnW wC w.heap.size u5 (places (lsOf ss) ss.length) := own_kept HO.out (S := fun j => wo.heap.size ≤ j) (Below.kept (HBA.out.trans (HAC.out.mono sA)) fun _ h _ => h) fun j hj hs => by have := (HO.out.lt j hj).2; omega
        have hOD : OwnW wD w.heap.size u5 (places (lsOf ss) ss.length) := own_kept hOC HP.out.kept fun j hj hs => HD.out j hj hs
        have hOE : OwnW wE w.heap.size u5 (places (lsOf ss) ss.length) := own_kept hOD HQ.out.kept fun j hj hs => by have := (HO.out.lt j hj).2; have := (hn3 j hs).1; omega
        have hwC : Below w.heap.size w wC := HB.out.trans ((HBA.out.trans (HAC.out.mono sA)).mono sB)
        have hwD : Below w.heap.size w wD := hwC.trans (HP.out.kept.below (by omega) HN.out)
        have hwE : Below w.heap.size w wE := hwD.trans (HQ.out.kept.below (by omega) fun j hj => by have := (hn3 j hj).1; omega)
        have hwH : Below w.heap.size w wH := hwE.trans (hEH.mono hwE.size)
        have HEH := Lib.hid hEH
        have HOE := Lib.hid hOE
        have HWH := Lib.hid hwH
        have sH := hEH.size
        clear hEH hn3 hOC hOD hOE hwC hwD hwE hwH
        clear hgm hN1 hN2 hN3 hgc hwc
        go_wp2_with fail
        go_loopw [11] (fun i wr => ∃ k : Nat, k ≤ ss.length ∧ i = .int .i64 k ∧ Below wH.heap.size wH wr) (fun i _ => ss.length - (intOf i).toNat)
        case atStart => exact ⟨0, Nat.zero_le _, rfl, Below.refl _ _⟩
        case round =>
          obtain ⟨k, hk, rfl, hbx⟩ := hrel
          by_cases hlt : k < ss.length
          · have hkl : k < (lsOf ss).length := by rw [lsOf_length]; exact hlt
            obtain ⟨a, _, ho, hcell0⟩ := HR.out.at (k := k) (u := .string ss[k]) (by simp [hlt])
            simp only [Value.slice.injEq] at ho
            obtain ⟨rfl, -⟩ := ho
            have tc := (hbx.cell (by have := World.block_lt_of_cell? w _ hcell0; have := HWH.out.size; omega)).trans ((HWH.out.cell (World.block_lt_of_cell? w _ hcell0)).trans hcell0)
            obtain ⟨ra, rc, hrv, hrc⟩ := (RdV.of_own HOE.out).at (k := k) (u := Wv (2 * (encW ((lsOf ss).take k)).length)) (by simp only [Ws, List.getElem?_map, places_get (lsOf ss) ss.length k hlt]; rfl)
            rw [Ws_length, places_length] at hrv
            have rcell := (hbx.cell (by have := World.block_lt_of_cell? wE _ hrc; omega)).trans ((HEH.out.cell (World.block_lt_of_cell? wE _ hrc)).trans hrc)
            have hT : ∀ W1 : World, Below wr.heap.size wr W1 → Calls Try.prog 31 #[.pointer (some ⟨d, 0, none⟩), .int .u64 ((2 * (encW ((lsOf ss).take k)).length : Nat) : Int)] W1 fun e w' => e = .returned (.string ss[k]) ∧ Below W1.heap.size W1 w' := by
              intro W1 hb1
              have hW1 : Below wE.heap.size wE W1 := (HEH.out.trans (hbx.mono sH)).trans (hb1.mono (by have := hbx.size; omega))
              have hD1 := HDE.out.below hW1 (Nat.le_refl _)
              have h := text_at d wo.heap.size 100000 0 z1 z2 (lsOf ss ++ [[109, 111, 114, 101]]) k W1 (by simp; omega) hD1 (by
                intro l hl
                rw [List.mem_append, List.mem_singleton] at hl
                rcases hl with hl | rfl
                · exact HA.out l hl
                · decide) (by simp [lsOf_length]; omega)
              rw [List.take_append_of_le_length (by omega), List.getElem_append_left hkl, lsOf_get ss k hlt hkl, S_of] at h
              exact h
            have HT := Lib.hid hT
            have HRV := Lib.hid hrv
            have HBX := Lib.hid hbx
            have hk0 : (k : Int) < (ss.length : Int) := by omega
            have hk1 : (k : Int) ≥ 0 := by omega
            have tlt := World.block_lt_of_cell? wr _ tc
            have rlt := World.block_lt_of_cell? wr _ rcell
            unfold Wv at rcell
            clear hT hrv hbx hcell0 hrc
            generalize (encW ((lsOf ss).take k)).length = pl at *
            generalize ss[k] = s at *
            obtain rfl := HRV.out
            go_wp2_with fail
            go_region_held3 (fun w' => w'.cell? (ra.add k) = some (.int .u64 ((2 * pl : Nat) : Int)) ∧ w'.cell? (a.add k) = some (.string s)) (go_keep)
              (first
                | (go_at_call 31; refine (HT.out _ (by first | exact Below.refl _ _ | exact (Below.refl _ _).drew)).mono ?_; rintro e wt ⟨rfl, hbt⟩; have d0 := (hbt.cell (p := ra.add k) rlt).trans rcell; have d1 := (hbt.cell (p := a.add k) tlt).trans tc; have HBT := Lib.hid hbt; clear hbt))
            go_wp2_with fail
            go_roundw
            case rel => exact ⟨k + 1, by omega, by go_num, HBX.out.trans (((Below.refl _ _).drew).trans (HBT.out.mono HBX.out.size))⟩
            case measure => simp [intOf]; omega
          · obtain rfl : k = ss.length := by omega
            have HBX := Lib.hid hbx
            clear hbx
            go_wp2_with fail
            go_ret
            exact ⟨rfl, HWH.out.trans (HBX.out.mono HWH.out.size)⟩
end Go.Proofs.Ytmljelcmjagjjaa
