/- HeapPlays: the law's walk. -/
import Derived.Test.YtkdhajiplonloaaLArmP
import Derived.Test.YtkdhajiplonloaaLArmT
import Derived.Test.YtkdhajiplonloaaLArm5
import Derived.Test.YtkdhajiplonloaaLArm6
import Derived.Test.YtkdhajiplonloaaLArm7
namespace Go.Proofs.Ytkdhajiplonloaa
open Go.RowKit HeaM

set_option maxHeartbeats 8000000 in
set_option maxRecDepth 100000 in
theorem plays_walk (Q : Int) (v : Value) (acts : List Deed) (w : World) (h : RdD w v acts) (h0 : 0 ≤ Q) (h1 : Q ≤ 255) :
    Calls Try.prog 3 #[.int .u8 Q, v] w fun e w' => e = .returned (.bool true) ∧ Below w.heap.size w w' := by
  obtain ⟨q, hq⟩ : ∃ q : Nat, 1 + Q = (q : Int) := ⟨(1 + Q).toNat, by omega⟩
  have hql : q ≤ 256 := by omega
  have hq1 : 1 ≤ q := by omega
  have hqi : (q : Int) ≤ 256 := by omega
  obtain ⟨oa, ca, hv⟩ : ∃ o c, v = .slice o acts.length c := by
    rcases h with ⟨o, c, rfl, rfl⟩ | ⟨b, off, c, rfl, _⟩
    · exact ⟨o, c, rfl⟩
    · exact ⟨_, c, rfl⟩
  have HD := Lib.hid h
  clear h
  subst hv
  go_enter Try.func3, Try.ntmps3
  go_wp2_with fail
  refine (awake _).mono ?_
  rintro e w1 ⟨rfl, hb1⟩
  have HB1 := Lib.hid hb1
  clear hb1
  go_wp2_with fail
  refine (new_ok q _ hq1 (by omega)).mono ?_
  rintro e w' ⟨rfl, rfl⟩
  have start : GmS w (w1.alloc (emptyHeap q)) w1.heap.size q 0 [] [] (.slice none 0 0) (.slice none 0 0) [] (.slice none 0 0) (.slice none 0 0) := by
    have hf := HAt.fresh w1 q
    have hs1 := HB1.out.size
    refine ⟨⟨⟨hf.cell, own_base hf.own1 hs1, own_base hf.own2 hs1⟩, World.ownsRow_nil _ _ _ _, by simp [Value.ownBlock], ?_, HB1.out.alloc hs1 _, Fine.nil, Nat.zero_le _, by simp⟩, World.ownsRow_nil _ _ _ _⟩
    intro j hj
    rcases hj with rfl | hj | hj
    · exact hs1
    · simp [Value.ownBlock] at hj
    · simp [Value.ownBlock] at hj
  have START := Lib.hid start
  clear start
  generalize w1.heap.size = d at *
  go_wp2_with fail
  go_loopg [8, 9, 10] acts.length (fun K mv rv i wr => ∃ (k c : Nat) (W : List Nat) (F : List Bool) (mv' rv' : Value) (xs : List Nat) (u1 u2 : Value), k ≤ acts.length ∧ k ≤ 80 ∧ K = acts.length - k ∧ i = .int .i64 k ∧ mv' = mv ∧ rv' = rv ∧ xs.length ≤ k ∧ c ≤ k ∧ Hid (GmS w wr d q c W F rv' mv' xs u1 u2) ∧ Hid (Ev xs))
  case atStart => exact ⟨0, 0, [], [], _, _, [], _, _, Nat.zero_le _, Nat.zero_le _, by omega, rfl, rfl, rfl, Nat.le_refl _, Nat.le_refl _, START.out, Ev.nil⟩
  case round =>
    obtain ⟨k, c, W, F, mv, rv, xs, u1, u2, hk, hk80, rfl, rfl, hmv, hrv, hxl, hck, HG, HEV⟩ := hrel
    subst hmv hrv
    clear START
    by_cases hlt : k < acts.length
    · have hki : (k : Int) < (acts.length : Int) := by omega
      by_cases hlt80 : k < 80
      · have hk8 : (k : Int) < 80 := by omega
        obtain ⟨b, off, hoa, hdeed⟩ : ∃ b off, oa = some ⟨b, off, none⟩ ∧ DeedAt wr b (off + k * 4) acts[k] := by
          rcases HD.out with ⟨o, c, _, rfl⟩ | ⟨b, off, c, e, _, _, _, hd⟩
          · simp at hlt
          · simp only [Value.slice.injEq] at e
            exact ⟨b, off, e.1, (hd k _ (List.getElem?_eq_getElem hlt)).below HG.out.p.below⟩
        subst hoa
        generalize acts[k] = a at *
        have e0 := hdeed.k
        have e1 := hdeed.K
        obtain ⟨pv, e2, hpr⟩ := hdeed.ps
        have e3 := hdeed.s
        obtain ⟨po, pc, hpv, hpc1, hpc2⟩ := hpr.slice
        rw [List.length_map] at hpv hpc1
        subst hpv
        have HPR := Lib.hid hpr
        have HDE := Lib.hid hdeed
        clear hpr hdeed
        go_upto_block 2 with fail
        go_cut [8, 9] (fun m r wx => ∃ (c' : Nat) (W' : List Nat) (F' : List Bool) (m' r' : Value) (xs' : List Nat) (x1 x2 : Value), m' = m ∧ r' = r ∧ xs'.length ≤ k + 1 ∧ c' ≤ k + 1 ∧ Hid (GmS w wx d q c' W' F' r' m' xs' x1 x2) ∧ Hid (Ev xs'))
        case first =>
          have hk0 := HDE.out.k0
          have hk1 := HDE.out.k1
          have hK0 := HDE.out.K0
          have hK1 := HDE.out.K1
          have HFIT := Lib.hid HDE.out.fit
          have hm8 : a.k.tmod 8 = 7 ∨ a.k.tmod 8 = 6 ∨ a.k.tmod 8 = 5 ∨ a.k.tmod 8 = 4 ∨ a.k.tmod 8 = 3 ∨ a.k.tmod 8 = 2 ∨ a.k.tmod 8 = 1 ∨ a.k.tmod 8 = 0 := by rw [Int.tmod_eq_emod_of_nonneg hk0]; omega
          obtain ⟨wa, hwa⟩ : ∃ wa, wr.alloc (.cells #[.int .u8 a.k, .int .u8 a.K, .slice po a.ps.length pc, .string a.s] 32) = wa := ⟨_, rfl⟩
          have hgb : Below wr.heap.size wr wa := by rw [← hwa]; exact (Below.refl _ _).alloc (Nat.le_refl _) _
          have hblk : wa.heap[wr.heap.size]? = some (.cells #[.int .u8 a.k, .int .u8 a.K, .slice po a.ps.length pc, .string a.s] 32 (0, 0)) := by rw [← hwa]; exact heap_alloc_new wr _
          rw [hwa]
          have f0 : wa.cell? ⟨wr.heap.size, 0, none⟩ = some (.int .u8 a.k) := (cell_of_row wa _ 0 _ _ (0, 0) hblk).trans rfl
          have f1 : wa.cell? ⟨wr.heap.size, 1, none⟩ = some (.int .u8 a.K) := (cell_of_row wa _ 1 _ _ (0, 0) hblk).trans rfl
          have f2 : wa.cell? ⟨wr.heap.size, 2, none⟩ = some (.slice po a.ps.length pc) := (cell_of_row wa _ 2 _ _ (0, 0) hblk).trans rfl
          have f3 : wa.cell? ⟨wr.heap.size, 3, none⟩ = some (.string a.s) := (cell_of_row wa _ 3 _ _ (0, 0) hblk).trans rfl
          have HGA := Lib.hid (HG.out.more hgb)
          have HPA := Lib.hid (HPR.out.below hgb)
          have hgal : wr.heap.size < wa.heap.size := lt_of_block hblk
          clear HPR HDE HG e0 e1 e2 e3 hgb hblk hwa hk0 hk1
          generalize wr.heap.size = ga at *
          generalize a.k.tmod 8 = k8 at *
          generalize a.K = aK at *
          obtain ⟨orr, cr, hrv, hcr1, hcr2⟩ := own_slice HGA.out.p.row
          subst hrv
          rename_i K1 hC1 K2 hC2 J K' hMJ hJ
          have hC : ∀ a' w', PlaysRel Q acts w q ca d k b off ga k8 a' w' → K1 a' w' := by
            as_aux_lemma =>
              intro a' w' hr
              unfold PlaysRel at hr
              obtain ⟨u4, hr⟩ := hr
              obtain ⟨u8, hr⟩ := hr
              obtain ⟨u9, hr⟩ := hr
              obtain ⟨u13, hr⟩ := hr
              obtain ⟨u14, hr⟩ := hr
              obtain ⟨u15, hr⟩ := hr
              obtain ⟨u16, hr⟩ := hr
              obtain ⟨u17, hr⟩ := hr
              obtain ⟨u18, hr⟩ := hr
              obtain ⟨u19, hr⟩ := hr
              obtain ⟨u20, hr⟩ := hr
              obtain ⟨u21, hr⟩ := hr
              obtain ⟨u22, hr⟩ := hr
              obtain ⟨u23, hr⟩ := hr
              obtain ⟨u24, hr⟩ := hr
              obtain ⟨u25, hr⟩ := hr
              obtain ⟨u26, hr⟩ := hr
              obtain ⟨u27, hr⟩ := hr
              obtain ⟨u28, hr⟩ := hr
              obtain ⟨u29, hr⟩ := hr
              obtain ⟨u30, hr⟩ := hr
              obtain ⟨u31, hr⟩ := hr
              obtain ⟨u46, hr⟩ := hr
              obtain ⟨u47, hr⟩ := hr
              obtain ⟨u48, hr⟩ := hr
              obtain ⟨u49, hr⟩ := hr
              obtain ⟨u50, hr⟩ := hr
              obtain ⟨u51, hr⟩ := hr
              obtain ⟨u52, hr⟩ := hr
              obtain ⟨u53, hr⟩ := hr
              obtain ⟨u54, hr⟩ := hr
              obtain ⟨u55, hr⟩ := hr
              obtain ⟨u56, hr⟩ := hr
              obtain ⟨u57, hr⟩ := hr
              obtain ⟨u58, hr⟩ := hr
              obtain ⟨u59, hr⟩ := hr
              obtain ⟨u60, hr⟩ := hr
              obtain ⟨u61, hr⟩ := hr
              obtain ⟨u62, hr⟩ := hr
              obtain ⟨u63, hr⟩ := hr
              obtain ⟨u64, hr⟩ := hr
              obtain ⟨u65, hr⟩ := hr
              obtain ⟨u66, hr⟩ := hr
              obtain ⟨u67, hr⟩ := hr
              obtain ⟨u68, hr⟩ := hr
              obtain ⟨u69, hr⟩ := hr
              obtain ⟨u70, hr⟩ := hr
              obtain ⟨u71, hr⟩ := hr
              obtain ⟨u72, hr⟩ := hr
              obtain ⟨u73, hr⟩ := hr
              obtain ⟨u74, hr⟩ := hr
              obtain ⟨u75, hr⟩ := hr
              obtain ⟨u76, hr⟩ := hr
              obtain ⟨u77, hr⟩ := hr
              obtain ⟨u78, hr⟩ := hr
              obtain ⟨u79, hr⟩ := hr
              obtain ⟨u80, hr⟩ := hr
              obtain ⟨u81, hr⟩ := hr
              obtain ⟨u82, hr⟩ := hr
              obtain ⟨u83, hr⟩ := hr
              obtain ⟨u84, hr⟩ := hr
              obtain ⟨u85, hr⟩ := hr
              obtain ⟨u86, hr⟩ := hr
              obtain ⟨u87, hr⟩ := hr
              obtain ⟨u88, hr⟩ := hr
              obtain ⟨u89, hr⟩ := hr
              obtain ⟨u90, hr⟩ := hr
              obtain ⟨u91, hr⟩ := hr
              obtain ⟨u92, hr⟩ := hr
              obtain ⟨u93, hr⟩ := hr
              obtain ⟨u94, hr⟩ := hr
              obtain ⟨u95, hr⟩ := hr
              obtain ⟨u96, hr⟩ := hr
              obtain ⟨u97, hr⟩ := hr
              obtain ⟨u98, hr⟩ := hr
              obtain ⟨u99, hr⟩ := hr
              obtain ⟨u100, hr⟩ := hr
              obtain ⟨u101, hr⟩ := hr
              obtain ⟨u102, hr⟩ := hr
              obtain ⟨u103, hr⟩ := hr
              obtain ⟨u104, hr⟩ := hr
              obtain ⟨u105, hr⟩ := hr
              obtain ⟨u106, hr⟩ := hr
              obtain ⟨u107, hr⟩ := hr
              obtain ⟨u108, hr⟩ := hr
              obtain ⟨u109, hr⟩ := hr
              obtain ⟨u110, hr⟩ := hr
              obtain ⟨u111, hr⟩ := hr
              obtain ⟨u112, hr⟩ := hr
              obtain ⟨u113, hr⟩ := hr
              obtain ⟨u114, hr⟩ := hr
              obtain ⟨u115, hr⟩ := hr
              obtain ⟨u116, hr⟩ := hr
              obtain ⟨u117, hr⟩ := hr
              obtain ⟨u118, hr⟩ := hr
              obtain ⟨u119, hr⟩ := hr
              obtain ⟨u120, hr⟩ := hr
              obtain ⟨u121, hr⟩ := hr
              obtain ⟨u122, hr⟩ := hr
              obtain ⟨u123, hr⟩ := hr
              obtain ⟨u124, hr⟩ := hr
              obtain ⟨u125, hr⟩ := hr
              obtain ⟨u126, hr⟩ := hr
              obtain ⟨u127, hr⟩ := hr
              obtain ⟨u128, hr⟩ := hr
              obtain ⟨u129, hr⟩ := hr
              obtain ⟨u130, hr⟩ := hr
              obtain ⟨u131, hr⟩ := hr
              obtain ⟨u132, hr⟩ := hr
              obtain ⟨u133, hr⟩ := hr
              obtain ⟨u134, hr⟩ := hr
              obtain ⟨u135, hr⟩ := hr
              obtain ⟨u136, hr⟩ := hr
              obtain ⟨u137, hr⟩ := hr
              obtain ⟨u138, hr⟩ := hr
              obtain ⟨u139, hr⟩ := hr
              obtain ⟨u140, hr⟩ := hr
              obtain ⟨u141, hr⟩ := hr
              obtain ⟨u142, hr⟩ := hr
              obtain ⟨u143, hr⟩ := hr
              obtain ⟨u144, hr⟩ := hr
              obtain ⟨u145, hr⟩ := hr
              obtain ⟨u146, hr⟩ := hr
              obtain ⟨u147, hr⟩ := hr
              obtain ⟨u148, hr⟩ := hr
              obtain ⟨u149, hr⟩ := hr
              obtain ⟨u150, hr⟩ := hr
              obtain ⟨u151, hr⟩ := hr
              obtain ⟨u152, hr⟩ := hr
              obtain ⟨u153, hr⟩ := hr
              obtain ⟨u154, hr⟩ := hr
              obtain ⟨u155, hr⟩ := hr
              obtain ⟨u156, hr⟩ := hr
              obtain ⟨u157, hr⟩ := hr
              obtain ⟨u158, hr⟩ := hr
              obtain ⟨u159, hr⟩ := hr
              obtain ⟨u160, hr⟩ := hr
              obtain ⟨u161, hr⟩ := hr
              obtain ⟨u162, hr⟩ := hr
              obtain ⟨u163, hr⟩ := hr
              obtain ⟨u164, hr⟩ := hr
              obtain ⟨u165, hr⟩ := hr
              obtain ⟨u166, hr⟩ := hr
              obtain ⟨u167, hr⟩ := hr
              obtain ⟨u168, hr⟩ := hr
              obtain ⟨u169, hr⟩ := hr
              obtain ⟨u170, hr⟩ := hr
              obtain ⟨u171, hr⟩ := hr
              obtain ⟨u172, hr⟩ := hr
              obtain ⟨u173, hr⟩ := hr
              obtain ⟨u174, hr⟩ := hr
              obtain ⟨u175, hr⟩ := hr
              obtain ⟨u176, hr⟩ := hr
              obtain ⟨u177, hr⟩ := hr
              obtain ⟨u178, hr⟩ := hr
              obtain ⟨u179, hr⟩ := hr
              obtain ⟨u180, hr⟩ := hr
              obtain ⟨u181, hr⟩ := hr
              obtain ⟨u182, hr⟩ := hr
              obtain ⟨u183, hr⟩ := hr
              obtain ⟨u184, hr⟩ := hr
              obtain ⟨u185, hr⟩ := hr
              obtain ⟨u186, hr⟩ := hr
              obtain ⟨u187, hr⟩ := hr
              obtain ⟨u188, hr⟩ := hr
              obtain ⟨u189, hr⟩ := hr
              obtain ⟨u190, hr⟩ := hr
              obtain ⟨u191, hr⟩ := hr
              obtain ⟨u192, hr⟩ := hr
              obtain ⟨u193, hr⟩ := hr
              obtain ⟨u194, hr⟩ := hr
              obtain ⟨u195, hr⟩ := hr
              obtain ⟨u196, hr⟩ := hr
              obtain ⟨u197, hr⟩ := hr
              obtain ⟨u198, hr⟩ := hr
              obtain ⟨u199, hr⟩ := hr
              obtain ⟨u200, hr⟩ := hr
              obtain ⟨u201, hr⟩ := hr
              obtain ⟨u202, hr⟩ := hr
              obtain ⟨u203, hr⟩ := hr
              obtain ⟨u204, hr⟩ := hr
              obtain ⟨u205, hr⟩ := hr
              obtain ⟨u206, hr⟩ := hr
              obtain ⟨u207, hr⟩ := hr
              obtain ⟨u208, hr⟩ := hr
              obtain ⟨u209, hr⟩ := hr
              obtain ⟨u210, hr⟩ := hr
              obtain ⟨u211, hr⟩ := hr
              obtain ⟨u212, hr⟩ := hr
              obtain ⟨u213, hr⟩ := hr
              obtain ⟨u214, hr⟩ := hr
              obtain ⟨u215, hr⟩ := hr
              obtain ⟨u216, hr⟩ := hr
              obtain ⟨u217, hr⟩ := hr
              obtain ⟨u218, hr⟩ := hr
              obtain ⟨u219, hr⟩ := hr
              obtain ⟨u220, hr⟩ := hr
              obtain ⟨u221, hr⟩ := hr
              obtain ⟨u222, hr⟩ := hr
              obtain ⟨u223, hr⟩ := hr
              obtain ⟨u224, hr⟩ := hr
              obtain ⟨u225, hr⟩ := hr
              obtain ⟨u226, hr⟩ := hr
              obtain ⟨u227, hr⟩ := hr
              obtain ⟨u228, hr⟩ := hr
              obtain ⟨u229, hr⟩ := hr
              obtain ⟨u230, hr⟩ := hr
              obtain ⟨u231, hr⟩ := hr
              obtain ⟨u232, hr⟩ := hr
              obtain ⟨u233, hr⟩ := hr
              obtain ⟨u234, hr⟩ := hr
              obtain ⟨u235, hr⟩ := hr
              obtain ⟨u236, hr⟩ := hr
              obtain ⟨u237, hr⟩ := hr
              obtain ⟨u238, hr⟩ := hr
              obtain ⟨u239, hr⟩ := hr
              obtain ⟨u240, hr⟩ := hr
              obtain ⟨u241, hr⟩ := hr
              obtain ⟨u242, hr⟩ := hr
              obtain ⟨u243, hr⟩ := hr
              obtain ⟨u244, hr⟩ := hr
              obtain ⟨u245, hr⟩ := hr
              obtain ⟨u246, hr⟩ := hr
              obtain ⟨u247, hr⟩ := hr
              obtain ⟨u248, hr⟩ := hr
              obtain ⟨u249, hr⟩ := hr
              obtain ⟨u250, hr⟩ := hr
              obtain ⟨u251, hr⟩ := hr
              obtain ⟨u252, hr⟩ := hr
              obtain ⟨u253, hr⟩ := hr
              obtain ⟨u254, hr⟩ := hr
              obtain ⟨u255, hr⟩ := hr
              obtain ⟨u256, hr⟩ := hr
              obtain ⟨u257, hr⟩ := hr
              obtain ⟨u258, hr⟩ := hr
              obtain ⟨u259, hr⟩ := hr
              obtain ⟨u260, hr⟩ := hr
              obtain ⟨u261, hr⟩ := hr
              obtain ⟨u262, hr⟩ := hr
              obtain ⟨u263, hr⟩ := hr
              obtain ⟨u264, hr⟩ := hr
              obtain ⟨u265, hr⟩ := hr
              obtain ⟨u266, hr⟩ := hr
              obtain ⟨u267, hr⟩ := hr
              obtain ⟨u268, hr⟩ := hr
              obtain ⟨u269, hr⟩ := hr
              obtain ⟨u270, hr⟩ := hr
              obtain ⟨u271, hr⟩ := hr
              obtain ⟨u272, hr⟩ := hr
              obtain ⟨u273, hr⟩ := hr
              obtain ⟨u274, hr⟩ := hr
              obtain ⟨u275, hr⟩ := hr
              obtain ⟨u276, hr⟩ := hr
              obtain ⟨u277, hr⟩ := hr
              obtain ⟨u278, hr⟩ := hr
              obtain ⟨u279, hr⟩ := hr
              obtain ⟨u280, hr⟩ := hr
              obtain ⟨u281, hr⟩ := hr
              obtain ⟨u282, hr⟩ := hr
              obtain ⟨u283, hr⟩ := hr
              obtain ⟨u284, hr⟩ := hr
              obtain ⟨u285, hr⟩ := hr
              obtain ⟨u286, hr⟩ := hr
              obtain ⟨u287, hr⟩ := hr
              obtain ⟨u288, hr⟩ := hr
              obtain ⟨u289, hr⟩ := hr
              obtain ⟨u290, hr⟩ := hr
              obtain ⟨u291, hr⟩ := hr
              obtain ⟨u292, hr⟩ := hr
              obtain ⟨u293, hr⟩ := hr
              obtain ⟨u294, hr⟩ := hr
              obtain ⟨u295, hr⟩ := hr
              obtain ⟨u296, hr⟩ := hr
              obtain ⟨u297, hr⟩ := hr
              obtain ⟨u298, hr⟩ := hr
              obtain ⟨u299, hr⟩ := hr
              obtain ⟨u300, hr⟩ := hr
              obtain ⟨u301, hr⟩ := hr
              obtain ⟨u302, hr⟩ := hr
              obtain ⟨u303, hr⟩ := hr
              obtain ⟨u304, hr⟩ := hr
              obtain ⟨u305, hr⟩ := hr
              obtain ⟨u306, hr⟩ := hr
              obtain ⟨u307, hr⟩ := hr
              obtain ⟨u308, hr⟩ := hr
              obtain ⟨u309, hr⟩ := hr
              obtain ⟨u310, hr⟩ := hr
              obtain ⟨u311, hr⟩ := hr
              obtain ⟨u312, hr⟩ := hr
              obtain ⟨u313, hr⟩ := hr
              obtain ⟨u314, hr⟩ := hr
              obtain ⟨u315, hr⟩ := hr
              obtain ⟨u316, hr⟩ := hr
              obtain ⟨u317, hr⟩ := hr
              obtain ⟨u318, hr⟩ := hr
              obtain ⟨u319, hr⟩ := hr
              obtain ⟨u320, hr⟩ := hr
              obtain ⟨u321, hr⟩ := hr
              obtain ⟨u322, hr⟩ := hr
              obtain ⟨u323, hr⟩ := hr
              obtain ⟨u324, hr⟩ := hr
              obtain ⟨u325, hr⟩ := hr
              obtain ⟨u326, hr⟩ := hr
              obtain ⟨u327, hr⟩ := hr
              obtain ⟨u328, hr⟩ := hr
              obtain ⟨u329, hr⟩ := hr
              obtain ⟨u330, hr⟩ := hr
              obtain ⟨u331, hr⟩ := hr
              obtain ⟨u332, hr⟩ := hr
              obtain ⟨u333, hr⟩ := hr
              obtain ⟨u334, hr⟩ := hr
              obtain ⟨u335, hr⟩ := hr
              obtain ⟨u336, hr⟩ := hr
              obtain ⟨u337, hr⟩ := hr
              obtain ⟨u338, hr⟩ := hr
              obtain ⟨u339, hr⟩ := hr
              obtain ⟨u340, hr⟩ := hr
              obtain ⟨u341, hr⟩ := hr
              obtain ⟨u342, hr⟩ := hr
              obtain ⟨u343, hr⟩ := hr
              obtain ⟨u344, hr⟩ := hr
              obtain ⟨u345, hr⟩ := hr
              obtain ⟨u346, hr⟩ := hr
              obtain ⟨u347, hr⟩ := hr
              obtain ⟨u348, hr⟩ := hr
              obtain ⟨u349, hr⟩ := hr
              obtain ⟨u350, hr⟩ := hr
              obtain ⟨u351, hr⟩ := hr
              obtain ⟨u352, hr⟩ := hr
              obtain ⟨u353, hr⟩ := hr
              obtain ⟨u354, hr⟩ := hr
              obtain ⟨u355, hr⟩ := hr
              obtain ⟨u356, hr⟩ := hr
              obtain ⟨u357, hr⟩ := hr
              obtain ⟨⟨c2, W2, F2, m2, r2, xs2, x1, x2, rfl, rfl, hxl2, hc2, HG2, HEV2⟩, rfl⟩ := hr
              clear HGA HPA HFIT f0 f1 f2 f3 hJ hMJ hC2
              go_wp2_with fail
              go_roundg (acts.length - (k + 1))
              case measure => omega
              case rel => exact ⟨k + 1, c2, W2, F2, _, _, xs2, x1, x2, by omega, by omega, rfl, by go_num, rfl, rfl, by omega, by omega, HG2.out, HEV2.out⟩
          rcases hm8 with rfl | rfl | rfl | rfl | rfl | rfl | rfl | rfl
          · exact arm7 Q acts w q hql hq1 hqi ca d _ _ K1 _ (.bool true) (.bool true) _ _ _ _ _ _ _ _ _ _ _ _ _ _ _ _ _ _ _ (.bool true) (.bool true) (.bool true) (.bool true) (.bool true) (.bool true) (.bool true) (.bool true) _ _ (.bool true) (.bool true) (.bool true) (.bool true) (.bool true) (.bool true) (.bool true) _ _ _ _ _ _ _ _ _ _ _ _ _ _ _ _ _ _ _ _ _ _ _ _ _ _ _ _ _ _ _ _ _ _ _ _ _ _ _ _ _ _ _ _ _ _ _ _ _ _ _ _ _ _ _ _ _ _ _ _ _ _ _ _ _ _ _ _ _ _ _ _ _ _ _ _ _ _ _ _ _ _ _ _ _ _ _ _ _ _ _ _ _ _ _ _ _ _ _ _ _ _ _ _ _ _ _ _ _ _ _ _ _ _ _ _ _ _ _ _ _ _ _ _ _ _ _ _ _ _ _ _ _ _ _ _ _ _ _ _ _ _ _ _ _ _ _ _ _ _ _ _ _ _ _ _ _ _ _ _ _ _ _ _ _ _ _ _ _ _ _ _ _ _ _ _ _ _ _ _ _ _ _ _ _ _ _ _ _ _ _ _ _ _ _ _ _ _ _ _ _ _ _ _ _ _ _ _ _ _ _ _ _ _ _ _ _ _ _ _ _ _ _ _ _ _ _ _ _ _ _ _ _ _ _ _ _ _ _ _ _ _ _ _ _ _ _ _ _ _ _ _ _ _ _ _ _ _ _ _ _ _ _ _ _ _ _ _ _ _ _ _ _ _ _ _ _ _ _ _ _ _ _ _ _ _ _ _ _ _ _ _ _ _ _ k c W F mv xs u1 u2 hlt80 hxl hck HEV b off a po pc hpc1 hpc2 J (PlaysRel Q acts w q ca d k b off ga 7) K' hMJ hC HFIT wa HPA ga f2 f3 hgal hJ (fun _ _ h => h) aK hK0 hK1 f1 orr cr hcr1 hcr2 HGA
          · exact arm6 Q acts w q hql hq1 hqi ca d _ _ K1 _ (.bool true) (.bool true) _ _ _ _ _ _ _ _ _ _ _ _ _ _ _ _ _ _ _ (.bool true) (.bool true) (.bool true) (.bool true) (.bool true) (.bool true) (.bool true) (.bool true) _ _ (.bool true) (.bool true) (.bool true) (.bool true) (.bool true) (.bool true) (.bool true) _ _ _ _ _ _ _ _ _ _ _ _ _ _ _ _ _ _ _ _ _ _ _ _ _ _ _ _ _ _ _ _ _ _ _ _ _ _ _ _ _ _ _ _ _ _ _ _ _ _ _ _ _ _ _ _ _ _ _ _ _ _ _ _ _ _ _ _ _ _ _ _ _ _ _ _ _ _ _ _ _ _ _ _ _ _ _ _ _ _ _ _ _ _ _ _ _ _ _ _ _ _ _ _ _ _ _ _ _ _ _ _ _ _ _ _ _ _ _ _ _ _ _ _ _ _ _ _ _ _ _ _ _ _ _ _ _ _ _ _ _ _ _ _ _ _ _ _ _ _ _ _ _ _ _ _ _ _ _ _ _ _ _ _ _ _ _ _ _ _ _ _ _ _ _ _ _ _ _ _ _ _ _ _ _ _ _ _ _ _ _ _ _ _ _ _ _ _ _ _ _ _ _ _ _ _ _ _ _ _ _ _ _ _ _ _ _ _ _ _ _ _ _ _ _ _ _ _ _ _ _ _ _ _ _ _ _ _ _ _ _ _ _ _ _ _ _ _ _ _ _ _ _ _ _ _ _ _ _ _ _ _ _ _ _ _ _ _ _ _ _ _ _ _ _ _ _ _ _ _ _ _ _ _ _ _ _ _ _ _ _ _ _ _ _ k c W F mv xs u1 u2 hlt80 hxl hck HEV b off a po pc hpc1 hpc2 J (PlaysRel Q acts w q ca d k b off ga 6) K' hMJ hC HFIT wa HPA ga f2 f3 hgal hJ (fun _ _ h => h) aK hK0 hK1 f1 orr cr hcr1 hcr2 HGA
          · exact arm5 Q acts w q hql hq1 hqi ca d _ _ K1 _ (.bool true) (.bool true) _ _ _ _ _ _ _ _ _ _ _ _ _ _ _ _ _ _ _ (.bool true) (.bool true) (.bool true) (.bool true) (.bool true) (.bool true) (.bool true) (.bool true) _ _ (.bool true) (.bool true) (.bool true) (.bool true) (.bool true) (.bool true) (.bool true) _ _ _ _ _ _ _ _ _ _ _ _ _ _ _ _ _ _ _ _ _ _ _ _ _ _ _ _ _ _ _ _ _ _ _ _ _ _ _ _ _ _ _ _ _ _ _ _ _ _ _ _ _ _ _ _ _ _ _ _ _ _ _ _ _ _ _ _ _ _ _ _ _ _ _ _ _ _ _ _ _ _ _ _ _ _ _ _ _ _ _ _ _ _ _ _ _ _ _ _ _ _ _ _ _ _ _ _ _ _ _ _ _ _ _ _ _ _ _ _ _ _ _ _ _ _ _ _ _ _ _ _ _ _ _ _ _ _ _ _ _ _ _ _ _ _ _ _ _ _ _ _ _ _ _ _ _ _ _ _ _ _ _ _ _ _ _ _ _ _ _ _ _ _ _ _ _ _ _ _ _ _ _ _ _ _ _ _ _ _ _ _ _ _ _ _ _ _ _ _ _ _ _ _ _ _ _ _ _ _ _ _ _ _ _ _ _ _ _ _ _ _ _ _ _ _ _ _ _ _ _ _ _ _ _ _ _ _ _ _ _ _ _ _ _ _ _ _ _ _ _ _ _ _ _ _ _ _ _ _ _ _ _ _ _ _ _ _ _ _ _ _ _ _ _ _ _ _ _ _ _ _ _ _ _ _ _ _ _ _ _ _ _ _ _ k c W F mv xs u1 u2 hlt80 hxl hck HEV b off a po pc hpc1 hpc2 J (PlaysRel Q acts w q ca d k b off ga 5) K' hMJ hC HFIT wa HPA ga f2 f3 hgal hJ (fun _ _ h => h) aK hK0 hK1 f1 orr cr hcr1 hcr2 HGA
          · exact armT Q acts w q hql hq1 hqi ca d _ _ K1 _ (.bool true) (.bool true) _ _ _ _ _ _ _ _ _ _ _ _ _ _ _ _ _ _ _ (.bool true) (.bool true) (.bool true) (.bool true) (.bool true) (.bool true) (.bool true) (.bool true) _ _ (.bool true) (.bool true) (.bool true) (.bool true) (.bool true) (.bool true) (.bool true) _ _ _ _ _ _ _ _ _ _ _ _ _ _ _ _ _ _ _ _ _ _ _ _ _ _ _ _ _ _ _ _ _ _ _ _ _ _ _ _ _ _ _ _ _ _ _ _ _ _ _ _ _ _ _ _ _ _ _ _ _ _ _ _ _ _ _ _ _ _ _ _ _ _ _ _ _ _ _ _ _ _ _ _ _ _ _ _ _ _ _ _ _ _ _ _ _ _ _ _ _ _ _ _ _ _ _ _ _ _ _ _ _ _ _ _ _ _ _ _ _ _ _ _ _ _ _ _ _ _ _ _ _ _ _ _ _ _ _ _ _ _ _ _ _ _ _ _ _ _ _ _ _ _ _ _ _ _ _ _ _ _ _ _ _ _ _ _ _ _ _ _ _ _ _ _ _ _ _ _ _ _ _ _ _ _ _ _ _ _ _ _ _ _ _ _ _ _ _ _ _ _ _ _ _ _ _ _ _ _ _ _ _ _ _ _ _ _ _ _ _ _ _ _ _ _ _ _ _ _ _ _ _ _ _ _ _ _ _ _ _ _ _ _ _ _ _ _ _ _ _ _ _ _ _ _ _ _ _ _ _ _ _ _ _ _ _ _ _ _ _ _ _ _ _ _ _ _ _ _ _ _ _ _ _ _ _ _ _ _ _ _ _ _ _ k c W F mv xs u1 u2 hlt80 hxl hck HEV b off a po pc hpc1 hpc2 J (PlaysRel Q acts w q ca d k b off ga 4) K' hMJ hC HFIT wa HPA ga f2 f3 hgal hJ (fun _ _ h => h) aK hK0 hK1 f1 orr cr hcr1 hcr2 HGA
          · exact armP Q acts w q hql hq1 hqi ca d _ _ K1 _ (.bool true) (.bool true) _ _ _ _ _ _ _ _ _ _ _ _ _ _ _ _ _ _ _ (.bool true) (.bool true) (.bool true) (.bool true) (.bool true) (.bool true) (.bool true) (.bool true) _ _ (.bool true) (.bool true) (.bool true) (.bool true) (.bool true) (.bool true) (.bool true) _ _ _ _ _ _ _ _ _ _ _ _ _ _ _ _ _ _ _ _ _ _ _ _ _ _ _ _ _ _ _ _ _ _ _ _ _ _ _ _ _ _ _ _ _ _ _ _ _ _ _ _ _ _ _ _ _ _ _ _ _ _ _ _ _ _ _ _ _ _ _ _ _ _ _ _ _ _ _ _ _ _ _ _ _ _ _ _ _ _ _ _ _ _ _ _ _ _ _ _ _ _ _ _ _ _ _ _ _ _ _ _ _ _ _ _ _ _ _ _ _ _ _ _ _ _ _ _ _ _ _ _ _ _ _ _ _ _ _ _ _ _ _ _ _ _ _ _ _ _ _ _ _ _ _ _ _ _ _ _ _ _ _ _ _ _ _ _ _ _ _ _ _ _ _ _ _ _ _ _ _ _ _ _ _ _ _ _ _ _ _ _ _ _ _ _ _ _ _ _ _ _ _ _ _ _ _ _ _ _ _ _ _ _ _ _ _ _ _ _ _ _ _ _ _ _ _ _ _ _ _ _ _ _ _ _ _ _ _ _ _ _ _ _ _ _ _ _ _ _ _ _ _ _ _ _ _ _ _ _ _ _ _ _ _ _ _ _ _ _ _ _ _ _ _ _ _ _ _ _ _ _ _ _ _ _ _ _ _ _ _ _ _ _ _ 3 (by omega) k c W F mv xs u1 u2 hlt80 hxl hck HEV b off a po pc hpc1 hpc2 J (PlaysRel Q acts w q ca d k b off ga 3) K' hMJ hC HFIT wa HPA ga f2 f3 hgal hJ (fun _ _ h => h) aK hK0 hK1 f1 orr cr hcr1 hcr2 HGA
          · exact armP Q acts w q hql hq1 hqi ca d _ _ K1 _ (.bool true) (.bool true) _ _ _ _ _ _ _ _ _ _ _ _ _ _ _ _ _ _ _ (.bool true) (.bool true) (.bool true) (.bool true) (.bool true) (.bool true) (.bool true) (.bool true) _ _ (.bool true) (.bool true) (.bool true) (.bool true) (.bool true) (.bool true) (.bool true) _ _ _ _ _ _ _ _ _ _ _ _ _ _ _ _ _ _ _ _ _ _ _ _ _ _ _ _ _ _ _ _ _ _ _ _ _ _ _ _ _ _ _ _ _ _ _ _ _ _ _ _ _ _ _ _ _ _ _ _ _ _ _ _ _ _ _ _ _ _ _ _ _ _ _ _ _ _ _ _ _ _ _ _ _ _ _ _ _ _ _ _ _ _ _ _ _ _ _ _ _ _ _ _ _ _ _ _ _ _ _ _ _ _ _ _ _ _ _ _ _ _ _ _ _ _ _ _ _ _ _ _ _ _ _ _ _ _ _ _ _ _ _ _ _ _ _ _ _ _ _ _ _ _ _ _ _ _ _ _ _ _ _ _ _ _ _ _ _ _ _ _ _ _ _ _ _ _ _ _ _ _ _ _ _ _ _ _ _ _ _ _ _ _ _ _ _ _ _ _ _ _ _ _ _ _ _ _ _ _ _ _ _ _ _ _ _ _ _ _ _ _ _ _ _ _ _ _ _ _ _ _ _ _ _ _ _ _ _ _ _ _ _ _ _ _ _ _ _ _ _ _ _ _ _ _ _ _ _ _ _ _ _ _ _ _ _ _ _ _ _ _ _ _ _ _ _ _ _ _ _ _ _ _ _ _ _ _ _ _ _ _ _ _ _ 2 (by omega) k c W F mv xs u1 u2 hlt80 hxl hck HEV b off a po pc hpc1 hpc2 J (PlaysRel Q acts w q ca d k b off ga 2) K' hMJ hC HFIT wa HPA ga f2 f3 hgal hJ (fun _ _ h => h) aK hK0 hK1 f1 orr cr hcr1 hcr2 HGA
          · exact armP Q acts w q hql hq1 hqi ca d _ _ K1 _ (.bool true) (.bool true) _ _ _ _ _ _ _ _ _ _ _ _ _ _ _ _ _ _ _ (.bool true) (.bool true) (.bool true) (.bool true) (.bool true) (.bool true) (.bool true) (.bool true) _ _ (.bool true) (.bool true) (.bool true) (.bool true) (.bool true) (.bool true) (.bool true) _ _ _ _ _ _ _ _ _ _ _ _ _ _ _ _ _ _ _ _ _ _ _ _ _ _ _ _ _ _ _ _ _ _ _ _ _ _ _ _ _ _ _ _ _ _ _ _ _ _ _ _ _ _ _ _ _ _ _ _ _ _ _ _ _ _ _ _ _ _ _ _ _ _ _ _ _ _ _ _ _ _ _ _ _ _ _ _ _ _ _ _ _ _ _ _ _ _ _ _ _ _ _ _ _ _ _ _ _ _ _ _ _ _ _ _ _ _ _ _ _ _ _ _ _ _ _ _ _ _ _ _ _ _ _ _ _ _ _ _ _ _ _ _ _ _ _ _ _ _ _ _ _ _ _ _ _ _ _ _ _ _ _ _ _ _ _ _ _ _ _ _ _ _ _ _ _ _ _ _ _ _ _ _ _ _ _ _ _ _ _ _ _ _ _ _ _ _ _ _ _ _ _ _ _ _ _ _ _ _ _ _ _ _ _ _ _ _ _ _ _ _ _ _ _ _ _ _ _ _ _ _ _ _ _ _ _ _ _ _ _ _ _ _ _ _ _ _ _ _ _ _ _ _ _ _ _ _ _ _ _ _ _ _ _ _ _ _ _ _ _ _ _ _ _ _ _ _ _ _ _ _ _ _ _ _ _ _ _ _ _ _ _ _ _ 1 (by omega) k c W F mv xs u1 u2 hlt80 hxl hck HEV b off a po pc hpc1 hpc2 J (PlaysRel Q acts w q ca d k b off ga 1) K' hMJ hC HFIT wa HPA ga f2 f3 hgal hJ (fun _ _ h => h) aK hK0 hK1 f1 orr cr hcr1 hcr2 HGA
          · exact armP Q acts w q hql hq1 hqi ca d _ _ K1 _ (.bool true) (.bool true) _ _ _ _ _ _ _ _ _ _ _ _ _ _ _ _ _ _ _ (.bool true) (.bool true) (.bool true) (.bool true) (.bool true) (.bool true) (.bool true) (.bool true) _ _ (.bool true) (.bool true) (.bool true) (.bool true) (.bool true) (.bool true) (.bool true) _ _ _ _ _ _ _ _ _ _ _ _ _ _ _ _ _ _ _ _ _ _ _ _ _ _ _ _ _ _ _ _ _ _ _ _ _ _ _ _ _ _ _ _ _ _ _ _ _ _ _ _ _ _ _ _ _ _ _ _ _ _ _ _ _ _ _ _ _ _ _ _ _ _ _ _ _ _ _ _ _ _ _ _ _ _ _ _ _ _ _ _ _ _ _ _ _ _ _ _ _ _ _ _ _ _ _ _ _ _ _ _ _ _ _ _ _ _ _ _ _ _ _ _ _ _ _ _ _ _ _ _ _ _ _ _ _ _ _ _ _ _ _ _ _ _ _ _ _ _ _ _ _ _ _ _ _ _ _ _ _ _ _ _ _ _ _ _ _ _ _ _ _ _ _ _ _ _ _ _ _ _ _ _ _ _ _ _ _ _ _ _ _ _ _ _ _ _ _ _ _ _ _ _ _ _ _ _ _ _ _ _ _ _ _ _ _ _ _ _ _ _ _ _ _ _ _ _ _ _ _ _ _ _ _ _ _ _ _ _ _ _ _ _ _ _ _ _ _ _ _ _ _ _ _ _ _ _ _ _ _ _ _ _ _ _ _ _ _ _ _ _ _ _ _ _ _ _ _ _ _ _ _ _ _ _ _ _ _ _ _ _ _ _ _ 0 (by omega) k c W F mv xs u1 u2 hlt80 hxl hck HEV b off a po pc hpc1 hpc2 J (PlaysRel Q acts w q ca d k b off ga 0) K' hMJ hC HFIT wa HPA ga f2 f3 hgal hJ (fun _ _ h => h) aK hK0 hK1 f1 orr cr hcr1 hcr2 HGA
        case rest =>
          as_aux_lemma =>
            obtain ⟨c2, W2, F2, m2, r2, xs2, x1, x2, hm2, hr2, hxl2, hc2, HG2, HEV2⟩ := hcut
            subst hm2 hr2
            rename_i wt _
            obtain ⟨om, cm, hmv, _, hmm⟩ := own_slice HG2.out.m
            subst hmv
            obtain ⟨a1, a2, a3, a4, a5, a6⟩ := HG2.out.asks (by omega)
            have A1 := Lib.hid a1
            have A2 := Lib.hid a2
            have A3 := Lib.hid a3
            have A4 := Lib.hid a4
            have A5 := Lib.hid a5
            have A6 := Lib.hid a6
            clear a1 a2 a3 a4 a5 a6 HPR HDE e0 e1 e2 e3 HG
            go_upto_region 73 with (fail)
            go_cut [357] (fun b wx => b = .bool false ∧ Hid (∃ wq, Below wq.heap.size wq wx ∧ GmS w wq d q c2 W2 F2 r2 (.slice om W2.length cm) xs2 x1 x2))
            case first =>
              as_aux_lemma =>
                go_wp2_with fail
                refine (A1.out _ (by first | exact Below.refl _ _ | exact (Below.refl _ _).drew)).mono ?_
                rintro e w3 ⟨z3, rfl, hz3, hb3⟩
                have HZ3 := Lib.hid hz3
                have HB3 := Lib.hid hb3
                clear hz3 hb3
                go_wp2_with fail
                refine (A2.out _ _ (by first | exact HB3.out | exact HB3.out.drew) (by first | exact HZ3.out | exact HZ3.out.below (Below.refl _ _).drew)).mono ?_
                rintro e w4 ⟨z4, rfl, hz4, hb4⟩
                have HZ4 := Lib.hid hz4
                have HB4 := Lib.hid hb4
                clear hz4 hb4
                go_wp2_with fail
                refine (A3.out _ _ (by first | exact HB4.out | exact HB4.out.drew) (by first | exact HZ4.out | exact HZ4.out.below (Below.refl _ _).drew)).mono ?_
                rintro e w5 ⟨rfl, hb5⟩
                have HB5 := Lib.hid hb5
                clear hb5
                go_wp2_with fail
                refine (A4.out _ (by first | exact HB5.out | exact HB5.out.drew)).mono ?_
                rintro e w6 ⟨rfl, hb6⟩
                have HB6 := Lib.hid hb6
                clear hb6
                go_wp2_with fail
                refine (A5.out _ (by first | exact HB6.out | exact HB6.out.drew)).mono ?_
                rintro e w7 ⟨rfl, hb7⟩
                have HB7 := Lib.hid hb7
                clear hb7
                go_wp2_with fail
                refine (A6.out _ (by first | exact HB7.out | exact HB7.out.drew)).mono ?_
                rintro e w8 ⟨rfl, hb8⟩
                have HB8 := Lib.hid hb8
                clear hb8
                go_wp2_with fail
                go_meet
                exact ⟨rfl, _, HB8.out, HG2.out⟩
            case rest =>
              as_aux_lemma =>
                obtain ⟨rfl, HE⟩ := hcut
                go_wp2_with fail
                go_roundg (acts.length - (k + 1))
                case measure => omega
                case rel =>
                  obtain ⟨wq, hbq, hgq⟩ := HE.out
                  exact ⟨k + 1, c2, W2, F2, _, _, xs2, x1, x2, by omega, by omega, rfl, by go_num, rfl, rfl, by omega, by omega, hgq.more hbq, HEV2.out⟩
      · have hk8 : ¬ (k : Int) < 80 := by omega
        go_wp2_with fail
        go_ret
        exact ⟨rfl, HG.out.p.below⟩
    · have hki : ¬ (k : Int) < (acts.length : Int) := by omega
      go_wp2_with fail
      go_ret
      exact ⟨rfl, HG.out.p.below⟩
end Go.Proofs.Ytkdhajiplonloaa
